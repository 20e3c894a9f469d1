import PyProof.Rows.All
import Wide.All
import OpenK.AllK
import Wide.FinOn
import HandS.ForMost
import HandS.ForExc
import HandS.Set
import HandS.SetFor
import HandS.SetKeys
import HandS.TupSets
import PyProof.Rows.SortShellAny
import PyProof.Rows.SortStr
import HandS.Gcd
import HandS.Wide
import HandS.IsInst
import HandS.TryMany
import HandS.Flow
import HandS.Defaults
import HandS.Lambda
import KE.KRevIter
import KE.KDictList
import Flt.RightSqrt
import HandS.Style
import HandS.Deep
import HandS.More
import HandS.AnyAll
import HandS.DictComp
import HandS.Keys
import KE.KDictCopyH
import KE.SortKeyHeap
import KE.KLam
import HandS.Codes
import HandS.StrMore
import HandS.WideBits
import HandS.TupLe
import HandS.EndOwn
import KE.KNestM
import PyProof.P3In
import HandS.Dict
import HandS.Iter
import HandS.Zip
import PyProof.Rows.StrMeet
import PySem.Challenge.RW_mitrehouse_k06_lengths
set_option Elab.async false
set_option linter.all false
set_option maxRecDepth 100000
set_option maxHeartbeats 2000000
set_option maxHeartbeats 1000000
/-! ### sets of ints and texts whose order is left open: add, in, made of a list, sorted -/
namespace M3
open PySem PySem.Spec PyProof.Rows L2
instance decMemK (k : Key) (L : List Key) : Decidable (k ∈ L) := @List.instDecidableMemOfLawfulBEq _ instBEqOfDecidableEq _ _ _
def keyX (v : Value) : Key := match v with
  | .int i _ => .inl i
  | .str x _ => .inr x
  | _ => .inl 0
/-- an entry: a key beside its hash -/
def GoodX (w : World) (e : Int × Value) : Prop := ∃ k : Key, keyIs k e.2 = true ∧ e.1 = keyH w k
/-- entries es, table t: they tell the keys L, and can be walked -/
structure Tells0 (w : World) (es : Array (Int × Value)) (t : SetTable) (L : List Key) : Prop where
  good : ∀ e ∈ es.toList, GoodX w e
  perm : (es.toList.map fun e => keyX e.2).Perm L
  once : L.Nodup
  few : es.size < scanBound
  fit : t.fits es.size = true
  rise : Ris t.place.toList
  led : w.params.followText "set-order" = true ∨ t.led = true
/-- the set at a has just the keys L -/
def SetX (w : World) (h : Heap) (a : Addr) (L : List Key) : Prop :=
  ∃ (ob : Obj) (es : Array (Int × Value)) (ep : Nat) (t : SetTable), h.get? a = some ob ∧ ob.ExactSet ∧ ob.data = .set es ep t ∧ Tells0 w es t L
section
variable {P : Program} {w : World} {h h' : Heap} {a : Addr} {L : List Key} {es : Array (Int × Value)} {t : SetTable}
theorem keyX_is {k : Key} {v : Value} (h : keyIs k v = true) : keyX v = k ∧ v.scannable = true := by
  rcases keyIs_shape h with ⟨i, t, rfl, rfl⟩ | ⟨x, t, rfl, rfl⟩ <;> exact ⟨rfl, rfl⟩
theorem SetX.at (R : SetX w h a L) (k : ∀ ob, h.get? a = some ob → h'.get? a = some ob) : SetX w h' a L := by
  obtain ⟨ob, es, ep, t, e, r⟩ := R
  exact ⟨ob, es, ep, t, k ob e, r⟩
theorem Tells0.elems (T : Tells0 w es t L) : ElemsOf (mixKind P w) es.toList := fun e he => by
  obtain ⟨k, h1, h2⟩ := T.good e he
  exact ⟨⟨k, h1, h2⟩, (keyX_is h1).2⟩
theorem Tells0.size (T : Tells0 w es t L) : es.size = L.length := by
  rw [← T.perm.length_eq, List.length_map, Array.length_toList]
theorem Tells0.mem (T : Tells0 w es t L) (k : Key) : k ∈ L ↔ ∃ e ∈ es.toList, keyIs k e.2 = true := by
  rw [← T.perm.mem_iff, List.mem_map]
  refine ⟨fun ⟨e, he, q⟩ => ⟨e, he, ?_⟩, fun ⟨e, he, q⟩ => ⟨e, he, (keyX_is q).1⟩⟩
  obtain ⟨k0, h1, _⟩ := T.good e he
  rw [← q, (keyX_is h1).1]
  exact h1
theorem SetX.setOf (R : SetX w h a L) : h.SetOf (mixKind P w) a (fun k => decide (k ∈ L)) L.length := by
  obtain ⟨ob, es, ep, t, e, hx, hd, T⟩ := R
  exact ⟨ob, es, ep, t, e, hx, hd, T.elems, fun k => decide_eq_true_iff.trans (T.mem k), T.few, T.fit, T.size⟩
end
/-- one more key -/
def addL (L : List Key) (k : Key) : List Key := if k ∈ L then L else k :: L
theorem addL_len (L : List Key) (k : Key) : (addL L k).length ≤ L.length + 1 := by
  unfold addL
  split <;> simp
theorem mem_addL {L : List Key} {k j : Key} : j ∈ addL L k ↔ j = k ∨ j ∈ L := by
  unfold addL
  split
  · rename_i h
    exact ⟨.inr, fun z => z.elim (fun e => e ▸ h) id⟩
  · exact List.mem_cons
theorem addL_nodup {L : List Key} {k : Key} (n : L.Nodup) : (addL L k).Nodup := by
  unfold addL
  split
  · exact n
  · exact List.nodup_cons.mpr ⟨‹_›, n⟩
def setL (ks : List Key) : List Key := ks.foldl addL []
theorem foldl_addL : ∀ (ks M : List Key), M.Nodup → (ks.foldl addL M).Nodup ∧ ∀ j, j ∈ ks.foldl addL M ↔ j ∈ M ∨ j ∈ ks
  | [], M, n => ⟨n, fun j => by simp⟩
  | k :: ks, M, n => by
    obtain ⟨h1, h2⟩ := foldl_addL ks (addL M k) (addL_nodup n)
    refine ⟨h1, fun j => (h2 j).trans ?_⟩
    rw [mem_addL, List.mem_cons]
    constructor
    · rintro ((z | z) | z)
      · exact .inr (.inl z)
      · exact .inl z
      · exact .inr (.inr z)
    · rintro (z | z | z)
      · exact .inl (.inr z)
      · exact .inl (.inl z)
      · exact .inr z
theorem setL_nodup (ks : List Key) : (setL ks).Nodup := (foldl_addL ks [] List.nodup_nil).1
theorem mem_setL {ks : List Key} {j : Key} : j ∈ setL ks ↔ j ∈ ks := by
  have := (foldl_addL ks [] List.nodup_nil).2 j
  simpa [setL] using this
section
variable {P : Program} {w : World} {A : Around} {E : Value → Shared → Prop} {s : Shared} {a : Addr} {L : List Key}
/-- the table gave way, or not: nothing to see -/
theorem gave_any (b : Bool) {u : Shared} {Z : Unit → Shared → Prop} (z : Z () u) : wpAny (model P w) A (match b with | true => rule "set.scan.the-table-gave-way" | false => pure ()) Z E u := by
  cases b
  · exact wpAny_pure z
  · first | exact wpAny_rule z | exact wpAny_pure z
/-- the new entries are laid, and laid anew where the table is too full -/
theorem lay_tail {g : Bool → Sem Unit} (hg : ∀ (b : Bool) (u : Shared) (Z : Unit → Shared → Prop), Z () u → wpAny (model P w) A (g b) Z E u) {ob : Obj} {es es1 : Array (Int × Value)} {ep : Nat} {t t1 : SetTable} {M : List Key} {was : Bool} {Z : Option Bool → Shared → Prop}
    (e : s.heap.get? a = some ob) (hx : ob.ExactSet) (hd : ob.data = .set es ep t) (T : Tells0 w es1 t1 M) (fin : ∀ h', Heap.SameBut a s.heap h' → SetX w h' a M → Z (some true) { s with heap := h' }) :
    wpAny (model P w) A (do storeSet a es1 t1; if (!was && t1.tooFull) = true then do { g (relayAll t1 es1 (SetTable.grown es1.size)).2.2; storeSet a (relayAll t1 es1 (SetTable.grown es1.size)).1 (relayAll t1 es1 (SetTable.grown es1.size)).2.1; pure (some true) } else pure (some true)) Z E s := by
  have one := Heap.SameBut.update s.heap a (Obj.putSet es1 t1)
  have at1 := store_at (es' := es1) (t' := t1) e hd
  refine wpAny_bind (wpAny_storeSet_of e hd ?_ (fits_of_scanBound T.few))
  split
  · have q1 := relayAll_perm t1 es1 (SetTable.grown es1.size)
    have q2 := relayAll_fits t1 es1 (SetTable.grown es1.size)
    have q3 := relayAll_ris t1 es1 (SetTable.grown es1.size)
    have q4 := relayAll_led t1 es1 (SetTable.grown es1.size)
    revert q1 q2 q3 q4
    generalize relayAll t1 es1 (SetTable.grown es1.size) = made
    obtain ⟨es2, t2, gave⟩ := made
    dsimp only
    intro q1 q2 q3 q4
    have few2 : es2.size < scanBound := by
      have e3 := q1.length_eq
      rw [Array.length_toList, Array.length_toList] at e3
      rw [e3]
      exact T.few
    refine wpAny_bind (hg _ _ _ (wpAny_bind (wpAny_storeSet_of at1 rfl (wpAny_pure (fin _ (one.trans (Heap.SameBut.update _ a _)) ⟨_, es2, _, t2, store_at (es' := es2) (t' := t2) at1 rfl, hx, rfl, ?_⟩)) (fits_of_scanBound few2))))
    exact ⟨fun e2 h2 => T.good e2 (q1.mem_iff.mp h2), (q1.map _).trans T.perm, T.once, few2, q2, q3, by rw [q4]; exact T.led⟩
  · exact wpAny_pure (fin _ one ⟨_, es1, _, t1, at1, hx, rfl, T⟩)
theorem setX_hashed {k : Key} {x : Value} {Q : Bool → Shared → Prop} (hk : keyIs k x = true) (R : SetX w s.heap a L) (room : L.length + 1 < scanBound) (fin : ∀ b h', Heap.SameBut a s.heap h' → SetX w h' a (addL L k) → Q b { s with heap := h' }) :
    wpAny (model P w) A (setAddHashed a x (keyH w k)) Q E s := by
  obtain ⟨ob, es, ep, t, at0, hx, hd, T⟩ := R
  obtain ⟨kx, sc⟩ := keyX_is hk
  unfold setAddHashed setAddHashedIn
  refine wpAny_holding (wpAny_bind (wpAny_setState_of at0 hd T.fit ?_))
  dsimp only
  rw [byScan_of sc T.few (T.elems (P := P)), if_pos rfl]
  unfold setAddByScan
  refine wpAny_bind (wpAny_bind (wpAny_rule (wpAny_bind (wpAny_setScan_of (knd := mixKind P w) (k := k) hk at0 hd T.fit T.elems ?_))))
  cases look : es.toList.findIdx? fun e => (mixKind P w).is k e.2 with
  | some j =>
    obtain ⟨lt, met, _⟩ := List.findIdx?_eq_some_iff_getElem.mp look
    have inL : k ∈ L := (T.mem k).mpr ⟨_, List.getElem_mem lt, met⟩
    dsimp only
    refine wpAny_pure (wpAny_pure (fin false s.heap (.refl a s.heap) ?_))
    unfold addL
    rw [if_pos inL]
    exact ⟨ob, es, ep, t, at0, hx, hd, T⟩
  | none =>
    have out : k ∉ L := fun z => by
      obtain ⟨e, he, q⟩ := (T.mem k).mp z
      exact Bool.noConfusion (q.symm.trans (List.findIdx?_eq_none_iff.mp look e he))
    have fin2 : ∀ h', Heap.SameBut a s.heap h' → SetX w h' a (k :: L) → Q true { s with heap := h' } := fun h' sb r => fin true h' sb (by unfold addL; rw [if_neg out]; exact r)
    have n1 := layNew_perm t es (keyH w k) x
    have n2 := layNew_fits t es (keyH w k) x
    have n3 := layNew_ris t es (keyH w k) x T.rise
    have n4 := layNew_led t es (keyH w k) x
    dsimp only
    show wpAny _ _ (do _; _) _ _ _
    revert n1 n2 n3 n4
    generalize layNew t es (keyH w k) x = made
    obtain ⟨es1, t1, was, gave⟩ := made
    dsimp only
    intro n1 n2 n3 n4
    rw [Array.toList_push] at n1
    have n5 : es1.toList.Perm ((keyH w k, x) :: es.toList) := n1.trans (List.perm_append_singleton _ _)
    have T1 : Tells0 w es1 t1 (k :: L) := by
      refine ⟨fun e he => ?_, (n5.map _).trans ?_, List.nodup_cons.mpr ⟨out, T.once⟩, ?_, n2, n3, by rw [n4]; exact T.led⟩
      · rcases List.mem_cons.mp (n5.mem_iff.mp he) with rfl | z
        · exact ⟨k, hk, rfl⟩
        · exact T.good e z
      · rw [List.map_cons, kx]
        exact T.perm.cons k
      · have e3 := n5.length_eq
        rw [Array.length_toList, List.length_cons, Array.length_toList, T.size] at e3
        rw [e3]
        exact room
    refine wpAny_bind (gave_any _ ?_)
    split
    · refine wpAny_bind ?_
      rw [hashByValue_scannable 8 sc]
      refine wpAny_pure (lay_tail (fun b u Z z => gave_any b z) at0 hx hd ?_ fun h' sb r => wpAny_pure (fin2 h' sb r))
      first
        | exact T1
        | (split <;> first | exact T1 | exact ⟨T1.good, T1.perm, T1.once, T1.few, SetTable.fits_plain_off T1.fit, T1.rise, T1.led⟩)
    · refine wpAny_bind (wpAny_pure ?_)
      rw [if_pos rfl]
      exact lay_tail (fun b u Z z => gave_any b z) at0 hx hd T1 fun h' sb r => wpAny_pure (fin2 h' sb r)
theorem setX_put {k : Key} {x : Value} {Q : Bool → Shared → Prop} (hk : keyIs k x = true) (R : SetX w s.heap a L) (room : L.length + 1 < scanBound) (fin : ∀ b h', Heap.SameBut a s.heap h' → SetX w h' a (addL L k) → Q b { s with heap := h', toks := s.toks + 1 }) :
    wpAny (model P w) A (setAdd a x) Q E s := by
  unfold setAdd
  exact wpAny_holding (wpAny_bind ((mixKind P w).pyHash (v := x) (k := k) hk (setX_hashed (s := { s with toks := s.toks + 1 }) hk R room fin)))
/-- found.add(k) -/
theorem setX_add {k : Key} {x : Value} {Q : Value → Shared → Prop} (hk : keyIs k x = true) (R : SetX w s.heap a L) (room : L.length + 1 < scanBound) (fin : ∀ h', Heap.SameBut a s.heap h' → SetX w h' a (addL L k) → Q .none { s with heap := h', toks := s.toks + 1 }) :
    wpAny (model P w) A (call (.builtin "set.add") [.ref a, x]) Q E s := by
  refine wpAny_call_entry F.slot_set_add (R.setOf (P := P)).typeIs F.entry_set_add ?_ (F.args_set_add_2 _ _)
  unfold Builtin.«set.add» Builtin.Frozenset.oneOther
  simp only [List.isEmpty_nil, bind_assoc]
  unfold Builtin.Frozenset.addrOf
  refine wpAny_bind (wpAny_pure ?_)
  try dsimp only
  refine wpAny_bind (wpAny_pure ?_)
  try dsimp only
  refine wpAny_bind (setX_put hk R room fun b h' sb r => ?_)
  show wpAny _ _ (ret Value.none) _ _ _
  exact wpAny_pure ⟨_, rfl, fin h' sb r⟩
/-- an empty set, new -/
abbrev freshSet (w : World) : Obj := { cls := .type "set", dict := none, data := .set #[] 0 (.fresh 0 0 (!w.params.followText "set-order")) }
theorem setX_fresh (w : World) {h : Heap} {a : Addr} (e : h.get? a = some (freshSet w)) : SetX w h a [] := by
  refine ⟨_, #[], 0, _, e, ⟨rfl, rfl, rfl⟩, rfl, fun e he => by simp at he, by simp, List.nodup_nil, by decide, rfl, List.Pairwise.nil, ?_⟩
  generalize w.params.followText "set-order" = b
  cases b
  · exact .inr rfl
  · exact .inl rfl
/-- the loop that puts what an iterator yields into a set -/
theorem put_loop {it : Addr} {fp wr : List Addr} {G : Array GenState → Array GenState → Prop} {n : Nat} {Pv : Nat → Value → Prop} {St : Nat → Shared → Prop} {R : Result → Shared → Prop} (W : WalksS P w A.in1 it fp wr G n Pv St) (T : Addr) (far : T ∉ fp)
    (ks : List Key) (hn : n = ks.length) (few : n < scanBound) (is : ∀ i v, Pv i v → ∃ k, ks[i]? = some k ∧ keyIs k v = true) : ∀ (left i : Nat) (u : Shared), n - i = left → i ≤ n → St i u → SetX w u.heap T (setL (ks.take i)) → (setL (ks.take i)).length ≤ i →
      (∀ u', Moved (T :: wr) G u u' → SetX w u'.heap T (setL ks) → R (.ok (.ret .none)) u') → codeAny (model P w) A (.builtin "set.update.loop" ⟨[.ref T, .ref it], []⟩) R u := by
  have far2 : T ∉ wr := fun z => far (W.sub _ z)
  have wide : ∀ b ∈ wr, b ∈ T :: wr := fun b z => List.mem_cons_of_mem _ z
  intro left
  induction left with
  | zero =>
    intro i u e1 e2 st R0 _ fin
    have ei : i = n := by omega
    rw [ei] at st R0
    rw [hn, List.take_length] at R0
    refine codeAny_builtin F.entry_set_update_loop ?_
    rw [Around.under_plainId F.plain_set_update_loop _]
    show wpAny _ A.in1 (pyNext (.ref it) >>= _) _ _ u
    exact wpAny_bind (W.done u _ _ st fun u' mv => (show wpAny _ A.in1 (ret Value.none) _ _ u' from wpAny_pure (fin u' (mv.mono wide) (R0.at fun ob z => mv.heap T ob far2 z))))
  | succ left again =>
    intro i u e1 e2 st R0 len fin
    have lt : i < n := by omega
    refine codeAny_builtin F.entry_set_update_loop ?_
    rw [Around.under_plainId F.plain_set_update_loop _]
    show wpAny _ A.in1 (pyNext (.ref it) >>= _) _ _ u
    refine wpAny_bind (W.item i u _ _ lt st fun v u1 pv st1 mv => ?_)
    obtain ⟨k, atk, hk⟩ := is i v pv
    have next : setL (ks.take (i + 1)) = addL (setL (ks.take i)) k := by
      unfold setL
      rw [List.take_succ, atk]
      simp [List.foldl_append]
    show wpAny _ A.in1 (holding [v] (setAdd T v) >>= _) _ _ u1
    refine wpAny_bind (wpAny_holding (setX_put hk (R0.at fun ob z => mv.heap T ob far2 z) (by omega) fun b h2 sb R1 => ?_))
    refine wpAny_pure ⟨plainId_quiet F.plain_set_update_loop _, again (i + 1) _ (by omega) lt (W.frame _ u1 _ _ st1 (Nat.le_succ _) fun b hb ob z => (sb.2 b fun y => far (y ▸ hb)).trans z) (by rw [next]; exact R1) ?_ fun u2 mv2 R2 => ?_⟩
    · rw [next]
      exact Nat.le_trans (addL_len _ _) (Nat.succ_le_succ len)
    · exact fin u2 (Moved.trans W.gtrans ((mv.mono wide).then_heap (Nat.le_succ _) fun b ob nb z => (sb.2 b fun y => nb (y ▸ List.mem_cons_self)).trans z) mv2) R2
set_option maxHeartbeats 3200000 in
/-- set(e), e a list of keys -/
theorem setX_of_list {l : Addr} {items : Array Value} {ks : List Key} {Q : Value → Shared → Prop} (calm : A.handled = none) (hl : s.heap.IsList l items) (sz : items.size = ks.length) (few : items.size < scanBound) (is : ∀ (i : Nat) (v : Value), items[i]? = some v → ∃ k, ks[i]? = some k ∧ keyIs k v = true)
    (fin : ∀ h' tk, SetX w h' s.heap.objs.size (setL ks) → (∀ b ob, s.heap.get? b = some ob → h'.get? b = some ob) → Q (.ref s.heap.objs.size) { s with heap := h', toks := tk }) : wpAny (model P w) A (call (.type "set") [.ref l]) Q E s := by
  obtain ⟨_, _, mro⟩ := F.called_set.mro
  have f1 := F.called_set.made; have f2 := F.called_set.sub; have f3 := F.called_set.notType; have f4 := F.called_set.canCreate; have f5 := F.typeCall_set_1 (.ref l)
  refine wpAny_call (codeAny_of_tree (show wpAny _ _ (callAny (.type "set") _) _ _ _ from wpAny_pure ⟨Code.quiet_builtin _ (by decide +kernel), codeAny_builtin F.entry_type_call ?_⟩))
  rw [Around.under_plain (weight_type_call_type "set" [.ref l] []) rfl]
  repeat (any_goals (first | assumption | wp_step))
  refine codeAny_mono (code_set_led1 (.ref l) (E := E) (Q₁ := fun x u => x = .ref s.heap.objs.size ∧ u = { s with heap := s.heap.push (freshSet w) }) ⟨rfl, rfl⟩) fun r u hr => ?_
  rcases r with e | fl
  · exact hr
  cases fl with
  | next => exact hr.elim
  | brk => exact hr.elim
  | cont => exact hr.elim
  | ret x =>
    obtain ⟨rfl, rfl⟩ := hr
    have new : (s.heap.push (freshSet w)).get? s.heap.objs.size = some (freshSet w) := Heap.get?_push_size _ rfl
    have newT : Shared.TypeIs { s with heap := s.heap.push (freshSet w) } (.ref s.heap.objs.size) "set" := ⟨_, new, rfl⟩
    have g1 := F.called_set.init.lookup; have g2 := F.called_set.init.bind (.ref s.heap.objs.size)
    repeat (any_goals (first | assumption | wp_step))
    refine codeAny_mono (codeAny_call_builtin (R := wants (fun r u => r = .none ∧ ∃ h' tk, u = { s with heap := h', toks := tk } ∧ SetX w h' s.heap.objs.size (setL ks) ∧ ∀ b ob, s.heap.get? b = some ob → h'.get? b = some ob) E) F.called_set.init.plain F.entry_set_init (check_set_init_1 newT ?_)) fun r u hr => ?_
    · obtain ⟨⟨c0, d0, dt0, sl0⟩, at0, isT, n0, dat0⟩ := hl
      dsimp only at isT dat0
      cases isT
      cases dat0
      have lt := Heap.lt_size at0
      have at1 : (s.heap.push (freshSet w)).get? l = some ⟨.type "list", d0, .seq items n0, sl0⟩ := Heap.get?_push_of_some _ at0
      have seq1 : (s.heap.push (freshSet w)).IsList l items := ⟨_, at1, rfl, n0, rfl⟩
      have k1 := F.sub_list_set; have k2 := F.sub_list_frozenset
      have k3 : (Value.type "list" == Value.type "dict") = false := by decide
      unfold Builtin.«set.__init__» noKeywords Builtin.Frozenset.updateFrom
      generalize walkIt : pyIter = PI
      wp_walk
      subst walkIt
      have sz1 : (s.heap.push (freshSet w)).objs.size = s.heap.objs.size + 1 := Heap.size_push ..
      have far : s.heap.objs.size ∉ [(s.heap.push (freshSet w)).objs.size, l] := by
        rw [sz1]
        intro z
        rcases List.mem_cons.mp z with z | z
        · exact Nat.lt_irrefl _ (Nat.lt_of_lt_of_eq (Nat.lt_succ_self s.heap.objs.size) z.symm)
        · exact Nat.ne_of_gt lt (List.mem_singleton.mp z)
      have apart : l ≠ (s.heap.push (freshSet w)).objs.size := by
        rw [sz1]
        exact Nat.ne_of_lt (Nat.lt_succ_of_lt lt)
      have calm3 : A.in1.in1.in1.handled = none := by simp [calm]
      refine wpAny_pyIter_list seq1 (wpAny_bind (wpAny_runValue (put_loop ((Walks.list calm3 _ l apart items).toS) s.heap.objs.size far ks sz few is (items.size - 0) 0 _ rfl (Nat.zero_le _) ⟨⟨_, Heap.get?_push_size _ rfl, rfl, rfl⟩, seq1.push _⟩ (setX_fresh w (Heap.get?_push_of_some _ new)) (Nat.le_refl _) fun u mv R => ?_)))
      obtain ⟨h2, g2, d2, tk2, os2⟩ := u
      cases (show g2 = s.gens from mv.gens)
      cases (show d2 = s.drawn from mv.drawn)
      cases (show os2 = s.os from mv.os)
      refine (show wpAny _ _ _ _ _ _ from wpAny_pure (show wpAny _ _ (ret Value.none) _ _ _ from wpAny_pure ⟨rfl, h2, tk2, rfl, R, fun b ob z => ?_⟩))
      have ltb := Heap.lt_size z
      refine mv.heap b ob (fun y => ?_) (Heap.get?_push_of_some _ (Heap.get?_push_of_some _ z))
      rcases List.mem_cons.mp y with y | y
      · exact Nat.ne_of_lt ltb y
      · have y := List.mem_singleton.mp y
        rw [sz1] at y
        exact Nat.ne_of_lt (Nat.lt_succ_of_lt ltb) y
    · rcases r with e | fl
      · exact hr
      cases fl with
      | next => exact hr.elim
      | brk => exact hr.elim
      | cont => exact hr.elim
      | ret x =>
        obtain ⟨rfl, h2, tk2, rfl, R, kept⟩ := hr
        repeat (any_goals (first | assumption | wp_step))
        exact fin _ _ R kept
set_option maxHeartbeats 3200000 in
/-- set(e), e a tuple of keys -/
theorem setX_of_tuple {l : Addr} {items : Array Value} {ks : List Key} {Q : Value → Shared → Prop} (calm : A.handled = none) (hl : s.heap.IsTuple l items) (sz : items.size = ks.length) (few : items.size < scanBound) (is : ∀ (i : Nat) (v : Value), items[i]? = some v → ∃ k, ks[i]? = some k ∧ keyIs k v = true)
    (fin : ∀ h' tk, SetX w h' s.heap.objs.size (setL ks) → (∀ b ob, s.heap.get? b = some ob → h'.get? b = some ob) → Q (.ref s.heap.objs.size) { s with heap := h', toks := tk }) : wpAny (model P w) A (call (.type "set") [.ref l]) Q E s := by
  obtain ⟨_, _, mro⟩ := F.called_set.mro
  have f1 := F.called_set.made; have f2 := F.called_set.sub; have f3 := F.called_set.notType; have f4 := F.called_set.canCreate; have f5 := F.typeCall_set_1 (.ref l)
  refine wpAny_call (codeAny_of_tree (show wpAny _ _ (callAny (.type "set") _) _ _ _ from wpAny_pure ⟨Code.quiet_builtin _ (by decide +kernel), codeAny_builtin F.entry_type_call ?_⟩))
  rw [Around.under_plain (weight_type_call_type "set" [.ref l] []) rfl]
  repeat (any_goals (first | assumption | wp_step))
  refine codeAny_mono (code_set_led1 (.ref l) (E := E) (Q₁ := fun x u => x = .ref s.heap.objs.size ∧ u = { s with heap := s.heap.push (freshSet w) }) ⟨rfl, rfl⟩) fun r u hr => ?_
  rcases r with e | fl
  · exact hr
  cases fl with
  | next => exact hr.elim
  | brk => exact hr.elim
  | cont => exact hr.elim
  | ret x =>
    obtain ⟨rfl, rfl⟩ := hr
    have new : (s.heap.push (freshSet w)).get? s.heap.objs.size = some (freshSet w) := Heap.get?_push_size _ rfl
    have newT : Shared.TypeIs { s with heap := s.heap.push (freshSet w) } (.ref s.heap.objs.size) "set" := ⟨_, new, rfl⟩
    have g1 := F.called_set.init.lookup; have g2 := F.called_set.init.bind (.ref s.heap.objs.size)
    repeat (any_goals (first | assumption | wp_step))
    refine codeAny_mono (codeAny_call_builtin (R := wants (fun r u => r = .none ∧ ∃ h' tk, u = { s with heap := h', toks := tk } ∧ SetX w h' s.heap.objs.size (setL ks) ∧ ∀ b ob, s.heap.get? b = some ob → h'.get? b = some ob) E) F.called_set.init.plain F.entry_set_init (check_set_init_1 newT ?_)) fun r u hr => ?_
    · obtain ⟨⟨c0, d0, dt0, sl0⟩, at0, isT, n0, dat0⟩ := hl
      dsimp only at isT dat0
      cases isT
      cases dat0
      have lt := Heap.lt_size at0
      have at1 : (s.heap.push (freshSet w)).get? l = some ⟨.type "tuple", d0, .seq items n0, sl0⟩ := Heap.get?_push_of_some _ at0
      have seq1 : (s.heap.push (freshSet w)).IsTuple l items := ⟨_, at1, rfl, n0, rfl⟩
      have k1 := F.sub_tuple_set; have k2 := F.sub_tuple_frozenset
      have k3 : (Value.type "tuple" == Value.type "dict") = false := by decide
      unfold Builtin.«set.__init__» noKeywords Builtin.Frozenset.updateFrom
      generalize walkIt : pyIter = PI
      wp_walk
      subst walkIt
      have sz1 : (s.heap.push (freshSet w)).objs.size = s.heap.objs.size + 1 := Heap.size_push ..
      have far : s.heap.objs.size ∉ [(s.heap.push (freshSet w)).objs.size, l] := by
        rw [sz1]
        intro z
        rcases List.mem_cons.mp z with z | z
        · exact Nat.lt_irrefl _ (Nat.lt_of_lt_of_eq (Nat.lt_succ_self s.heap.objs.size) z.symm)
        · exact Nat.ne_of_gt lt (List.mem_singleton.mp z)
      have apart : l ≠ (s.heap.push (freshSet w)).objs.size := by
        rw [sz1]
        exact Nat.ne_of_lt (Nat.lt_succ_of_lt lt)
      have calm3 : A.in1.in1.in1.handled = none := by simp [calm]
      refine wpAny_pyIter_tuple seq1 (wpAny_bind (wpAny_runValue (put_loop ((Walks.tuple calm3 _ l apart items).toS) s.heap.objs.size far ks sz few is (items.size - 0) 0 _ rfl (Nat.zero_le _) ⟨⟨_, Heap.get?_push_size _ rfl, rfl, rfl⟩, seq1.push _⟩ (setX_fresh w (Heap.get?_push_of_some _ new)) (Nat.le_refl _) fun u mv R => ?_)))
      obtain ⟨h2, g2, d2, tk2, os2⟩ := u
      cases (show g2 = s.gens from mv.gens)
      cases (show d2 = s.drawn from mv.drawn)
      cases (show os2 = s.os from mv.os)
      refine (show wpAny _ _ _ _ _ _ from wpAny_pure (show wpAny _ _ (ret Value.none) _ _ _ from wpAny_pure ⟨rfl, h2, tk2, rfl, R, fun b ob z => ?_⟩))
      have ltb := Heap.lt_size z
      refine mv.heap b ob (fun y => ?_) (Heap.get?_push_of_some _ (Heap.get?_push_of_some _ z))
      rcases List.mem_cons.mp y with y | y
      · exact Nat.ne_of_lt ltb y
      · have y := List.mem_singleton.mp y
        rw [sz1] at y
        exact Nat.ne_of_lt (Nat.lt_succ_of_lt ltb) y
    · rcases r with e | fl
      · exact hr
      cases fl with
      | next => exact hr.elim
      | brk => exact hr.elim
      | cont => exact hr.elim
      | ret x =>
        obtain ⟨rfl, h2, tk2, rfl, R, kept⟩ := hr
        repeat (any_goals (first | assumption | wp_step))
        exact fin _ _ R kept

/-! sorted(set) -/
def unS : Key → Str
  | .inr x => x
  | .inl _ => ⟨#[]⟩
def unI : Key → Int
  | .inl i => i
  | .inr _ => 0
theorem collected {Q : List Value → Shared → Prop} (R : SetX w s.heap a L) (calm : A.handled = none) (fin : ∀ u vs, (∀ b ob, s.heap.get? b = some ob → u.heap.get? b = some ob) → s.heap.objs.size ≤ u.heap.objs.size → u.gens = s.gens → u.os = s.os → (vs.map keyX).Perm L → (∀ v ∈ vs, ∃ k, keyIs k v = true) → Q vs u) :
    wpAny (model P w) A (collect (.ref a)) Q E s := by
  obtain ⟨ob, es, ep, t, at0, hx, hd, T⟩ := R
  refine collect_set calm ⟨ob, at0, hx.1, hd⟩ T.fit T.few T.rise T.led fun u vs kept big g o pm => fin u vs kept big g o ?_ fun v hv => ?_
  · have q := pm.map keyX
    rw [List.map_map] at q
    exact q.trans T.perm
  · obtain ⟨e, he, rfl⟩ := List.mem_map.mp (pm.mem_iff.mp hv)
    obtain ⟨k, h1, _⟩ := T.good e he
    exact ⟨k, h1⟩
theorem key_strs {L : List Str} {vs : List Value} (pm : (vs.map keyX).Perm (L.map Sum.inr)) (is : ∀ v ∈ vs, ∃ k, keyIs k v = true) : StrsAre vs (vs.map strOf) ∧ (vs.map strOf).Perm L := by
  have each : ∀ v ∈ vs, ∃ x t, v = .str x t := fun v hv => by
    obtain ⟨k, hk⟩ := is v hv
    have z : keyX v ∈ L.map Sum.inr := pm.mem_iff.mp (List.mem_map_of_mem hv)
    obtain ⟨x, _, e⟩ := List.mem_map.mp z
    rcases keyIs_shape hk with ⟨i, t, _, rfl⟩ | ⟨y, t, _, rfl⟩
    · cases e
    · exact ⟨y, t, rfl⟩
  refine ⟨strsAre_map vs each, ?_⟩
  have q := pm.map unS
  rw [List.map_map, List.map_map] at q
  have e1 : vs.map (unS ∘ keyX) = vs.map strOf := List.map_congr_left fun v hv => by
    obtain ⟨x, t, rfl⟩ := each v hv
    rfl
  have e2 : L.map (unS ∘ Sum.inr) = L := by
    rw [show (unS ∘ (Sum.inr : Str → Key)) = id from rfl, List.map_id]
  rw [e1, e2] at q
  exact q
theorem key_ints {L : List Int} {vs : List Value} (pm : (vs.map keyX).Perm (L.map Sum.inl)) (is : ∀ v ∈ vs, ∃ k, keyIs k v = true) : IntsAre vs (vs.map Builtin.Re.reRawOf) ∧ (vs.map Builtin.Re.reRawOf).Perm L := by
  have each : ∀ v ∈ vs, ∃ i t, v = .int i t := fun v hv => by
    obtain ⟨k, hk⟩ := is v hv
    have z : keyX v ∈ L.map Sum.inl := pm.mem_iff.mp (List.mem_map_of_mem hv)
    obtain ⟨x, _, e⟩ := List.mem_map.mp z
    rcases keyIs_shape hk with ⟨i, t, _, rfl⟩ | ⟨y, t, _, rfl⟩
    · exact ⟨i, t, rfl⟩
    · cases e
  refine ⟨ints_of vs each, ?_⟩
  have q := pm.map unI
  rw [List.map_map, List.map_map] at q
  have e1 : vs.map (unI ∘ keyX) = vs.map Builtin.Re.reRawOf := List.map_congr_left fun v hv => by
    obtain ⟨x, t, rfl⟩ := each v hv
    rfl
  have e2 : L.map (unI ∘ Sum.inl) = L := by
    rw [show (unI ∘ (Sum.inl : Int → Key)) = id from rfl, List.map_id]
  rw [e1, e2] at q
  exact q
/-- what stands behind sorted(set): a new list at p -/
structure Sorted0 (s u : Shared) (p : Addr) (out : Array Value) : Prop where
  kept : ∀ b ob, s.heap.get? b = some ob → u.heap.get? b = some ob
  gens : u.gens = s.gens
  os : u.os = s.os
  new : s.heap.objs.size ≤ p
  lst : ∃ c, u.heap.get? p = some (seqObj "list" out c)
theorem sorted0_of {u : Shared} {vs : List Value} {out : Array Value} (kept : ∀ b ob, s.heap.get? b = some ob → u.heap.get? b = some ob) (big : s.heap.objs.size ≤ u.heap.objs.size) (g : u.gens = s.gens) (o : u.os = s.os) :
    Sorted0 s { u with heap := sortedHeap (u.heap.push (seqObj "list" vs.toArray 0)) u.heap.objs.size vs out } u.heap.objs.size out := by
  refine ⟨fun b ob z => ?_, g, o, big, sortedHeap_at (Heap.get?_push_size _ rfl)⟩
  have z1 := kept b ob z
  have lt := Heap.lt_size z1
  exact (sortedHeap_old (Nat.ne_of_lt lt) (by rw [size_push']; exact Nat.lt_succ_of_lt lt)).trans (Heap.get?_push_of_some _ z1)
theorem setX_sortedS {L : List Str} {Q : Value → Shared → Prop} (R : SetX w s.heap a (L.map Sum.inr)) (calm : A.handled = none) (fin : ∀ u p (out : Array Value) ss, Sorted0 s u p out → StrsAre out.toList ss → ss.Perm L → sortedS ss = true → Q (.ref p) u) :
    wpAny (model P w) A (call (.builtin "sorted") [.ref a]) Q E s := by
  refine Calls.call_function_entry kind_sorted plain_sorted entry_sorted (args_sorted1 _) ?_
  unfold Builtin.«sorted»
  refine wpAny_bind (m := checkCount "sorted" 1 1 _) (wpAny_pure (wpAny_bind (collected (A := A.in1) R calm fun u vs kept big g o pm is => ?_)))
  obtain ⟨hS, hP⟩ := key_strs pm is
  have len : vs.length ≤ sizeLine := by
    have e := pm.length_eq
    rw [List.length_map, List.length_map] at e
    obtain ⟨_, es, _, _, _, _, _, T⟩ := R
    have e2 := T.size
    rw [List.length_map] at e2
    have := T.few
    rw [e, ← e2]
    exact fits_of_scanBound this
  refine wpAny_bind (wpAny_newList ?_ len)
  have new : (u.heap.push (seqObj "list" vs.toArray 0)).get? u.heap.objs.size = some (seqObj "list" vs.toArray 0) := Heap.get?_push_size _ rfl
  refine wpAny_bind (wpAny_holding (wpAny_call_entry slot_list_sort ⟨_, new, rfl⟩ entry_list_sort (list_sort_treeKAny strKind_oneLt new hS.keysOf (fun v1 v2 rest e => keyKind_strs (by rw [← e]; exact hS)) len fun st p1 p2 => ⟨_, rfl, ?_⟩) (args_list_sort _)))
  obtain ⟨ss, q1, q2, q3⟩ := sorted_out_str hS p1 p2
  exact wpAny_pure ⟨_, rfl, fin _ _ _ ss (sorted0_of kept big g o) q1 (q2.trans hP) q3⟩
theorem setX_sortedI {L : List Int} {Q : Value → Shared → Prop} (R : SetX w s.heap a (L.map Sum.inl)) (calm : A.handled = none) (fin : ∀ u p (out : Array Value) ns, Sorted0 s u p out → IntsAre out.toList ns → ns.Perm L → ns.Pairwise (· ≤ ·) → Q (.ref p) u) :
    wpAny (model P w) A (call (.builtin "sorted") [.ref a]) Q E s := by
  refine Calls.call_function_entry kind_sorted plain_sorted entry_sorted (args_sorted1 _) ?_
  unfold Builtin.«sorted»
  refine wpAny_bind (m := checkCount "sorted" 1 1 _) (wpAny_pure (wpAny_bind (collected (A := A.in1) R calm fun u vs kept big g o pm is => ?_)))
  obtain ⟨hI, hP⟩ := key_ints pm is
  have len : vs.length ≤ sizeLine := by
    have e := pm.length_eq
    rw [List.length_map, List.length_map] at e
    obtain ⟨_, es, _, _, _, _, _, T⟩ := R
    have e2 := T.size
    rw [List.length_map] at e2
    have := T.few
    rw [e, ← e2]
    exact fits_of_scanBound this
  refine wpAny_bind (wpAny_newList ?_ len)
  have new : (u.heap.push (seqObj "list" vs.toArray 0)).get? u.heap.objs.size = some (seqObj "list" vs.toArray 0) := Heap.get?_push_size _ rfl
  refine wpAny_bind (wpAny_holding (wpAny_call_entry slot_list_sort ⟨_, new, rfl⟩ entry_list_sort (list_sort_treeAny new hI len fun out ns q1 q2 q3 => ⟨_, rfl, ?_⟩) (args_list_sort _)))
  exact wpAny_pure ⟨_, rfl, fin _ _ _ ns (sorted0_of kept big g o) q1 (q2.trans hP) q3⟩
end
/-! ### tracked sets, calls -/
def SetXO (w : World) (a : Addr) (L : List Key) : HO := .ext fun h => SetX w h a L
theorem setXO_new {P : Program} {w : World} {H : Hp} {h : Heap} {a : Addr} {L : List Key} (R : SetX w h a L) : ObjOk P w H h a (SetXO w a L) := by
  have ⟨ob, _, _, _, e, _⟩ := R
  exact ⟨R, ⟨ob, e⟩, fun h1 h2 p k => SetX.at p k⟩
theorem setXO_ne {w : World} {a : Addr} {L : List Key} (ps : Array Value) : SetXO w a L ≠ .tbl ps := fun z => by
  unfold SetXO at z
  cases z
section
variable {X : Cx} {pins : List (Addr × Obj)} {σ : L2.St} {H : Hp} {s : Shared}
theorem setXO_at {a : Addr} {L : List Key} (I : Inv X pins σ H s) (ha : H a = some (SetXO X.w a L)) : SetX X.w s.heap a L := (I.hok a _ ha).1
abbrev rSetNew (w : World) : List V → Hp → VK → Prop := fun xs H Q => xs = [] ∧ ∀ p, H p = none → Q (.ref p) (upd H p (SetXO w p []))
theorem call_setNew {w : World} (hw : X.w = w) : CallR X (.type "set") (rSetNew w) := by
  subst hw
  rintro pins s σ H xs us Q I r ⟨rfl, q⟩
  cases r
  refine setR_new fun _ => ?_
  exact ⟨.ref _, _, I.laid (t' := s.toks) (fun b u e => Heap.get?_push_of_some _ e) (Nat.le_refl _) (setXO_new (setX_fresh X.w (Heap.get?_push_size _ rfl))), rfl, q _ (I.hok.fresh (Nat.le_refl _))⟩
/-- set(e), e a list or a tuple of keys -/
abbrev rSetOf (K : PySem.W.Frag) (w : World) : List V → Hp → VK → Prop := fun xs H Q => ∃ (l : Addr) (ks : List Key), xs = [.ref l] ∧ (SqL K H l (ks.map kV) ∨ SqT K H l (ks.map kV)) ∧ ks.length < scanBound ∧ ∀ p, H p = none → Q (.ref p) (upd H p (SetXO w p (setL ks)))
theorem keys_at {P : Program} {w : World} : ∀ {ks : List Key} {us : List Value}, Vals (ks.map kV) us → us.length = ks.length ∧ ∀ (i : Nat) (v : Value), us[i]? = some v → ∃ k, ks[i]? = some k ∧ keyIs k v = true
  | [], us, r => by
    cases r
    exact ⟨rfl, fun i v e => by simp at e⟩
  | k :: ks, us, r => by
    cases r with
    | cons h r =>
      obtain ⟨e1, e2⟩ := keys_at (P := P) (w := w) r
      refine ⟨congrArg (· + 1) e1, fun i v e => ?_⟩
      cases i with
      | zero =>
        cases e
        exact ⟨k, rfl, kV_is (P := P) (w := w) h⟩
      | succ i => exact e2 i v (by simpa using e)
theorem call_setOf {K : PySem.W.Frag} {w : World} (hK : X.K = K) (hw : X.w = w) (calm : X.calm = true) : CallR X (.type "set") (rSetOf K w) := by
  subst hK hw
  rintro pins s σ H xs us Q I r ⟨l, ks, rfl, hl, few, q⟩
  rw [Vals.ref1 r]
  have hn : H s.heap.objs.size = none := I.hok.fresh (Nat.le_refl _)
  rcases hl with hl | hl
  · obtain ⟨its, rv, pl, _⟩ := I.list hl
    obtain ⟨e1, e2⟩ := keys_at (P := X.prog) (w := X.w) rv
    refine setX_of_list (ks := ks) (I.ok.hd calm) pl.isList (by simpa using e1) (by simpa [e1] using few) (fun i v e => e2 i v (by simpa using e)) fun h' tk R kept => ?_
    exact ⟨.ref _, _, I.laid (t' := tk) kept (Nat.le_refl _) (setXO_new R), rfl, q _ hn⟩
  · obtain ⟨its, rv, pl, _⟩ := I.tuple hl
    obtain ⟨e1, e2⟩ := keys_at (P := X.prog) (w := X.w) rv
    refine setX_of_tuple (ks := ks) (I.ok.hd calm) pl (by simpa using e1) (by simpa [e1] using few) (fun i v e => e2 i v (by simpa using e)) fun h' tk R kept => ?_
    exact ⟨.ref _, _, I.laid (t' := tk) kept (Nat.le_refl _) (setXO_new R), rfl, q _ hn⟩
/-- sorted(set) -/
abbrev rSortSet (w : World) : List V → Hp → VK → Prop := fun xs H Q => ∃ (a : Addr), xs = [.ref a] ∧
  ((∃ L : List Str, H a = some (SetXO w a (L.map Sum.inr)) ∧ ∀ (ss : List Str) p, ss.Perm L → sortedS ss = true → H p = none → Q (.ref p) (upd H p (.lst (ss.map V.str)))) ∨
   (∃ L : List Int, H a = some (SetXO w a (L.map Sum.inl)) ∧ ∀ (ns : List Int) p, ns.Perm L → ns.Pairwise (· ≤ ·) → H p = none → Q (.ref p) (upd H p (.lst (ns.map V.int)))))
theorem vals_strsA : ∀ {us : List Value} {ss : List Str}, StrsAre us ss → Vals (ss.map V.str) us
  | _, _, .nil => .nil
  | _, _, .cons x t r => .cons ⟨t, rfl⟩ (vals_strsA r)
theorem inv_sorted {u : Shared} {p : Addr} {out : Array Value} {vs : List V} (I : Inv X pins σ H s) (S : Sorted0 s u p out) (hv : Vals vs out.toList) (hl : vs.length ≤ sizeLine) : H p = none ∧ Inv X pins σ (upd H p (.lst vs)) u := by
  have hn : H p = none := I.hok.fresh S.new
  obtain ⟨c, hc⟩ := S.lst
  have J := I.call (g' := u.gens) (d' := u.drawn) (t' := u.toks) (ch := []) (Un.laid S.kept S.new hn) (I.hok.laid S.kept S.new (show ObjOk X.prog X.w _ _ _ (.lst vs) from ⟨hl, out.toList, c, hv, by simpa using hc⟩)) (by rw [S.gens]; exact I.bare) (fun _ z => nomatch z)
  have e : u = { s with heap := u.heap, gens := u.gens, drawn := u.drawn, toks := u.toks } := by
    have := S.os
    cases u
    cases s
    cases this
    rfl
  rw [← e] at J
  exact ⟨hn, J⟩
theorem call_sortSet {w : World} (hw : X.w = w) (calm : X.calm = true) : CallR X (.builtin "sorted") (rSortSet w) := by
  subst hw
  rintro pins s σ H xs us Q I r ⟨a, rfl, q⟩
  rw [Vals.ref1 r]
  rcases q with ⟨L, ha, q⟩ | ⟨L, ha, q⟩
  · have R := setXO_at I ha
    refine setX_sortedS R (I.ok.hd calm) fun u p out ss S h1 h2 h3 => ?_
    have few : (ss.map V.str).length ≤ sizeLine := by
      obtain ⟨_, es, _, _, _, _, _, T⟩ := R
      have e2 := T.size
      rw [List.length_map] at e2
      rw [List.length_map, h2.length_eq, ← e2]
      exact fits_of_scanBound T.few
    obtain ⟨hn, J⟩ := inv_sorted I S (vals_strsA h1) few
    exact ⟨.ref p, _, J, rfl, q ss p h2 h3 hn⟩
  · have R := setXO_at I ha
    refine setX_sortedI R (I.ok.hd calm) fun u p out ns S h1 h2 h3 => ?_
    have few : (ns.map V.int).length ≤ sizeLine := by
      obtain ⟨_, es, _, _, _, _, _, T⟩ := R
      have e2 := T.size
      rw [List.length_map] at e2
      rw [List.length_map, h2.length_eq, ← e2]
      exact fits_of_scanBound T.few
    obtain ⟨hn, J⟩ := inv_sorted I S (vals_ints h1) few
    exact ⟨.ref p, _, J, rfl, q ns p h2 h3 hn⟩
end
end M3
/-! Abstract stores over the hand layer: slots hold data (PyData) or lists of one's own that may still change. -/
namespace M3
open PySem PySem.Spec PyProof.Rows L2

/-! ### data -/
def kD : Key → PyData
  | .inl i => .int i
  | .inr s => .str s
mutual
inductive Dd (K : PySem.W.Frag) (H : Hp) : V → PyData → Prop
  | non : Dd K H .non .none
  | bl (b : Bool) : Dd K H (.bl b) (.bool b)
  | int (i : Int) : Dd K H (.int i) (.int i)
  | str (x : Str) : Dd K H (.str x) (.str x)
  | lst {a : Addr} {xs : List V} {ds : List PyData} (h : SqL K H a xs) (r : Da K H xs ds) : Dd K H (.ref a) (.list ds)
  | tup {a : Addr} {xs : List V} {ds : List PyData} (h : SqT K H a xs) (r : Da K H xs ds) : Dd K H (.ref a) (.tuple ds)
  | dK {a : Addr} {o : Obj} {xs : List (Key × V)} {ds : List (PyData × PyData)} (h : H a = some (.frz o (.dK xs))) (r : Dk K H xs ds) : Dd K H (.ref a) (.dict ds)
  | dT {a : Addr} {o : Obj} {xs : List (List Key × V)} {ds : List (PyData × PyData)} (h : H a = some (.frz o (.dT xs))) (ne : xs ≠ []) (r : Dt K H xs ds) : Dd K H (.ref a) (.dict ds)
inductive Da (K : PySem.W.Frag) (H : Hp) : List V → List PyData → Prop
  | nil : Da K H [] []
  | cons {v : V} {vs : List V} {d : PyData} {ds : List PyData} (h : Dd K H v d) (r : Da K H vs ds) : Da K H (v :: vs) (d :: ds)
inductive Dk (K : PySem.W.Frag) (H : Hp) : List (Key × V) → List (PyData × PyData) → Prop
  | nil : Dk K H [] []
  | cons {k : Key} {v : V} {vs : List (Key × V)} {d : PyData} {ds : List (PyData × PyData)} (h : Dd K H v d) (r : Dk K H vs ds) : Dk K H ((k, v) :: vs) ((kD k, d) :: ds)
inductive Dt (K : PySem.W.Frag) (H : Hp) : List (List Key × V) → List (PyData × PyData) → Prop
  | nil : Dt K H [] []
  | cons {k : List Key} {v : V} {vs : List (List Key × V)} {d : PyData} {ds : List (PyData × PyData)} (h : Dd K H v d) (r : Dt K H vs ds) : Dt K H ((k, v) :: vs) ((.tuple (k.map kD), d) :: ds)
end

/-! ### what is kept: all, but tables of code objects may grow -/
/-- the tables that are asked for (tb), those that tell of lambdas alone, with the name that these bear (lm) -/
class NmC where
  lm : Addr → Str → Prop
  tb : Addr → Prop
variable [NmC]
def IsTb (o : HO) : Prop := ∃ ps : Array Value, o = .tbl ps ∧ TriplesOk ps.toList
/-- what a table tells bears the name q -/
def Tells (H : Hp) (ps : Array Value) (q : Str) : Prop := ∀ (pos : Pos) (cv : Value), codeAmong pos ps.toList = some cv → ∃ c, cv = .ref c ∧ H c = some (LamX.CodeO c q)
def Tb (H : Hp) (P : Addr) : Prop := ∃ ps : Array Value, H P = some (.tbl ps) ∧ TriplesOk ps.toList ∧ ∀ q, NmC.lm P q → Tells H ps q
def Same (H H' : Hp) : Prop := ∀ b o, H b = some o → H' b = some o ∨ (IsTb o ∧ Tb H' b)
theorem nt_co {c : Addr} {q : Str} : ¬ IsTb (LamX.CodeO c q) := fun ⟨ps, e, _⟩ => LamX.codeO_ne ps e
theorem Tb.is {H : Hp} {P : Addr} (t : Tb H P) : ∃ o, H P = some o ∧ IsTb o := by
  obtain ⟨ps, h, t, _⟩ := t
  exact ⟨_, h, ps, rfl, t⟩
section
variable {H H' H1 H2 : Hp} {b a : Addr} {o : HO}
theorem Same.of (e : ∀ b o, H b = some o → H' b = some o) : Same H H' := fun b o h => .inl (e b o h)
theorem Same.refl (H : Hp) : Same H H := .of fun _ _ h => h
theorem Same.at (e : Same H H') (h : H b = some o) (n : ¬ IsTb o) : H' b = some o := (e b o h).elim (fun z => z) fun z => absurd z.1 n
theorem Tells.same {ps : Array Value} {q : Str} (t : Tells H ps q) (e : Same H H') : Tells H' ps q := fun pos cv h => by
  obtain ⟨c, e1, e2⟩ := t pos cv h
  exact ⟨c, e1, e.at e2 nt_co⟩
theorem Same.tb (e : Same H H') (h : Tb H b) : Tb H' b := by
  obtain ⟨ps, h, t, k⟩ := h
  exact (e b _ h).elim (fun z => ⟨ps, z, t, fun q hq => (k q hq).same e⟩) fun z => z.2
theorem Same.trans (e : Same H H1) (f : Same H1 H2) : Same H H2 := fun b o h => by
  rcases e b o h with z | ⟨t, z⟩
  · exact f b o z
  · exact .inr ⟨t, f.tb z⟩
theorem nt_lst {xs : List V} : ¬ IsTb (.lst xs) := fun ⟨_, e, _⟩ => nomatch e
theorem nt_tup {xs : List V} : ¬ IsTb (.tup xs) := fun ⟨_, e, _⟩ => nomatch e
theorem nt_dK {xs : List (Key × V)} : ¬ IsTb (.dK xs) := fun ⟨_, e, _⟩ => nomatch e
theorem nt_dT {xs : List (List Key × V)} : ¬ IsTb (.dT xs) := fun ⟨_, e, _⟩ => nomatch e
theorem nt_frz {ob : Obj} {u : HO} : ¬ IsTb (.frz ob u) := fun ⟨_, e, _⟩ => nomatch e
theorem Same.seq {K : PySem.W.Frag} {xs : List V} (e : Same H H') (h : SqL K H a xs) : SqL K H' a xs := by
  rcases h with (h | ⟨o, h⟩) | h
  · exact .inl (.inl (e.at h nt_lst))
  · exact .inl (.inr ⟨o, e.at h nt_frz⟩)
  · exact .inr h
theorem Same.tup {K : PySem.W.Frag} {xs : List V} (e : Same H H') (h : SqT K H a xs) : SqT K H' a xs := by
  rcases h with (h | ⟨o, h⟩) | h
  · exact .inl (.inl (e.at h nt_tup))
  · exact .inl (.inr ⟨o, e.at h nt_frz⟩)
  · exact .inr h
end
/-- what one may own: neither a table nor a code object -/
def Ob (o : HO) : Prop := ¬ IsTb o ∧ ∀ c q, o ≠ LamX.CodeO c q
theorem ob_lst {xs : List V} : Ob (.lst xs) := ⟨nt_lst, fun c q e => by unfold LamX.CodeO at e; cases e⟩
theorem ob_dK {xs : List (Key × V)} : Ob (.dK xs) := ⟨nt_dK, fun c q e => by unfold LamX.CodeO at e; cases e⟩
theorem ob_dT {xs : List (List Key × V)} : Ob (.dT xs) := ⟨nt_dT, fun c q e => by unfold LamX.CodeO at e; cases e⟩
def TK (K : PySem.W.Frag) (P : Addr) : Prop := NmC.tb P
/-- they are there, and hidden objects are one's own -/
structure TabI (K : PySem.W.Frag) (m : Addr → Prop) (H : Hp) : Prop where
  ls : ∀ a o, m a → H a = some o → Ob o
  has : ∀ P, TK K P → Tb H P
theorem TabI.no {K : PySem.W.Frag} {m : Addr → Prop} {H : Hp} (t : TabI K m H) (a : Addr) (o : HO) (h : m a) (e : H a = some o) : ¬ IsTb o := (t.ls a o h e).1
theorem TabI.same {K : PySem.W.Frag} {m : Addr → Prop} {H H' : Hp} (t : TabI K m H) (got : ∀ a, m a → H a ≠ none) (e : Same H H') : TabI K m H' :=
  ⟨fun a o h h' => by
    cases q : H a with
    | none => exact absurd q (got a h)
    | some u =>
      have k := t.ls a u h q
      have z := e.at q k.1
      rw [h'] at z
      rw [Option.some.inj z]
      exact k, fun P h => e.tb (t.has P h)⟩

section
variable {K : PySem.W.Frag} {H H' : Hp}
mutual
theorem Dd.mono (e : Same H H') : ∀ {v : V} {d : PyData}, Dd K H v d → Dd K H' v d
  | _, _, .non => .non
  | _, _, .bl b => .bl b
  | _, _, .int i => .int i
  | _, _, .str x => .str x
  | _, _, .lst h r => .lst (Same.seq e h) (Da.mono e r)
  | _, _, .tup h r => .tup (Same.tup e h) (Da.mono e r)
  | _, _, .dK h r => .dK (e.at h nt_frz) (Dk.mono e r)
  | _, _, .dT h ne r => .dT (e.at h nt_frz) ne (Dt.mono e r)
theorem Da.mono (e : Same H H') : ∀ {v : List V} {d : List PyData}, Da K H v d → Da K H' v d
  | _, _, .nil => .nil
  | _, _, .cons h r => .cons (Dd.mono e h) (Da.mono e r)
theorem Dk.mono (e : Same H H') : ∀ {v : List (Key × V)} {d : List (PyData × PyData)}, Dk K H v d → Dk K H' v d
  | _, _, .nil => .nil
  | _, _, .cons h r => .cons (Dd.mono e h) (Dk.mono e r)
theorem Dt.mono (e : Same H H') : ∀ {v : List (List Key × V)} {d : List (PyData × PyData)}, Dt K H v d → Dt K H' v d
  | _, _, .nil => .nil
  | _, _, .cons h r => .cons (Dd.mono e h) (Dt.mono e r)
end
theorem Da.length : ∀ {vs : List V} {ds : List PyData}, Da K H vs ds → vs.length = ds.length
  | _, _, .nil => rfl
  | _, _, .cons _ r => congrArg (· + 1) r.length
theorem Da.get : ∀ {vs : List V} {ds : List PyData} {i : Nat} {d : PyData}, Da K H vs ds → ds[i]? = some d → ∃ v, vs[i]? = some v ∧ Dd K H v d
  | _, _, _, _, .nil, h => by simp at h
  | _, _, 0, _, .cons h r, e => by
    simp only [List.getElem?_cons_zero, Option.some.injEq] at e
    subst e
    exact ⟨_, rfl, h⟩
  | _, _, i + 1, _, .cons h r, e => by
    obtain ⟨v, h1, h2⟩ := Da.get (i := i) r (by simpa using e)
    exact ⟨v, by simpa using h1, h2⟩
theorem Da.get' : ∀ {vs : List V} {ds : List PyData} {i : Nat} {v : V}, Da K H vs ds → vs[i]? = some v → ∃ d, ds[i]? = some d ∧ Dd K H v d
  | _, _, _, _, .nil, h => by simp at h
  | _, _, 0, _, .cons h r, e => by
    simp only [List.getElem?_cons_zero, Option.some.injEq] at e
    subst e
    exact ⟨_, rfl, h⟩
  | _, _, i + 1, _, .cons h r, e => by
    obtain ⟨v, h1, h2⟩ := Da.get' (i := i) r (by simpa using e)
    exact ⟨v, by simpa using h1, h2⟩
theorem Da.append : ∀ {vs ws : List V} {ds es : List PyData}, Da K H vs ds → Da K H ws es → Da K H (vs ++ ws) (ds ++ es)
  | _, _, _, _, .nil, s => s
  | _, _, _, _, .cons h r, s => .cons h (Da.append r s)
theorem Da.dropLast : ∀ {vs : List V} {ds : List PyData}, Da K H vs ds → Da K H vs.dropLast ds.dropLast
  | _, _, .nil => .nil
  | _, _, .cons h .nil => .nil
  | _, _, .cons h (.cons h2 r) => .cons h (Da.dropLast (.cons h2 r))
theorem Da.ints : ∀ {vs : List V} {ns : List Int}, Da K H vs (ns.map PyData.int) → vs = ns.map V.int
  | _, [], .nil => rfl
  | _, n :: ns, .cons (.int _) r => congrArg (V.int n :: ·) (Da.ints r)
theorem Da.of_ints : ∀ (ns : List Int), Da K H (ns.map V.int) (ns.map PyData.int)
  | [] => .nil
  | n :: ns => .cons (.int n) (Da.of_ints ns)

/-- no dict within -/
theorem no_dict : ∀ (d : PyData), d.hasDict = d.hasDict := fun _ => rfl
end

/-! ### what is hidden -/
open Classical in
noncomputable def hide (m : Addr → Prop) (H : Hp) : Hp := fun a => if m a then none else H a
theorem hide_of {m : Addr → Prop} {H : Hp} {a : Addr} (h : ¬ m a) : hide m H a = H a := by
  unfold hide
  rw [if_neg h]
theorem hide_in {m : Addr → Prop} {H : Hp} {a : Addr} {o : HO} (h : hide m H a = some o) : ¬ m a ∧ H a = some o := by
  unfold hide at h
  by_cases c : m a
  · rw [if_pos c] at h
    cases h
  · rw [if_neg c] at h
    exact ⟨c, h⟩
theorem hide_some {m : Addr → Prop} {H : Hp} {a : Addr} {o : HO} (c : ¬ m a) (h : H a = some o) : hide m H a = some o := by
  rw [hide_of c]
  exact h
theorem hide_same {m : Addr → Prop} {H : Hp} : Same (hide m H) H := .of fun _ _ h => (hide_in h).2
theorem Tb.hide {m : Addr → Prop} {H : Hp} {P : Addr} (t : Tb H P) (l : ∀ a o, m a → H a = some o → Ob o) : Tb (hide m H) P := by
  obtain ⟨ps, h, t, k⟩ := t
  refine ⟨ps, hide_some (fun z => (l P _ z h).1 ⟨ps, rfl, t⟩) h, t, fun q hq pos cv hc => ?_⟩
  obtain ⟨c, e1, e2⟩ := k q hq pos cv hc
  exact ⟨c, e1, hide_some (fun z => (l c _ z e2).2 c q rfl) e2⟩
theorem hide_mono {m : Addr → Prop} {H H' : Hp} (l : ∀ a o, m a → H' a = some o → Ob o) (e : Same H H') : Same (hide m H) (hide m H') := fun a o h => by
  obtain ⟨c, h⟩ := hide_in h
  rcases e _ _ h with z | ⟨t, z⟩
  · exact .inl (hide_some c z)
  · exact .inr ⟨t, z.hide l⟩

/-! ### abstract stores -/
/-- dicts by their keys: ints and texts; tuples of these -/
abbrev DL := List (Key × PyData)
abbrev DT := List (List Key × PyData)
def pyK (kvs : DL) : List (PyData × PyData) := kvs.map fun p => (kD p.1, p.2)
def pyT (kvs : DT) : List (PyData × PyData) := kvs.map fun p => (.tuple (p.1.map kD), p.2)
/-- what is in an object of one's own -/
inductive Cn where
  | l (ds : List PyData)
  | d (kvs : DL)
  | t (kvs : DT)
inductive Sl where
  | no
  | dat (d : PyData)
  | ow (p : Addr) (c : Cn)
abbrev Sl.ml (p : Addr) (ds : List PyData) : Sl := .ow p (.l ds)
abbrev Sl.md (p : Addr) (kvs : DL) : Sl := .ow p (.d kvs)
abbrev Sl.mt (p : Addr) (kvs : DT) : Sl := .ow p (.t kvs)
abbrev Sto := List Sl
/-- the object of such a content, its items told of the heap H -/
inductive CnOk (K : PySem.W.Frag) (H : Hp) : Cn → HO → Prop
  | l {xs : List V} {ds : List PyData} (h : Da K H xs ds) : CnOk K H (.l ds) (.lst xs)
  | dK {xs : List (Key × V)} {kvs : DL} (h : Dk K H xs (pyK kvs)) : CnOk K H (.d kvs) (.dK xs)
  | dT {xs : List (List Key × V)} {kvs : DT} (h : Dt K H xs (pyT kvs)) : CnOk K H (.t kvs) (.dT xs)
theorem CnOk.mono {K : PySem.W.Frag} {H H' : Hp} {c : Cn} {o : HO} (h : CnOk K H c o) (e : Same H H') : CnOk K H' c o := by
  cases h with
  | l h => exact .l (h.mono e)
  | dK h => exact .dK (h.mono e)
  | dT h => exact .dT (h.mono e)
theorem CnOk.ob {K : PySem.W.Frag} {H : Hp} {c : Cn} {o : HO} (h : CnOk K H c o) : Ob o := by
  cases h with
  | l h => exact ob_lst
  | dK h => exact ob_dK
  | dT h => exact ob_dT
/-- addresses of the objects that may still change -/
def own (δ : Sto) (a : Addr) : Prop := ∃ (i : Nat) (c : Cn), δ[i]? = some (.ow a c)
def hid (m : Addr → Prop) (δ : Sto) : Addr → Prop := fun a => m a ∨ own δ a

structure Env3 (K : PySem.W.Frag) (m : Addr → Prop) (H : Hp) (σ : L2.St) (δ : Sto) : Prop where
  len : σ.length = δ.length
  dat : ∀ (i : Nat) (d : PyData), δ[i]? = some (.dat d) → ∃ v, σ[i]? = some (some v) ∧ Dd K (hide (hid m δ) H) v d
  ow : ∀ (i : Nat) (p : Addr) (c : Cn), δ[i]? = some (.ow p c) → σ[i]? = some (some (.ref p)) ∧ ¬ m p ∧ ∃ o, H p = some o ∧ CnOk K (hide (hid m δ) H) c o
  one : ∀ (i j : Nat) (p : Addr) (c e : Cn), δ[i]? = some (.ow p c) → δ[j]? = some (.ow p e) → i = j
  got : ∀ a, m a → H a ≠ none
  tab : TabI K m H
theorem Env3.ml {K : PySem.W.Frag} {m : Addr → Prop} {H : Hp} {σ : L2.St} {δ : Sto} (I : Env3 K m H σ δ) (i : Nat) (p : Addr) (ds : List PyData) (h : δ[i]? = some (.ml p ds)) : σ[i]? = some (some (.ref p)) ∧ ¬ m p ∧ ∃ xs, H p = some (.lst xs) ∧ Da K (hide (hid m δ) H) xs ds := by
  obtain ⟨h1, h2, o, h3, h4⟩ := I.ow i p (.l ds) h
  cases h4 with
  | l h4 => exact ⟨h1, h2, _, h3, h4⟩

/-- from one state to a later one -/
structure Gw (m : Addr → Prop) (δ : Sto) (H : Hp) (δ' : Sto) (H' : Hp) : Prop where
  same : Same (hide (hid m δ) H) (hide (hid m δ') H')
  keep : ∀ a, m a → H' a = H a
theorem Gw.refl {m : Addr → Prop} {δ : Sto} {H : Hp} : Gw m δ H δ H := ⟨Same.refl _, fun _ _ => rfl⟩
theorem Gw.trans {m : Addr → Prop} {δ δ1 δ2 : Sto} {H H1 H2 : Hp} (a : Gw m δ H δ1 H1) (b : Gw m δ1 H1 δ2 H2) : Gw m δ H δ2 H2 :=
  ⟨a.same.trans b.same, fun x h => (b.keep x h).trans (a.keep x h)⟩
theorem Env3.lists {K : PySem.W.Frag} {m : Addr → Prop} {H : Hp} {σ : L2.St} {δ : Sto} (I : Env3 K m H σ δ) : ∀ a o, hid m δ a → H a = some o → Ob o := fun a o h e => by
  rcases h with h | ⟨i, c, h⟩
  · exact I.tab.ls a o h e
  · obtain ⟨_, _, u, q, k⟩ := I.ow i a c h
    rw [e] at q
    rw [Option.some.inj q]
    exact k.ob
theorem Env3.lists' {K : PySem.W.Frag} {m : Addr → Prop} {H H' : Hp} {σ : L2.St} {δ : Sto} (I : Env3 K m H σ δ) (e : Same H H') : ∀ a o, hid m δ a → H' a = some o → Ob o := fun a o h e' => by
  have got : H a ≠ none := by
    rcases h with h | ⟨i, c, h⟩
    · exact I.got a h
    · obtain ⟨_, _, u, q, _⟩ := I.ow i a c h
      rw [q]
      exact fun z => nomatch z
  cases q : H a with
  | none => exact absurd q got
  | some u =>
    have k := I.lists a u h q
    have z := e.at q k.1
    rw [e'] at z
    rw [Option.some.inj z]
    exact k
theorem Gw.of_same {K : PySem.W.Frag} {m : Addr → Prop} {δ : Sto} {H H' : Hp} {σ : L2.St} (I : Env3 K m H σ δ) (e : Same H H') : Gw m δ H δ H' :=
  ⟨hide_mono (I.lists' e) e, fun a h => by
    cases q : H a with
    | none => exact absurd q (I.got a h)
    | some o => exact e.at q (I.tab.no a o h q)⟩
theorem Env3.same {K : PySem.W.Frag} {m : Addr → Prop} {H H' : Hp} {σ : L2.St} {δ : Sto} (I : Env3 K m H σ δ) (e : Same H H') : Env3 K m H' σ δ where
  len := I.len
  dat := fun i d h => by
    obtain ⟨v, h1, h2⟩ := I.dat i d h
    exact ⟨v, h1, h2.mono (hide_mono (I.lists' e) e)⟩
  ow := fun i p c h => by
    obtain ⟨h1, h2, o, h3, h4⟩ := I.ow i p c h
    exact ⟨h1, h2, o, e.at h3 h4.ob.1, h4.mono (hide_mono (I.lists' e) e)⟩
  one := I.one
  got := fun a h => by
    cases q : H a with
    | none => exact absurd q (I.got a h)
    | some o =>
      rw [e.at q (I.tab.no a o h q)]
      exact fun z => by cases z
  tab := I.tab.same I.got e

/-! ### values as they are seen -/
inductive Vw where
  | d (x : PyData)
  | m (i : Nat)
  | v (x : V)
def VwOk (K : PySem.W.Frag) (m : Addr → Prop) (H : Hp) (δ : Sto) (v : V) : Vw → Prop
  | .d x => Dd K (hide (hid m δ) H) v x
  | .m i => ∃ p c, δ[i]? = some (.ow p c) ∧ v = .ref p
  | .v x => v = x
/-- the lists that may change stay where they are while an expression runs -/
def Stay (δ δ' : Sto) : Prop := ∀ (i : Nat) (p : Addr) (c : Cn), δ[i]? = some (.ow p c) → ∃ e, δ'[i]? = some (.ow p e)
theorem Stay.refl (δ : Sto) : Stay δ δ := fun i p ds h => ⟨ds, h⟩
theorem Stay.trans {a b c : Sto} (h : Stay a b) (k : Stay b c) : Stay a c := fun i p ds e => by
  obtain ⟨es, e1⟩ := h i p ds e
  exact k i p es e1
theorem VwOk.go {K : PySem.W.Frag} {m : Addr → Prop} {H H' : Hp} {δ δ' : Sto} {v : V} {w : Vw} (h : VwOk K m H δ v w) (g : Gw m δ H δ' H') (s : Stay δ δ') : VwOk K m H' δ' v w := by
  cases w with
  | d x => exact Dd.mono g.same h
  | m i =>
    obtain ⟨p, ds, h1, h2⟩ := h
    obtain ⟨es, h3⟩ := s i p ds h1
    exact ⟨p, es, h3, h2⟩
  | v x => exact h
inductive VwAll (K : PySem.W.Frag) (m : Addr → Prop) (H : Hp) (δ : Sto) : List V → List Vw → Prop
  | nil : VwAll K m H δ [] []
  | cons {v : V} {w : Vw} {vs : List V} {ws : List Vw} (h : VwOk K m H δ v w) (r : VwAll K m H δ vs ws) : VwAll K m H δ (v :: vs) (w :: ws)
theorem VwAll.go {K : PySem.W.Frag} {m : Addr → Prop} {H H' : Hp} {δ δ' : Sto} (g : Gw m δ H δ' H') (s : Stay δ δ') : ∀ {vs : List V} {ws : List Vw}, VwAll K m H δ vs ws → VwAll K m H' δ' vs ws
  | _, _, .nil => .nil
  | _, _, .cons h r => .cons (h.go g s) (r.go g s)

/-! ### what an expression, a test, arguments, a statement do to a store -/
abbrev XP := Value → Sto → Prop
def EX (K : PySem.W.Frag) (W : WX) (te : TE) (δ : Sto) (post : Vw → Sto → Prop) (ex : XP) : Prop :=
  ∀ (m : Addr → Prop) (H : Hp) (σ : L2.St), Env3 K m H σ δ → ∀ Q : VK,
    (∀ v w H' δ', Gw m δ H δ' H' → Stay δ δ' → Env3 K m H' σ δ' → VwOk K m H' δ' v w → post w δ' → Q v H') →
    (∀ C H' δ', Gw m δ H δ' H' → Env3 K m H' σ δ' → ex C δ' → W C none σ H') → te σ H Q
def TX (K : PySem.W.Frag) (W : WX) (tt : TT) (δ : Sto) (post : Bool → Sto → Prop) (ex : XP) : Prop :=
  ∀ (m : Addr → Prop) (H : Hp) (σ : L2.St), Env3 K m H σ δ → ∀ Q : Bool → Hp → Prop,
    (∀ b H' δ', Gw m δ H δ' H' → Stay δ δ' → Env3 K m H' σ δ' → post b δ' → Q b H') →
    (∀ C H' δ', Gw m δ H δ' H' → Env3 K m H' σ δ' → ex C δ' → W C none σ H') → tt σ H Q
def AX (K : PySem.W.Frag) (W : WX) (ta : TA) (δ : Sto) (post : List Vw → Sto → Prop) (ex : XP) : Prop :=
  ∀ (m : Addr → Prop) (H : Hp) (σ : L2.St), Env3 K m H σ δ → ∀ Q : List V → Hp → Prop,
    (∀ vs ws H' δ', Gw m δ H δ' H' → Stay δ δ' → Env3 K m H' σ δ' → VwAll K m H' δ' vs ws → post ws δ' → Q vs H') →
    (∀ C H' δ', Gw m δ H δ' H' → Env3 K m H' σ δ' → ex C δ' → W C none σ H') → ta σ H Q
structure Ends3 where
  nx : Sto → Prop
  rt : Vw → Sto → Prop
  bk : Sto → Prop
  ct : Sto → Prop
  ex : XP
abbrev Ends3.nxt (R : Ends3) (n : Sto → Prop) : Ends3 := ⟨n, R.rt, R.bk, R.ct, R.ex⟩
abbrev Ends3.loop (R : Ends3) (n : Sto → Prop) : Ends3 := ⟨n, R.rt, R.nx, n, R.ex⟩
abbrev Ends3.catch (R : Ends3) (e : XP) : Ends3 := ⟨R.nx, R.rt, R.bk, R.ct, e⟩
/-- the ends of a def's body: post of what is handed back, exn of what is raised -/
abbrev RD (post : PyData → Prop) (exn : Value → Prop) : Ends3 := ⟨fun _ => post .none, fun w _ => ∃ d, w = .d d ∧ post d, fun _ => False, fun _ => False, fun C _ => exn C⟩
/-- .. of a def that changes its first argument, the list at p -/
abbrev RM (p : Addr) (post : PyData → List PyData → Prop) : Ends3 := ⟨fun δ' => ∃ fs, δ'[0]? = some (.ml p fs) ∧ post .none fs, fun w δ' => ∃ d fs, w = .d d ∧ δ'[0]? = some (.ml p fs) ∧ post d fs, fun _ => False, fun _ => False, fun _ _ => False⟩
def SX (K : PySem.W.Frag) (W : WX) (t : TS) (δ : Sto) (R : Ends3) : Prop :=
  ∀ (m : Addr → Prop) (H : Hp) (σ : L2.St), Env3 K m H σ δ → ∀ D : Ends,
    (∀ σ' H' δ', Gw m δ H δ' H' → Env3 K m H' σ' δ' → R.nx δ' → D.nx σ' H') →
    (∀ v w σ' H' δ', Gw m δ H δ' H' → Env3 K m H' σ' δ' → VwOk K m H' δ' v w → R.rt w δ' → D.rt v H') →
    (∀ σ' H' δ', Gw m δ H δ' H' → Env3 K m H' σ' δ' → R.bk δ' → D.bk σ' H') →
    (∀ σ' H' δ', Gw m δ H δ' H' → Env3 K m H' σ' δ' → R.ct δ' → D.ct σ' H') →
    (∀ C σ' H' δ', Gw m δ H δ' H' → Env3 K m H' σ' δ' → R.ex C δ' → W C none σ' H') → t D σ H
end M3
namespace M3
open PySem PySem.Spec PyProof.Rows L2
variable [NmC]

section
variable {K : PySem.W.Frag} {W : WX} {δ : Sto} {ex : XP} {post : Vw → Sto → Prop} {ta tb tc te : TE} {tt tu : TT} {R : Ends3} {t u : TS}

/-! ### consequence -/
theorem EX.imp {p q : Vw → Sto → Prop} {e f : XP} (h : EX K W te δ p e) (a : ∀ w δ', p w δ' → q w δ') (b : ∀ C δ', e C δ' → f C δ') : EX K W te δ q f :=
  fun m H σ I Q k k2 => h m H σ I Q (fun v w H' δ' g s J o pp => k v w H' δ' g s J o (a _ _ pp)) (fun C H' δ' g J ee => k2 C H' δ' g J (b _ _ ee))
theorem TX.imp {p q : Bool → Sto → Prop} {e f : XP} (h : TX K W tt δ p e) (a : ∀ w δ', p w δ' → q w δ') (b : ∀ C δ', e C δ' → f C δ') : TX K W tt δ q f :=
  fun m H σ I Q k k2 => h m H σ I Q (fun v H' δ' g s J pp => k v H' δ' g s J (a _ _ pp)) (fun C H' δ' g J ee => k2 C H' δ' g J (b _ _ ee))
/-- the store behind a part is what it was, its value known -/
theorem SX.imp {R' : Ends3} (h : SX K W t δ R) (a : ∀ δ', R.nx δ' → R'.nx δ') (b : ∀ w δ', R.rt w δ' → R'.rt w δ') (c : ∀ δ', R.bk δ' → R'.bk δ') (d : ∀ δ', R.ct δ' → R'.ct δ') (e : ∀ C δ', R.ex C δ' → R'.ex C δ') : SX K W t δ R' :=
  fun m H σ I D k1 k2 k3 k4 k5 => h m H σ I D (fun σ' H' δ' g J p => k1 σ' H' δ' g J (a _ p)) (fun v w σ' H' δ' g J o p => k2 v w σ' H' δ' g J o (b _ _ p)) (fun σ' H' δ' g J p => k3 σ' H' δ' g J (c _ p)) (fun σ' H' δ' g J p => k4 σ' H' δ' g J (d _ p)) (fun C σ' H' δ' g J p => k5 C σ' H' δ' g J (e _ _ p))

/-! ### names, written values -/
theorem ex_var {i : Nat} {d : PyData} (h : δ[i]? = some (.dat d)) (q : post (.d d) δ) : EX K W (tVar i) δ post ex := fun m H σ I Q k _ => by
  obtain ⟨v, h1, h2⟩ := I.dat i d h
  exact ⟨v, h1, k v (.d d) H δ .refl (.refl δ) I h2 q⟩
theorem ex_mvar {i : Nat} {p : Addr} {c : Cn} (h : δ[i]? = some (.ow p c)) (q : post (.m i) δ) : EX K W (tVar i) δ post ex := fun m H σ I Q k _ => by
  obtain ⟨h1, h2, _⟩ := I.ow i p c h
  exact ⟨.ref p, h1, k (.ref p) (.m i) H δ .refl (.refl δ) I ⟨p, c, h, rfl⟩ q⟩
theorem ex_c {v : V} {d : PyData} (h : ∀ H, Dd K H v d) (q : post (.d d) δ) : EX K W (tC v) δ post ex := fun m H σ I Q k _ => k v (.d d) H δ .refl (.refl δ) I (h _) q
theorem ex_int {n : Int} (q : post (.d (.int n)) δ) : EX K W (tC (.int n)) δ post ex := ex_c (fun _ => .int n) q
theorem ex_str {n : Str} (q : post (.d (.str n)) δ) : EX K W (tC (.str n)) δ post ex := ex_c (fun _ => .str n) q
theorem ex_bl {n : Bool} (q : post (.d (.bool n)) δ) : EX K W (tC (.bl n)) δ post ex := ex_c (fun _ => .bl n) q
theorem ex_non (q : post (.d .none) δ) : EX K W (tC .non) δ post ex := ex_c (fun _ => .non) q

/-! ### operations on values -/
def RX (K : PySem.W.Frag) (r : R2) (w1 w2 : Vw) (δ : Sto) (post : Vw → Sto → Prop) : Prop :=
  ∀ (m : Addr → Prop) (H : Hp) (σ : L2.St) (v1 v2 : V), Env3 K m H σ δ → VwOk K m H δ v1 w1 → VwOk K m H δ v2 w2 → ∀ Q : VK,
    (∀ v w H', Same H H' → VwOk K m H' δ v w → post w δ → Q v H') → r v1 v2 H Q
def UX (K : PySem.W.Frag) (r : V → Hp → VK → Prop) (w1 : Vw) (δ : Sto) (post : Vw → Sto → Prop) : Prop :=
  ∀ (m : Addr → Prop) (H : Hp) (σ : L2.St) (v1 : V), Env3 K m H σ δ → VwOk K m H δ v1 w1 → ∀ Q : VK,
    (∀ v w H', Same H H' → VwOk K m H' δ v w → post w δ → Q v H') → r v1 H Q
theorem ex_op {r : R2} (h : EX K W ta δ (fun w1 δ1 => EX K W tb δ1 (fun w2 δ2 => RX K r w1 w2 δ2 post) ex) ex) : EX K W (tOp r ta tb) δ post ex :=
  fun m H σ I Q k k2 => h m H σ I _ (fun v1 w1 H1 δ1 g1 s1 I1 o1 hb => hb m H1 σ I1 _ (fun v2 w2 H2 δ2 g2 s2 I2 o2 hr =>
    hr m H2 σ v1 v2 I2 (o1.go g2 s2) o2 Q fun v w H3 e o p => k v w H3 δ2 ((g1.trans g2).trans (.of_same I2 e)) (s1.trans s2) (I2.same e) o p)
    (fun C H' δ' g J e => k2 C H' δ' (g1.trans g) J e)) k2
theorem ex_un {r : V → Hp → VK → Prop} (h : EX K W ta δ (fun w1 δ1 => UX K r w1 δ1 post) ex) : EX K W (tUn r ta) δ post ex :=
  fun m H σ I Q k k2 => h m H σ I _ (fun v1 w1 H1 δ1 g1 s1 I1 o1 hr =>
    hr m H1 σ v1 I1 o1 Q fun v w H3 e o p => k v w H3 δ1 (g1.trans (.of_same I1 e)) s1 (I1.same e) o p) k2
theorem dd_int {H : Hp} {v : V} {i : Int} (h : Dd K H v (.int i)) : v = .int i := by cases h; rfl
theorem dd_bool {H : Hp} {v : V} {i : Bool} (h : Dd K H v (.bool i)) : v = .bl i := by cases h; rfl
theorem dd_str {H : Hp} {v : V} {i : Str} (h : Dd K H v (.str i)) : v = .str i := by cases h; rfl
theorem dd_none {H : Hp} {v : V} (h : Dd K H v .none) : v = .non := by cases h; rfl
theorem rx_ii {f : Int → Int → Int} {i j : Int} (q : post (.d (.int (f i j))) δ) : RX K (rI0 fun a b => .int (f a b)) (.d (.int i)) (.d (.int j)) δ post :=
  fun m H σ v1 v2 I h1 h2 Q k => ⟨i, j, dd_int h1, dd_int h2, k _ (.d (.int (f i j))) H (.refl H) (.int _) q⟩
theorem rx_ib {f : Int → Int → Bool} {i j : Int} (q : post (.d (.bool (f i j))) δ) : RX K (rI0 fun a b => .bl (f a b)) (.d (.int i)) (.d (.int j)) δ post :=
  fun m H σ v1 v2 I h1 h2 Q k => ⟨i, j, dd_int h1, dd_int h2, k _ (.d (.bool (f i j))) H (.refl H) (.bl _) q⟩
theorem rx_Ci {C : Int → Int → Prop} {f : Int → Int → Int} {i j : Int} (c : C i j) (q : post (.d (.int (f i j))) δ) : RX K (rI C fun a b => .int (f a b)) (.d (.int i)) (.d (.int j)) δ post :=
  fun m H σ v1 v2 I h1 h2 Q k => ⟨i, j, dd_int h1, dd_int h2, c, k _ (.d (.int (f i j))) H (.refl H) (.int _) q⟩
theorem ux_i {f : Int → Int} {i : Int} (q : post (.d (.int (f i))) δ) : UX K (rU fun a => .int (f a)) (.d (.int i)) δ post :=
  fun m H σ v1 I h1 Q k => ⟨i, dd_int h1, k _ (.d (.int (f i))) H (.refl H) (.int _) q⟩
theorem dd_tup {H : Hp} {v : V} {ds : List PyData} (h : Dd K H v (.tuple ds)) : ∃ a xs, v = .ref a ∧ SqT K H a xs ∧ Da K H xs ds := by
  cases h with
  | tup h r => exact ⟨_, _, rfl, h, r⟩
theorem dd_lst {H : Hp} {v : V} {ds : List PyData} (h : Dd K H v (.list ds)) : ∃ a xs, v = .ref a ∧ SqL K H a xs ∧ Da K H xs ds := by
  cases h with
  | lst h r => exact ⟨_, _, rfl, h, r⟩
theorem da_at {H : Hp} {xs : List V} {ds : List PyData} {i : Int} {d : PyData} (r : Da K H xs ds) (h : atI ds i = some d) : ∃ v, atI xs i = some v ∧ Dd K H v d := by
  have hl := r.length
  unfold atI at h ⊢
  rw [hl]
  cases e : ixN ds.length i with
  | none =>
    rw [e] at h
    cases h
  | some j =>
    rw [e] at h
    exact r.get h
theorem rx_ixT {ds : List PyData} {i : Int} {d : PyData} (h : atI ds i = some d) (q : post (.d d) δ) : RX K (rIxT K) (.d (.tuple ds)) (.d (.int i)) δ post := fun m H σ v1 v2 I h1 h2 Q k => by
  obtain ⟨a, xs, e, s, r⟩ := dd_tup h1
  obtain ⟨v, ha, hd⟩ := da_at r h
  exact ⟨a, xs, i, v, e, dd_int h2, Same.tup hide_same s, ha, k v (.d d) H (.refl H) hd q⟩
theorem rx_ixL {ds : List PyData} {i : Int} {d : PyData} (h : atI ds i = some d) (q : post (.d d) δ) : RX K (rIxL K) (.d (.list ds)) (.d (.int i)) δ post := fun m H σ v1 v2 I h1 h2 Q k => by
  obtain ⟨a, xs, e, s, r⟩ := dd_lst h1
  obtain ⟨v, ha, hd⟩ := da_at r h
  exact ⟨a, xs, i, v, e, dd_int h2, Same.seq hide_same s, ha, k v (.d d) H (.refl H) hd q⟩
theorem rx_ixM {n : Nat} {p : Addr} {ds : List PyData} {i : Int} {d : PyData} (hn : δ[n]? = some (.ml p ds)) (h : atI ds i = some d) (q : post (.d d) δ) : RX K (rIxL K) (.m n) (.d (.int i)) δ post := fun m H σ v1 v2 I h1 h2 Q k => by
  obtain ⟨p', ds', e1, rfl⟩ := h1
  rw [hn] at e1
  cases e1
  obtain ⟨_, _, xs, hp, r⟩ := I.ml n p ds hn
  obtain ⟨v, ha, hd⟩ := da_at r h
  exact ⟨p, xs, i, v, rfl, dd_int h2, .inl (.inl hp), ha, k v (.d d) H (.refl H) hd q⟩

/-! ### tests, and, or, if -/
theorem tx_test (h : EX K W te δ (fun w δ' => ∃ b, w = .d (.bool b) ∧ p b δ') ex) : TX K W (tTest te) δ p ex :=
  fun m H σ I Q k k2 => h m H σ I _ (fun v w H' δ' g s J o ⟨b, e, q⟩ => by
    subst e
    exact ⟨b, dd_bool o, k b H' δ' g s J q⟩) k2
theorem tx_B (h : EX K W te δ (fun w δ' => ∃ b, w = .d (.bool b) ∧ p b δ') ex) : TX K W (tB te) δ p ex :=
  fun m H σ I Q k k2 => h m H σ I _ (fun v w H' δ' g s J o ⟨b, e, q⟩ => by
    subst e
    exact ⟨b, dd_bool o, k b H' δ' g s J q⟩) k2
theorem tx_and {p : Bool → Sto → Prop} (h : TX K W tt δ (fun b δ' => (b = true → TX K W tu δ' p ex) ∧ (b = false → p false δ')) ex) : TX K W (tAnd tt tu) δ p ex :=
  fun m H σ I Q k k2 => h m H σ I _ (fun b H' δ' g s J ⟨q1, q2⟩ => by
    cases b with
    | true => exact iteT (q1 rfl m H' σ J Q (fun b H2 δ2 g2 s2 J2 q => k b H2 δ2 (g.trans g2) (s.trans s2) J2 q) (fun C H2 δ2 g2 J2 e => k2 C H2 δ2 (g.trans g2) J2 e))
    | false => exact iteF (k false H' δ' g s J (q2 rfl))) k2
theorem tx_or {p : Bool → Sto → Prop} (h : TX K W tt δ (fun b δ' => (b = true → p true δ') ∧ (b = false → TX K W tu δ' p ex)) ex) : TX K W (tOr tt tu) δ p ex :=
  fun m H σ I Q k k2 => h m H σ I _ (fun b H' δ' g s J ⟨q1, q2⟩ => by
    cases b with
    | true => exact iteT (k true H' δ' g s J (q1 rfl))
    | false => exact iteF (q2 rfl m H' σ J Q (fun b H2 δ2 g2 s2 J2 q => k b H2 δ2 (g.trans g2) (s.trans s2) J2 q) (fun C H2 δ2 g2 J2 e => k2 C H2 δ2 (g.trans g2) J2 e))) k2
theorem tx_not {p : Bool → Sto → Prop} (h : TX K W tt δ (fun b δ' => p (!b) δ') ex) : TX K W (tNot tt) δ p ex :=
  fun m H σ I Q k k2 => h m H σ I _ (fun b H' δ' g s J q => k (!b) H' δ' g s J q) k2
theorem ex_andV (h : EX K W ta δ (fun w δ' => ∃ b, w = .d (.bool b) ∧ (b = true → EX K W tb δ' post ex) ∧ (b = false → post (.d (.bool false)) δ')) ex) : EX K W (tAndV ta tb) δ post ex :=
  fun m H σ I Q k k2 => h m H σ I _ (fun v w H' δ' g s J o ⟨b, e, q1, q2⟩ => by
    subst e
    refine ⟨b, dd_bool o, ?_⟩
    cases b with
    | true => exact iteT (q1 rfl m H' σ J Q (fun v w H2 δ2 g2 s2 J2 o2 q => k v w H2 δ2 (g.trans g2) (s.trans s2) J2 o2 q) (fun C H2 δ2 g2 J2 e => k2 C H2 δ2 (g.trans g2) J2 e))
    | false => exact iteF (k _ (.d (.bool false)) H' δ' g s J (.bl false) (q2 rfl))) k2
theorem ex_orV (h : EX K W ta δ (fun w δ' => ∃ b, w = .d (.bool b) ∧ (b = false → EX K W tb δ' post ex) ∧ (b = true → post (.d (.bool true)) δ')) ex) : EX K W (tOrV ta tb) δ post ex :=
  fun m H σ I Q k k2 => h m H σ I _ (fun v w H' δ' g s J o ⟨b, e, q1, q2⟩ => by
    subst e
    refine ⟨b, dd_bool o, ?_⟩
    cases b with
    | false => exact iteF (q1 rfl m H' σ J Q (fun v w H2 δ2 g2 s2 J2 o2 q => k v w H2 δ2 (g.trans g2) (s.trans s2) J2 o2 q) (fun C H2 δ2 g2 J2 e => k2 C H2 δ2 (g.trans g2) J2 e))
    | true => exact iteT (k _ (.d (.bool true)) H' δ' g s J (.bl true) (q2 rfl))) k2
theorem ex_notV (h : EX K W ta δ (fun w δ' => ∃ b, w = .d (.bool b) ∧ post (.d (.bool (!b))) δ') ex) : EX K W (tNotV ta) δ post ex :=
  fun m H σ I Q k k2 => h m H σ I _ (fun v w H' δ' g s J o ⟨b, e, q⟩ => by
    subst e
    exact ⟨b, dd_bool o, k _ (.d (.bool (!b))) H' δ' g s J (.bl _) q⟩) k2
theorem ex_if (h : TX K W tt δ (fun b δ' => (b = true → EX K W ta δ' post ex) ∧ (b = false → EX K W tb δ' post ex)) ex) : EX K W (tIf tt ta tb) δ post ex :=
  fun m H σ I Q k k2 => h m H σ I _ (fun b H' δ' g s J ⟨q1, q2⟩ => by
    cases b with
    | true => exact iteT (q1 rfl m H' σ J Q (fun v w H2 δ2 g2 s2 J2 o2 q => k v w H2 δ2 (g.trans g2) (s.trans s2) J2 o2 q) (fun C H2 δ2 g2 J2 e => k2 C H2 δ2 (g.trans g2) J2 e))
    | false => exact iteF (q2 rfl m H' σ J Q (fun v w H2 δ2 g2 s2 J2 o2 q => k v w H2 δ2 (g.trans g2) (s.trans s2) J2 o2 q) (fun C H2 δ2 g2 J2 e => k2 C H2 δ2 (g.trans g2) J2 e))) k2

/-! ### arguments, displays -/
theorem ax_nil {p : List Vw → Sto → Prop} (q : p [] δ) : AX K W tNil δ p ex := fun m H σ I Q k _ => k [] [] H δ .refl (.refl δ) I .nil q
theorem ax_cons {p : List Vw → Sto → Prop} {tr : TA} (h : EX K W ta δ (fun w δ1 => AX K W tr δ1 (fun ws δ2 => p (w :: ws) δ2) ex) ex) : AX K W (tCons ta tr) δ p ex :=
  fun m H σ I Q k k2 => h m H σ I _ (fun v w H1 δ1 g1 s1 I1 o1 hr => hr m H1 σ I1 _ (fun vs ws H2 δ2 g2 s2 I2 o2 q => k (v :: vs) (w :: ws) H2 δ2 (g1.trans g2) (s1.trans s2) I2 (.cons (o1.go g2 s2) o2) q)
    (fun C H' δ' g J e => k2 C H' δ' (g1.trans g) J e)) k2
theorem not_hid {m : Addr → Prop} {H : Hp} {σ : L2.St} {p : Addr} (I : Env3 K m H σ δ) (h : H p = none) : ¬ hid m δ p := fun z => by
  rcases z with z | ⟨i, ds, z⟩
  · exact I.got p z h
  · obtain ⟨_, _, o, e, _⟩ := I.ow i p ds z
    rw [h] at e
    cases e
theorem da_of {m : Addr → Prop} {H : Hp} : ∀ {vs : List V} {ds : List PyData}, VwAll K m H δ vs (ds.map .d) → Da K (hide (hid m δ) H) vs ds
  | _, [], .nil => .nil
  | _, _ :: _, .cons h r => .cons h (da_of r)
theorem same_upd {H : Hp} {p : Addr} {o : HO} (h : H p = none) : Same H (upd H p o) := .of fun b x e => by
  rw [upd_ne (ne_of_none e h)]
  exact e
theorem vw_len {m : Addr → Prop} {H : Hp} : ∀ {vs : List V} {ws : List Vw}, VwAll K m H δ vs ws → vs.length = ws.length
  | _, _, .nil => rfl
  | _, _, .cons _ r => congrArg (· + 1) (vw_len r)
theorem ex_tup {t : TA} (h : AX K W t δ (fun ws δ' => ∃ ds : List PyData, ws = ds.map .d ∧ ds.length ≤ 100000 ∧ post (.d (.tuple ds)) δ') ex) : EX K W (tTup t) δ post ex :=
  fun m H σ I Q k k2 => h m H σ I _ (fun vs ws H1 δ1 g1 s1 I1 o1 ⟨ds, e, hl, q⟩ => by
    subst e
    have r := da_of o1
    refine ⟨by rw [r.length]; exact Nat.le_trans hl (by decide), fun p hp => ?_⟩
    have sm := same_upd (o := .tup vs) hp
    refine k (.ref p) (.d (.tuple ds)) _ δ1 (g1.trans (.of_same I1 sm)) s1 (I1.same sm) ?_ q
    exact .tup (.inl (.inl (hide_some (not_hid I1 hp) upd_same))) (r.mono (hide_mono (I1.lists' sm) sm))) k2

/-! ### a fresh list: nobody else has it -/
open Classical in
noncomputable def erase (p : Addr) (H : Hp) : Hp := fun a => if a = p then none else H a
theorem erase_same {p : Addr} {H : Hp} : Same (erase p H) H := .of fun a o h => by
  unfold erase at h
  by_cases c : a = p
  · rw [if_pos c] at h
    cases h
  · rw [if_neg c] at h
    exact h
theorem erase_ne {p a : Addr} {H : Hp} (c : a ≠ p) : erase p H a = H a := by
  unfold erase
  rw [if_neg c]
theorem erase_at {p : Addr} {H : Hp} : erase p H p = none := by
  unfold erase
  rw [if_pos rfl]
theorem erase_upd {p : Addr} {H : Hp} {o : HO} (h : H p = none) : erase p (upd H p o) = H := by
  funext a
  by_cases c : a = p
  · rw [c, erase_at, h]
  · rw [erase_ne c, upd_ne c]
def FX (K : PySem.W.Frag) (W : WX) (te : TE) (δ : Sto) (post : List PyData → Sto → Prop) (ex : XP) : Prop :=
  ∀ (m : Addr → Prop) (H : Hp) (σ : L2.St), Env3 K m H σ δ → ∀ Q : VK,
    (∀ p xs ds H' δ', Gw m δ H δ' (erase p H') → Stay δ δ' → Env3 K m (erase p H') σ δ' → H' p = some (.lst xs) → Da K (hide (hid m δ') (erase p H')) xs ds → post ds δ' → Q (.ref p) H') →
    (∀ C H' δ', Gw m δ H δ' H' → Env3 K m H' σ δ' → ex C δ' → W C none σ H') → te σ H Q
theorem gw_erase {m : Addr → Prop} {δ' : Sto} {H H' : Hp} {p : Addr} {σ : L2.St} (g : Gw m δ H δ' (erase p H')) (I : Env3 K m (erase p H') σ δ') : Gw m δ H δ' H' := g.trans (.of_same I erase_same)
theorem ex_F {p : List PyData → Sto → Prop} (h : FX K W te δ p ex) (q : ∀ ds δ', p ds δ' → post (.d (.list ds)) δ') : EX K W te δ post ex :=
  fun m H σ I Q k k2 => h m H σ I Q (fun p xs ds H' δ' g s J e r pp => by
    refine k (.ref p) (.d (.list ds)) H' δ' (gw_erase g J) s (J.same erase_same) ?_ (q _ _ pp)
    exact .lst (.inl (.inl (hide_some (not_hid J erase_at) e))) (r.mono (hide_mono (J.lists' erase_same) erase_same))) k2
theorem fx_lst {t : TA} {p : List PyData → Sto → Prop} (h : AX K W t δ (fun ws δ' => ∃ ds : List PyData, ws = ds.map .d ∧ ds.length ≤ 100000 ∧ p ds δ') ex) : FX K W (tLst t) δ p ex :=
  fun m H σ I Q k k2 => h m H σ I _ (fun vs ws H1 δ1 g1 s1 I1 o1 ⟨ds, e, hl, q⟩ => by
    subst e
    have r := da_of o1
    refine ⟨by rw [r.length]; exact Nat.le_trans hl (by decide), fun p hp => ?_⟩
    have ee := erase_upd (o := .lst vs) hp
    refine k p vs ds _ δ1 (by rw [ee]; exact g1) s1 (by rw [ee]; exact I1) upd_same (by rw [ee]; exact r) q) k2
end
end M3
namespace M3
open PySem PySem.Spec PyProof.Rows L2
variable [NmC]

section
variable {K : PySem.W.Frag} {W : WX} {δ : Sto} {ex : XP} {post : Vw → Sto → Prop} {ta tb tc te : TE} {tt tu : TT} {R : Ends3} {t u : TS}

/-! ### slots are set -/
theorem hid_set {m : Addr → Prop} {i : Nat} {s : Sl} {a : Addr} (hs : ∀ p c, s ≠ .ow p c) (h : hid m (δ.set i s) a) : hid m δ a := by
  rcases h with h | ⟨j, ds, h⟩
  · exact .inl h
  · refine .inr ⟨j, ds, ?_⟩
    by_cases c : i = j
    · subst c
      rw [List.getElem?_set] at h
      simp only [if_true] at h
      split at h
      · exact absurd (Option.some.inj h) (hs _ _)
      · cases h
    · rw [List.getElem?_set_ne c] at h
      exact h
theorem hide_set {m : Addr → Prop} {H : Hp} {i : Nat} {s : Sl} (hs : ∀ p c, s ≠ .ow p c) : Same (hide (hid m δ) H) (hide (hid m (δ.set i s)) H) := .of fun a o h => by
  obtain ⟨c, e⟩ := hide_in h
  exact hide_some (fun z => c (hid_set hs z)) e
theorem set_get {α : Type} {l : List α} {i j : Nat} {x y : α} (h : (l.set i x)[j]? = some y) : (i = j ∧ x = y ∧ i < l.length) ∨ (i ≠ j ∧ l[j]? = some y) := by
  by_cases c : i = j
  · subst c
    rw [List.getElem?_set] at h
    simp only [if_true] at h
    split at h
    · exact .inl ⟨rfl, Option.some.inj h, ‹_›⟩
    · cases h
  · rw [List.getElem?_set_ne c] at h
    exact .inr ⟨c, h⟩
theorem Env3.set_dat {m : Addr → Prop} {H : Hp} {σ : L2.St} {i : Nat} {v : V} {d : PyData} (I : Env3 K m H σ δ) (h : Dd K (hide (hid m δ) H) v d) : Env3 K m H (σ.set i (some v)) (δ.set i (.dat d)) where
  len := by rw [List.length_set, List.length_set, I.len]
  dat := fun j e hj => by
    have hm := hide_set (m := m) (δ := δ) (H := H) (i := i) (s := .dat d) (fun _ _ z => nomatch z)
    rcases set_get hj with ⟨rfl, e1, hi⟩ | ⟨ne, hj⟩
    · cases e1
      exact ⟨v, by rw [List.getElem?_set_self (by rw [I.len]; exact hi)], h.mono hm⟩
    · obtain ⟨u, h1, h2⟩ := I.dat j e hj
      exact ⟨u, by rw [List.getElem?_set_ne ne]; exact h1, h2.mono hm⟩
  ow := fun j p ds hj => by
    have hm := hide_set (m := m) (δ := δ) (H := H) (i := i) (s := .dat d) (fun _ _ z => nomatch z)
    rcases set_get hj with ⟨_, e1, _⟩ | ⟨ne, hj⟩
    · cases e1
    · obtain ⟨h1, h2, xs, h3, h4⟩ := I.ow j p ds hj
      exact ⟨by rw [List.getElem?_set_ne ne]; exact h1, h2, xs, h3, h4.mono hm⟩
  one := fun j k p ds es hj hk => by
    rcases set_get hj with ⟨_, e1, _⟩ | ⟨ne, hj⟩
    · cases e1
    · rcases set_get hk with ⟨_, e1, _⟩ | ⟨ne2, hk⟩
      · cases e1
      · exact I.one j k p ds es hj hk
  got := I.got
  tab := I.tab
theorem Gw.set_dat {m : Addr → Prop} {H : Hp} {i : Nat} {d : PyData} : Gw m δ H (δ.set i (.dat d)) H := ⟨hide_set (fun _ _ z => nomatch z), fun _ _ => rfl⟩
/-- a list of one's own turns into data: it will not change any more -/
theorem Env3.freeze {m : Addr → Prop} {H : Hp} {σ : L2.St} {i : Nat} {p : Addr} {ds : List PyData} (I : Env3 K m H σ δ) (h : δ[i]? = some (.ml p ds)) : Env3 K m H σ (δ.set i (.dat (.list ds))) := by
  obtain ⟨h1, h2, xs, h3, h4⟩ := I.ml i p ds h
  have hσ : σ.set i (some (.ref p)) = σ := by
    obtain ⟨hl, e⟩ := List.getElem?_eq_some_iff.mp h1
    rw [← e]
    exact List.set_getElem_self hl
  have hm := hide_set (m := m) (δ := δ) (H := H) (i := i) (s := .dat (.list ds)) (fun _ _ z => nomatch z)
  have hi : i < δ.length := (List.getElem?_eq_some_iff.mp h).1
  have np : ¬ hid m (δ.set i (.dat (.list ds))) p := fun z => by
    rcases z with z | ⟨j, es, z⟩
    · exact h2 z
    · rcases set_get z with ⟨_, e1, _⟩ | ⟨ne, z⟩
      · cases e1
      · exact ne (I.one i j p _ es h z)
  refine ⟨by rw [List.length_set, I.len], fun j e hj => ?_, fun j q es hj => ?_, fun j k q es fs hj hk => ?_, I.got, I.tab⟩
  · rcases set_get hj with ⟨rfl, e1, _⟩ | ⟨ne, hj⟩
    · cases e1
      exact ⟨_, h1, .lst (.inl (.inl (hide_some np h3))) (h4.mono hm)⟩
    · obtain ⟨u, g1, g2⟩ := I.dat j e hj
      exact ⟨u, g1, g2.mono hm⟩
  · rcases set_get hj with ⟨_, e1, _⟩ | ⟨ne, hj⟩
    · cases e1
    · obtain ⟨g1, g2, ys, g3, g4⟩ := I.ow j q es hj
      exact ⟨g1, g2, ys, g3, g4.mono hm⟩
  · rcases set_get hj with ⟨_, e1, _⟩ | ⟨ne, hj⟩
    · cases e1
    · rcases set_get hk with ⟨_, e1, _⟩ | ⟨ne2, hk⟩
      · cases e1
      · exact I.one j k q es fs hj hk
theorem Gw.freeze {m : Addr → Prop} {H : Hp} {i : Nat} {d : PyData} : Gw m δ H (δ.set i (.dat d)) H := Gw.set_dat
theorem Tb.eraseO {H : Hp} {p P : Addr} {u : HO} (t : Tb H P) (h : H p = some u) (ob : Ob u) : Tb (erase p H) P := by
  obtain ⟨ps, t1, t2, t3⟩ := t
  have up : ∀ b v, H b = some v → ¬ Ob v → M3.erase p H b = some v := fun b v q nl => by
    rw [erase_ne fun z => by
      rw [z, h] at q
      exact nl (Option.some.inj q ▸ ob)]
    exact q
  refine ⟨ps, up _ _ t1 (fun z => z.1 ⟨ps, rfl, t2⟩), t2, fun q hq pos cv hc => ?_⟩
  obtain ⟨c, e1, e2⟩ := t3 q hq pos cv hc
  exact ⟨c, e1, up _ _ e2 fun z => z.2 c q rfl⟩
theorem Tb.erase {H : Hp} {p P : Addr} {xs : List V} (t : Tb H P) (h : H p = some (.lst xs)) : Tb (erase p H) P := t.eraseO h ob_lst
theorem TabI.uneraseO {m : Addr → Prop} {H : Hp} {p : Addr} {u : HO} (t : TabI K m (erase p H)) (h : H p = some u) (ob : Ob u) : TabI K m H :=
  ⟨fun a o ha e => by
    by_cases c : a = p
    · subst c
      rw [h] at e
      rw [← Option.some.inj e]
      exact ob
    · exact t.ls a o ha (by rw [erase_ne c]; exact e), fun P hP => erase_same.tb (t.has P hP)⟩
theorem TabI.unerase {m : Addr → Prop} {H : Hp} {p : Addr} {xs : List V} (t : TabI K m (erase p H)) (h : H p = some (.lst xs)) : TabI K m H := t.uneraseO h ob_lst
/-- a fresh object into a slot -/
theorem hide_fresh {m : Addr → Prop} {H : Hp} {i : Nat} {p : Addr} {c : Cn} : Same (hide (hid m δ) (erase p H)) (hide (hid m (δ.set i (.ow p c))) H) := .of fun a o h => by
  obtain ⟨c, e⟩ := hide_in h
  have ne : a ≠ p := fun z => by rw [z, erase_at] at e; cases e
  rw [erase_ne ne] at e
  refine hide_some (fun z => c ?_) e
  rcases z with z | ⟨j, es, z⟩
  · exact .inl z
  · rcases set_get z with ⟨_, e1, _⟩ | ⟨ne2, z⟩
    · cases e1
      exact absurd rfl ne
    · exact .inr ⟨j, es, z⟩
theorem Env3.set_ow {m : Addr → Prop} {H : Hp} {σ : L2.St} {i : Nat} {p : Addr} {o : HO} {c : Cn} (I : Env3 K m (erase p H) σ δ) (h : H p = some o) (r : CnOk K (hide (hid m δ) (erase p H)) c o) :
    Env3 K m H (σ.set i (some (.ref p))) (δ.set i (.ow p c)) := by
  have hm := hide_fresh (m := m) (δ := δ) (H := H) (i := i) (p := p) (c := c)
  have notp : ¬ m p := fun z => I.got p z erase_at
  have nop : ∀ (j : Nat) (e : Cn), δ[j]? ≠ some (.ow p e) := fun j es z => by
    obtain ⟨_, _, ys, e, _⟩ := I.ow j p es z
    rw [erase_at] at e
    cases e
  refine ⟨by rw [List.length_set, List.length_set, I.len], fun j e hj => ?_, fun j q es hj => ?_, fun j k q es fs hj hk => ?_, fun a ha => ?_, I.tab.uneraseO h r.ob⟩
  · rcases set_get hj with ⟨_, e1, _⟩ | ⟨ne, hj⟩
    · cases e1
    · obtain ⟨u, h1, h2⟩ := I.dat j e hj
      exact ⟨u, by rw [List.getElem?_set_ne ne]; exact h1, h2.mono hm⟩
  · rcases set_get hj with ⟨rfl, e1, hi⟩ | ⟨ne, hj⟩
    · cases e1
      exact ⟨by rw [List.getElem?_set_self (by rw [I.len]; exact hi)], notp, o, h, r.mono hm⟩
    · obtain ⟨h1, h2, ys, h3, h4⟩ := I.ow j q es hj
      exact ⟨by rw [List.getElem?_set_ne ne]; exact h1, h2, ys, erase_same.at h3 h4.ob.1, h4.mono hm⟩
  · rcases set_get hj with ⟨rfl, e1, hi⟩ | ⟨ne, hj⟩
    · cases e1
      rcases set_get hk with ⟨e2, _, _⟩ | ⟨ne2, hk⟩
      · exact e2
      · exact absurd hk (nop _ _)
    · rcases set_get hk with ⟨rfl, e1, _⟩ | ⟨ne2, hk⟩
      · cases e1
        exact absurd hj (nop _ _)
      · exact I.one j k q es fs hj hk
  · have := I.got a ha
    rw [erase_ne (fun z => by rw [z] at ha; exact notp ha)] at this
    exact this
theorem Env3.set_ml {m : Addr → Prop} {H : Hp} {σ : L2.St} {i : Nat} {p : Addr} {xs : List V} {ds : List PyData} (I : Env3 K m (erase p H) σ δ) (h : H p = some (.lst xs)) (r : Da K (hide (hid m δ) (erase p H)) xs ds) :
    Env3 K m H (σ.set i (some (.ref p))) (δ.set i (.ml p ds)) := I.set_ow h (.l r)
theorem Gw.set_ow {m : Addr → Prop} {H : Hp} {σ : L2.St} {i : Nat} {p : Addr} {c : Cn} (I : Env3 K m (erase p H) σ δ) : Gw m δ (erase p H) (δ.set i (.ow p c)) H :=
  ⟨hide_fresh, fun a ha => (erase_ne fun z => by subst z; exact I.got a ha erase_at).symm⟩
theorem Gw.set_ml {m : Addr → Prop} {H : Hp} {σ : L2.St} {i : Nat} {p : Addr} {ds : List PyData} (I : Env3 K m (erase p H) σ δ) : Gw m δ (erase p H) (δ.set i (.ml p ds)) H := .set_ow I
/-- an object of one's own is changed -/
theorem hid_chg {m : Addr → Prop} {i : Nat} {p : Addr} {c e : Cn} (h : δ[i]? = some (.ow p c)) {a : Addr} : hid m (δ.set i (.ow p e)) a ↔ hid m δ a := by
  constructor
  · rintro (z | ⟨j, fs, z⟩)
    · exact .inl z
    · rcases set_get z with ⟨rfl, e1, _⟩ | ⟨ne, z⟩
      · cases e1
        exact .inr ⟨_, c, h⟩
      · exact .inr ⟨j, fs, z⟩
  · rintro (z | ⟨j, fs, z⟩)
    · exact .inl z
    · by_cases q : i = j
      · subst q
        rw [h] at z
        cases z
        exact .inr ⟨i, e, by rw [List.getElem?_set_self (List.getElem?_eq_some_iff.mp h).1]⟩
      · exact .inr ⟨j, fs, by rw [List.getElem?_set_ne q]; exact z⟩
theorem hide_chg {m : Addr → Prop} {H H' : Hp} {i : Nat} {p : Addr} {c es : Cn} {σ : L2.St} (I : Env3 K m H σ δ) (h : δ[i]? = some (.ow p c)) (e : Same (erase p H) (erase p H')) : Same (hide (hid m δ) H) (hide (hid m (δ.set i (.ow p es))) H') := fun a o z => by
  obtain ⟨c, z⟩ := hide_in z
  have ne : a ≠ p := fun q => c (.inr ⟨i, _, by rw [q]; exact h⟩)
  have nq : ¬ hid m (δ.set i (.ow p es)) a := fun q => c ((hid_chg h).mp q)
  rcases e a o (by rw [erase_ne ne]; exact z) with y | ⟨t, y⟩
  · exact .inl (hide_some nq (by rw [erase_ne ne] at y; exact y))
  · refine .inr ⟨t, ?_⟩
    obtain ⟨ps, y1, y2, y3⟩ := y
    have up : ∀ b u, erase p H' b = some u → ¬ Ob u → hide (hid m (δ.set i (.ow p es))) H' b = some u := fun b u q nl => by
      have nb : b ≠ p := fun z => by rw [z, erase_at] at q; cases q
      have q2 : H' b = some u := by rw [erase_ne nb] at q; exact q
      refine hide_some (fun w => nl ?_) q2
      have w := (hid_chg h).mp w
      have there : H b ≠ none := fun z => not_hid I z w
      cases r : H b with
      | none => exact absurd r there
      | some v =>
        have k := I.lists b v w r
        have s := e.at (show erase p H b = some v by rw [erase_ne nb]; exact r) k.1
        rw [q] at s
        rw [Option.some.inj s]
        exact k
    refine ⟨ps, up _ _ y1 (fun z => z.1 ⟨ps, rfl, y2⟩), y2, fun q hq pos cv hc => ?_⟩
    obtain ⟨c, e1, e2⟩ := y3 q hq pos cv hc
    exact ⟨c, e1, up _ _ e2 fun z => z.2 c q rfl⟩
theorem Env3.chgO {m : Addr → Prop} {H H' : Hp} {σ : L2.St} {i : Nat} {p : Addr} {u : HO} {c es : Cn} (I : Env3 K m H σ δ) (h : δ[i]? = some (.ow p c)) (e : Same (erase p H) (erase p H')) (hp : H' p = some u)
    (r : CnOk K (hide (hid m δ) (erase p H')) es u) : Env3 K m H' σ (δ.set i (.ow p es)) := by
  have hm := hide_chg (m := m) (es := es) I h e
  obtain ⟨hσ, np, _⟩ := I.ow i p c h
  have up : ∀ a o, a ≠ p → ¬ IsTb o → H a = some o → H' a = some o := fun a o ne n z => by
    have y := e.at (show erase p H a = some o by rw [erase_ne ne]; exact z) n
    rw [erase_ne ne] at y
    exact y
  have nta : ∀ a o, m a → H a = some o → ¬ IsTb o := fun a o ha h => I.tab.no a o ha h
  have r' : CnOk K (hide (hid m (δ.set i (.ow p es))) H') es u := r.mono fun a o z => by
    obtain ⟨c, z⟩ := hide_in z
    exact .inl (hide_some (fun q => c ((hid_chg h).mp q)) (by
      by_cases y : a = p
      · rw [y, erase_at] at z; cases z
      · rw [erase_ne y] at z; exact z))
  refine ⟨by rw [List.length_set, I.len], fun j e2 hj => ?_, fun j q fs hj => ?_, fun j k q fs gs hj hk => ?_, fun a ha => ?_, ⟨fun a o ha y => ?_, fun P hP => ?_⟩⟩
  · rcases set_get hj with ⟨_, e1, _⟩ | ⟨ne, hj⟩
    · cases e1
    · obtain ⟨v, h1, h2⟩ := I.dat j e2 hj
      exact ⟨v, h1, h2.mono hm⟩
  · rcases set_get hj with ⟨rfl, e1, _⟩ | ⟨ne, hj⟩
    · cases e1
      exact ⟨hσ, np, u, hp, r'⟩
    · obtain ⟨h1, h2, ys, h3, h4⟩ := I.ow j q fs hj
      have nq : q ≠ p := fun z => ne (I.one i j p c fs h (by rw [← z]; exact hj))
      exact ⟨h1, h2, ys, up _ _ nq h4.ob.1 h3, h4.mono hm⟩
  · have back : ∀ {j : Nat} {fs : Cn}, (δ.set i (.ow p es))[j]? = some (.ow q fs) → ∃ gs, δ[j]? = some (.ow q gs) := fun {j fs} z => by
      rcases set_get z with ⟨rfl, e1, _⟩ | ⟨ne, z⟩
      · cases e1
        exact ⟨c, h⟩
      · exact ⟨fs, z⟩
    obtain ⟨a1, b1⟩ := back hj
    obtain ⟨a2, b2⟩ := back hk
    exact I.one j k q a1 a2 b1 b2
  · have ne : a ≠ p := fun z => np (z ▸ ha)
    cases q : H a with
    | none => exact absurd q (I.got a ha)
    | some o =>
      rw [up a o ne (nta a o ha q) q]
      exact fun z => by cases z
  · have ne : a ≠ p := fun z => np (z ▸ ha)
    cases q : H a with
    | none => exact absurd q (I.got a ha)
    | some v =>
      have k := I.tab.ls a v ha q
      have z := up a _ ne k.1 q
      rw [y] at z
      rw [Option.some.inj z]
      exact k
  · obtain ⟨_, _, v, hy, k⟩ := I.ow i p c h
    exact erase_same.tb (e.tb ((I.tab.has P hP).eraseO hy k.ob))
theorem Env3.chg {m : Addr → Prop} {H H' : Hp} {σ : L2.St} {i : Nat} {p : Addr} {xs : List V} {ds es : List PyData} (I : Env3 K m H σ δ) (h : δ[i]? = some (.ml p ds)) (e : Same (erase p H) (erase p H')) (hp : H' p = some (.lst xs))
    (r : Da K (hide (hid m δ) (erase p H')) xs es) : Env3 K m H' σ (δ.set i (.ml p es)) := I.chgO h e hp (.l r)
theorem Gw.chgO {m : Addr → Prop} {H H' : Hp} {σ : L2.St} {i : Nat} {p : Addr} {c es : Cn} (I : Env3 K m H σ δ) (h : δ[i]? = some (.ow p c)) (e : Same (erase p H) (erase p H')) (k : ∀ a, m a → H' a = H a) : Gw m δ H (δ.set i (.ow p es)) H' :=
  ⟨hide_chg I h e, k⟩
theorem Gw.chg {m : Addr → Prop} {H H' : Hp} {σ : L2.St} {i : Nat} {p : Addr} {ds es : List PyData} (I : Env3 K m H σ δ) (h : δ[i]? = some (.ml p ds)) (e : Same (erase p H) (erase p H')) (k : ∀ a, m a → H' a = H a) : Gw m δ H (δ.set i (.ml p es)) H' := .chgO I h e k
theorem Stay.chg {i : Nat} {p : Addr} {ds es : Cn} (h : δ[i]? = some (.ow p ds)) : Stay δ (δ.set i (.ow p es)) := fun j q fs z => by
  by_cases c : i = j
  · subst c
    rw [h] at z
    cases z
    exact ⟨es, by rw [List.getElem?_set_self (List.getElem?_eq_some_iff.mp h).1]⟩
  · exact ⟨fs, by rw [List.getElem?_set_ne c]; exact z⟩

/-! ### statements -/
theorem sx_next (q : R.nx δ) : SX K W tNext δ R := fun m H σ I D k1 _ _ _ _ => k1 σ H δ .refl I q
theorem sx_break (q : R.bk δ) : SX K W tBreak δ R := fun m H σ I D _ _ k3 _ _ => k3 σ H δ .refl I q
theorem sx_cont (q : R.ct δ) : SX K W tCont δ R := fun m H σ I D _ _ _ k4 _ => k4 σ H δ .refl I q
theorem sx_seq (h : SX K W t δ (R.nxt fun δ' => SX K W u δ' R)) : SX K W (tSeq t u) δ R := fun m H σ I D k1 k2 k3 k4 k5 =>
  h m H σ I { D with nx := u D } (fun σ' H' δ' g J p => p m H' σ' J D (fun σ2 H2 δ2 g2 J2 q => k1 σ2 H2 δ2 (g.trans g2) J2 q) (fun v w σ2 H2 δ2 g2 J2 o q => k2 v w σ2 H2 δ2 (g.trans g2) J2 o q)
    (fun σ2 H2 δ2 g2 J2 q => k3 σ2 H2 δ2 (g.trans g2) J2 q) (fun σ2 H2 δ2 g2 J2 q => k4 σ2 H2 δ2 (g.trans g2) J2 q) (fun C σ2 H2 δ2 g2 J2 q => k5 C σ2 H2 δ2 (g.trans g2) J2 q)) k2 k3 k4 k5
theorem sx_asg {i : Nat} (h : EX K W te δ (fun w δ' => ∃ d, w = .d d ∧ R.nx (δ'.set i (.dat d))) R.ex) : SX K W (tAsg te (gName i)) δ R := fun m H σ I D k1 k2 k3 k4 k5 =>
  h m H σ I _ (fun v w H' δ' g s J o ⟨d, e, q⟩ => by
    subst e
    exact k1 _ _ _ (g.trans .set_dat) (J.set_dat o) q) (fun C H' δ' g J e => k5 C σ H' δ' g J e)
theorem sx_asgF {i : Nat} (h : FX K W te δ (fun ds δ' => ∀ p, R.nx (δ'.set i (.ml p ds))) R.ex) : SX K W (tAsg te (gName i)) δ R := fun m H σ I D k1 k2 k3 k4 k5 =>
  h m H σ I _ (fun p xs ds H' δ' g s J e r q => k1 _ _ _ (g.trans (.set_ml J)) (J.set_ml e r) (q p)) (fun C H' δ' g J e => k5 C σ H' δ' g J e)
theorem sx_drop (h : EX K W te δ (fun _ δ' => R.nx δ') R.ex) : SX K W (tDrop te) δ R := fun m H σ I D k1 k2 k3 k4 k5 =>
  h m H σ I _ (fun v w H' δ' g s J o q => k1 _ _ _ g J q) (fun C H' δ' g J e => k5 C σ H' δ' g J e)
theorem sx_ret (h : EX K W te δ R.rt R.ex) : SX K W (tRet te) δ R := fun m H σ I D k1 k2 k3 k4 k5 =>
  h m H σ I _ (fun v w H' δ' g s J o q => k2 v w _ _ _ g J o q) (fun C H' δ' g J e => k5 C σ H' δ' g J e)
theorem sx_retN (h : R.rt (.d .none) δ) : SX K W tRetN δ R := fun m H σ I D k1 k2 k3 k4 k5 => k2 .non (.d .none) σ H δ .refl I .non h
theorem sx_if (h : TX K W tt δ (fun b δ' => (b = true → SX K W t δ' R) ∧ (b = false → SX K W u δ' R)) R.ex) : SX K W (tIfS tt t u) δ R := fun m H σ I D k1 k2 k3 k4 k5 =>
  h m H σ I _ (fun b H' δ' g s J ⟨q1, q2⟩ => by
    have go : ∀ {x : TS}, SX K W x δ' R → x D σ H' := fun {x} q => q m H' σ J D (fun σ2 H2 δ2 g2 J2 q => k1 σ2 H2 δ2 (g.trans g2) J2 q) (fun v w σ2 H2 δ2 g2 J2 o q => k2 v w σ2 H2 δ2 (g.trans g2) J2 o q)
      (fun σ2 H2 δ2 g2 J2 q => k3 σ2 H2 δ2 (g.trans g2) J2 q) (fun σ2 H2 δ2 g2 J2 q => k4 σ2 H2 δ2 (g.trans g2) J2 q) (fun C σ2 H2 δ2 g2 J2 q => k5 C σ2 H2 δ2 (g.trans g2) J2 q)
    cases b with
    | true => exact iteT (go (q1 rfl))
    | false => exact iteF (go (q2 rfl))) (fun C H' δ' g J e => k5 C σ H' δ' g J e)
/-- a list of one's own is data from here on -/
theorem sx_freeze {i : Nat} {p : Addr} {ds : List PyData} (h : δ[i]? = some (.ml p ds)) (q : SX K W t (δ.set i (.dat (.list ds))) R) : SX K W t δ R := fun m H σ I D k1 k2 k3 k4 k5 =>
  q m H σ (I.freeze h) D (fun σ2 H2 δ2 g2 J2 q => k1 σ2 H2 δ2 (Gw.freeze.trans g2) J2 q) (fun v w σ2 H2 δ2 g2 J2 o q => k2 v w σ2 H2 δ2 (Gw.freeze.trans g2) J2 o q)
    (fun σ2 H2 δ2 g2 J2 q => k3 σ2 H2 δ2 (Gw.freeze.trans g2) J2 q) (fun σ2 H2 δ2 g2 J2 q => k4 σ2 H2 δ2 (Gw.freeze.trans g2) J2 q) (fun C σ2 H2 δ2 g2 J2 q => k5 C σ2 H2 δ2 (Gw.freeze.trans g2) J2 q)
/-- a slot that is not asked any more -/
theorem Env3.drop {m : Addr → Prop} {H : Hp} {σ : L2.St} {i : Nat} (I : Env3 K m H σ δ) (v : Option V) : Env3 K m H (σ.set i v) (δ.set i .no) := by
  have hm := hide_set (m := m) (δ := δ) (H := H) (i := i) (s := .no) (fun _ _ z => nomatch z)
  refine ⟨by rw [List.length_set, List.length_set, I.len], fun j e hj => ?_, fun j p ds hj => ?_, fun j k p ds es hj hk => ?_, I.got, I.tab⟩
  · rcases set_get hj with ⟨_, e1, _⟩ | ⟨ne, hj⟩
    · cases e1
    · obtain ⟨u, h1, h2⟩ := I.dat j e hj
      exact ⟨u, by rw [List.getElem?_set_ne ne]; exact h1, h2.mono hm⟩
  · rcases set_get hj with ⟨_, e1, _⟩ | ⟨ne, hj⟩
    · cases e1
    · obtain ⟨h1, h2, ys, h3, h4⟩ := I.ow j p ds hj
      exact ⟨by rw [List.getElem?_set_ne ne]; exact h1, h2, ys, h3, h4.mono hm⟩
  · rcases set_get hj with ⟨_, e1, _⟩ | ⟨ne, hj⟩
    · cases e1
    · rcases set_get hk with ⟨_, e1, _⟩ | ⟨ne2, hk⟩
      · cases e1
      · exact I.one j k p ds es hj hk
/-- less is known -/
def Less (δ δ' : Sto) : Prop := δ'.length = δ.length ∧ ∀ (i : Nat), δ'[i]? = δ[i]? ∨ δ'[i]? = some .no
theorem Env3.less {m : Addr → Prop} {H : Hp} {σ : L2.St} {δ' : Sto} (I : Env3 K m H σ δ) (h : Less δ δ') : Env3 K m H σ δ' ∧ Same (hide (hid m δ) H) (hide (hid m δ') H) := by
  have back : ∀ {i : Nat} {s : Sl}, δ'[i]? = some s → s ≠ .no → δ[i]? = some s := fun {i s} e n => by
    rcases h.2 i with z | z
    · rw [← z]
      exact e
    · rw [z] at e
      exact absurd (Option.some.inj e).symm n
  have hm : Same (hide (hid m δ) H) (hide (hid m δ') H) := .of fun a o z => by
    obtain ⟨c, z⟩ := hide_in z
    refine hide_some (fun q => c ?_) z
    rcases q with q | ⟨i, ds, q⟩
    · exact .inl q
    · exact .inr ⟨i, ds, back q (fun z => nomatch z)⟩
  refine ⟨⟨by rw [I.len, h.1], fun i d e => ?_, fun i p ds e => ?_, fun i j p ds es a b => I.one i j p ds es (back a fun z => nomatch z) (back b fun z => nomatch z), I.got, I.tab⟩, hm⟩
  · obtain ⟨v, h1, h2⟩ := I.dat i d (back e fun z => nomatch z)
    exact ⟨v, h1, h2.mono hm⟩
  · obtain ⟨h1, h2, xs, h3, h4⟩ := I.ow i p ds (back e fun z => nomatch z)
    exact ⟨h1, h2, xs, h3, h4.mono hm⟩
theorem sx_less {δ' : Sto} (h : Less δ δ') (q : SX K W t δ' R) : SX K W t δ R := fun m H σ I D k1 k2 k3 k4 k5 => by
  obtain ⟨J, sm⟩ := I.less h
  have g0 : Gw m δ H δ' H := ⟨sm, fun _ _ => rfl⟩
  exact q m H σ J D (fun σ2 H2 δ2 g2 J2 q => k1 σ2 H2 δ2 (g0.trans g2) J2 q) (fun v w σ2 H2 δ2 g2 J2 o q => k2 v w σ2 H2 δ2 (g0.trans g2) J2 o q)
    (fun σ2 H2 δ2 g2 J2 q => k3 σ2 H2 δ2 (g0.trans g2) J2 q) (fun σ2 H2 δ2 g2 J2 q => k4 σ2 H2 δ2 (g0.trans g2) J2 q) (fun C σ2 H2 δ2 g2 J2 q => k5 C σ2 H2 δ2 (g0.trans g2) J2 q)
/-- a, b = e -/
def setAll : Sto → List Nat → List PyData → Sto
  | δ, i :: is, d :: ds => setAll (δ.set i (.dat d)) is ds
  | δ, _, _ => δ
def gNames : List Nat → TGs
  | [] => gNil
  | i :: is => gCons (gName i) (gNames is)
theorem names_go {D : L2.St → Hp → Prop} : ∀ (is : List Nat) (ds : List PyData) (xs : List V) (m : Addr → Prop) (H : Hp) (σ : L2.St) (δ : Sto), Env3 K m H σ δ → Da K (hide (hid m δ) H) xs ds → ds.length = is.length →
    (∀ σ' , Gw m δ H (setAll δ is ds) H → Env3 K m H σ' (setAll δ is ds) → D σ' H) → gNames is xs σ H D
  | [], [], _, m, H, σ, δ, I, hr, _, k => by
    cases hr
    exact ⟨rfl, k σ .refl I⟩
  | i :: is, d :: ds, v :: vs, m, H, σ, δ, I, hr, hl, k => by
    cases hr with
    | cons h r =>
      refine ⟨v, vs, rfl, ?_⟩
      refine names_go is ds vs m H (σ.set i (some v)) (δ.set i (.dat d)) (I.set_dat h) (r.mono (hide_set (s := .dat d) (fun _ _ z => nomatch z))) (Nat.succ.inj hl) fun σ' g J => k σ' (Gw.set_dat.trans g) J
  | i :: is, d :: ds, [], m, H, σ, δ, I, hr, hl, k => by cases hr
  | [], d :: ds, _, m, H, σ, δ, I, hr, hl, k => by cases hl
  | i :: is, [], _, m, H, σ, δ, I, hr, hl, k => by cases hl
theorem sx_unpack {n : Nat} {is : List Nat} (h : EX K W te δ (fun w δ' => ∃ ds, w = .d (.tuple ds) ∧ ds.length = n ∧ R.nx (setAll δ' is ds)) R.ex) (hn : is.length = n) : SX K W (tAsg te (gTup K n (gNames is))) δ R := fun m H σ I D k1 k2 k3 k4 k5 =>
  h m H σ I _ (fun v w H' δ' g s J o ⟨ds, e, hl, q⟩ => by
    subst e
    obtain ⟨a, xs, rfl, hs, r⟩ := dd_tup o
    refine ⟨a, xs, rfl, Same.tup hide_same hs, by rw [r.length, hl], ?_⟩
    exact names_go is ds xs m H' σ δ' J r (by rw [hl, hn]) fun σ' g' J' => k1 σ' H' _ (g.trans g') J' q) (fun C H' δ' g J e => k5 C σ H' δ' g J e)
end
end M3
namespace M3
open PySem PySem.Spec PyProof.Rows L2
variable [NmC]

/-! ### a def's promise where nothing is being shown (no repr runs) -/
structure FnG (P : Program) (w : World) (K : PySem.W.Frag) (mg : Str → Option Value) (base : Heap) (k : Nat) (f : Addr) (fd : FuncData) (ps : List Str) (sp : Sp) : Prop where
  len : ∀ vs H Q E, sp vs H Q E → vs.length = ps.length
  run : ∀ (A : Around) (outer : List Env) (s : Shared) (H : Hp) (args : Args) (us : List Value) (vs : List V) (Q : VK) (E : XK), A.guards = some [] → Room k A → Env0 P w K mg base A outer s H →
    BindsTo s fd args (ps.zip us) → Vals vs us → sp vs H Q E → codeAny (model P w) A (.call (.ref f) args) (CR (L2.CX P w) outer P w H s Q E) s
section
variable {P : Program} {w : World} {K : PySem.W.Frag} {mg : Str → Option Value} {base : Heap} {k : Nat} {f : Addr} {fd : FuncData} {ps N : List Str} {sp sp' : Sp}
theorem FnG.up {j : Nat} (F : FnG P w K mg base j f fd ps sp) (h : j ≤ k) : FnG P w K mg base k f fd ps sp :=
  ⟨F.len, fun A outer s H args us vs Q E g hr => F.run A outer s H args us vs Q E g (hr.mono h)⟩
theorem FnG.weak (F : FnG P w K mg base k f fd ps sp) (h : ∀ vs H Q E, sp' vs H Q E → sp vs H Q E) : FnG P w K mg base k f fd ps sp' :=
  ⟨fun vs H Q E q => F.len vs H Q E (h _ _ _ _ q), fun A outer s H args us vs Q E g hr e b v q => F.run A outer s H args us vs Q E g hr e b v (h _ _ _ _ q)⟩
/-- the context in which a body runs -/
abbrev bodyX (P : Program) (w : World) (K : PySem.W.Frag) (mg : Str → Option Value) (base : Heap) (N : List Str) (qual : Str) (st : Stmt) (f : Addr) (cdv : Value) (A : Around) (outer : List Env) (s : Shared) (H : Hp) (E : XK) : Cx :=
  cxOf (L2.CX P w) P w K mg base N qual (defScope st) f cdv A outer s H E
/-- a def of the text as it stands behind the top, whatever its defaults are -/
structure Fd (K : PySem.W.Frag) (x qual : Str) (st : Stmt) (f : Addr) (fd : FuncData) : Prop where
  ex : ∃ (oc : Value) (od : Option Addr) (dV kV doc pm : Value) (an : Option Addr) (cdv ct : Value) (osl : Array (Option Value)),
    fd = PySem.W.fnOf x qual (defArgs st) (defBody st) (defScope st) dV kV doc pm an cdv ct ∧ K.lookup f = some ⟨oc, od, .func fd, osl⟩ ∧ PySem.W.codeIn K cdv qual = true
  kp : PySem.W.keepIn K (.ref f) = true
theorem fd_mk {x qual : Str} {st : Stmt} {oc : Value} {od an : Option Addr} {osl : Array (Option Value)} {dV kV doc pm cdv ct : Value} (l : K.lookup f = some ⟨oc, od, .func (PySem.W.fnOf x qual (defArgs st) (defBody st) (defScope st) dV kV doc pm an cdv ct), osl⟩)
    (c : PySem.W.codeIn K cdv qual = true) (k : PySem.W.keepIn K (.ref f) = true) : Fd K x qual st f (PySem.W.fnOf x qual (defArgs st) (defBody st) (defScope st) dV kV doc pm an cdv ct) :=
  ⟨⟨oc, od, dV, kV, doc, pm, an, cdv, ct, osl, rfl, l, c⟩, k⟩
theorem bodyK {N : List Str} {qual : Str} {st : Stmt} {cdv : Value} {A : Around} {outer : List Env} {s : Shared} {H : Hp} {E : XK} : (bodyX P w K mg base N qual st f cdv A outer s H E).K = K := rfl
/-- cdv is the code object of the def at f -/
def CodeIs (K : PySem.W.Frag) (f : Addr) (cdv : Value) : Prop := ∃ (o : Obj) (fd : FuncData), K.lookup f = some o ∧ o.data = .func fd ∧ fd.code = cdv
theorem fn_bodyC {x qual : Str} {st : Stmt} (F : Fd K x qual st f fd) (S : FnScope N ps (defScope st)) (len : ∀ vs H Q E, sp vs H Q E → vs.length = ps.length)
    (body : ∀ (cdv : Value), CodeIs K f cdv → ∀ (A : Around) (outer : List Env) (s : Shared) (H : Hp) (vs : List V) (Q : VK) (E : XK), A.guards = some [] → Room k (A.deeper (envOfC qual (defScope st) s.heap.objs.size f cdv)) → sp vs H Q E →
      ∃ t, PSs (bodyX P w K mg base N qual st f cdv A outer s H E) (defBody st) t ∧ t { nx := fun _ H' => Q .non H', rt := Q } (start N vs) H) : FnG P w K mg base (k + 1) f fd ps sp := by
  obtain ⟨oc, od, dV, kV, doc, pm, an, cdv, ct, osl, e, lk, hcd⟩ := F.ex
  subst e
  refine ⟨len, fun A outer s H args us vs Q E hgd hr e0 hb hvs hsp => ?_⟩
  have old : ∀ b o, base.get? b = some o → s.heap.get? b = some o := fun b o e => (e0.bs b o e).1
  have hkd : ∀ y ∈ ps.zip us, (defScope st).names.lookup y.1 = some .local ∨ ((defScope st).names.lookup y.1 = some .cell ∧ ((cellsFrom (s.heap.objs.size + 1) (defScope st).names []).lookup y.1).isSome = true) := by
    rintro ⟨n, v⟩ hy
    cases S.par n (List.of_mem_zip hy).1 with
    | inl q => exact .inl q
    | inr q => exact .inr ⟨q, PySem.W.cellsFrom_some _ _ _ (.inl q)⟩
  refine codeAny_call_function hr.depth ((e0.mod.kin.keeps old) _ _ lk) rfl S.co S.gen rfl (PySem.W.codeRec_of (e0.mod.kin.keeps old) hcd) (hb _ _ _ _ ?_)
  refine wpAny_newFunctionEnv_cells S.kind hkd fun env he s1 x => ?_
  cases he
  obtain ⟨t, ht, hq⟩ := body cdv ⟨_, _, lk, rfl, rfl⟩ A outer s H vs Q E hgd (hr.deeper _) hsp
  refine ⟨(e0.mod.nolimit.keeps old).keeps x.toInCall.keep, codeAny_func ?_⟩
  have I0 := inv_start (CX := L2.CX P w) (E := E) S hr.hd e0 (len _ _ _ _ hsp) hvs x
  refine wpAny_mono (ht.run [] s1 (start N vs) H _ I0 hq) (fun fl s' hs => ?_) (fun _ _ z => z)
  cases fl with
  | brk => obtain ⟨_, _, _, q⟩ := hs; exact q.elim
  | cont => obtain ⟨_, _, _, q⟩ := hs; exact q.elim
  | next =>
    obtain ⟨σ', H', J, q⟩ := hs
    exact ⟨V.non, H', J.os, J.bare, J.base, J.hok, rfl, q⟩
  | ret u =>
    obtain ⟨v, σ', H', J, rv, q⟩ := hs
    exact ⟨v, H', J.os, J.bare, J.base, J.hok, rv, q⟩
theorem fn_body {x qual : Str} {st : Stmt} (F : Fd K x qual st f fd) (S : FnScope N ps (defScope st)) (len : ∀ vs H Q E, sp vs H Q E → vs.length = ps.length)
    (body : ∀ (cdv : Value) (A : Around) (outer : List Env) (s : Shared) (H : Hp) (vs : List V) (Q : VK) (E : XK), A.guards = some [] → Room k (A.deeper (envOfC qual (defScope st) s.heap.objs.size f cdv)) → sp vs H Q E →
      ∃ t, PSs (bodyX P w K mg base N qual st f cdv A outer s H E) (defBody st) t ∧ t { nx := fun _ H' => Q .non H', rt := Q } (start N vs) H) : FnG P w K mg base (k + 1) f fd ps sp := fn_bodyC F S len fun cdv _ => body cdv
end

/-! ### calls -/
section
variable {X : Cx} {k : Nat} {f : Addr} {fd : FuncData} {ps : List Str} {sp : Sp} {E : L2.St → XK} {x : Str} {p pos : Pos} {e : Expr} {es : List Expr} {t : TA} {dvs : List V} {ds : List Value}
/-- f(e, ..), written defaults dvs behind -/
def tCallG (sp : Sp) (dvs : List V) (E : L2.St → XK) (t : TA) : TE := fun σ H Q => t σ H fun vs H1 => sp (vs ++ dvs) H1 Q (E σ)
theorem run_G {pins : List (Addr × Obj)} {σ : L2.St} {H : Hp} {s : Shared} {Q : VK} {us : List Value} {vs : List V} (F : FnG X.prog X.w X.K X.mg X.base k f fd ps sp) (hgd : X.A.guards = some []) (hr : Room k X.A) (hb : Binds X.K fd ps ds) (hd : Vals dvs ds)
    (hx : PassesAt (L2.CX X.prog X.w) X σ (E σ)) (I : Inv X pins σ H s) (r : Vals vs us) (h : sp (vs ++ dvs) H Q (E σ)) : wpAny (model X.prog X.w) X.A (call (.ref f) us) (EP X pins σ Q) X.xe s := by
  have r2 := r.append hd
  have hl : (us ++ ds).length = ps.length := r2.length.symm.trans (F.len _ _ _ _ h)
  refine wpAny_call (codeAny_mono (F.run X.A X.stack s H ⟨us, []⟩ (us ++ ds) _ Q (E σ) hgd hr I.env0 (hb s us I.kIn hl) r2 h) ?_)
  rintro (er | fl) s' hq
  · exact hx pins H s er s' I hq
  · cases fl with
    | ret u => exact I.after hq
    | next => exact hq.elim
    | brk => exact hq.elim
    | cont => exact hq.elim
theorem pe_G (F : FnG X.prog X.w X.K X.mg X.base k f fd ps sp) (hgd : X.A.guards = some []) (hr : Room k X.A) (hg : Gl X x) (hm : X.mg x = some (.ref f)) (hk : PySem.W.keepIn X.K (.ref f) = true) (hb : Binds X.K fd ps ds) (hd : Vals dvs ds)
    (hx : ∀ σ, PassesAt (L2.CX X.prog X.w) X σ (E σ)) (ha : PA X (e :: es) t) (hdb : (x == ("__debug__" : Str)) = false := by decide) (he : starEach (e :: es) X.env = (false, eval e X.env) :: starEach es X.env := by rfl)
    (hpl : (backTo pos (starEach es X.env)).any (·.1) = false := by rfl) : PE X (.Call (.Name x p) (e :: es) [] pos) (tCallG sp dvs E t) :=
  ⟨fun pins s σ H Q I h => wpAny_Call_Name_kw (ld_glob I hg hm (PySem.W.callWith_K (h₀ := X.base) I.ok.mod.kin hk
    (thn (ha.run pos pins s σ H _ I h) fun us s1 ⟨vs, H1, I1, r, q⟩ => ⟨I1.kIn, run_G F hgd hr hb hd (hx σ) I1 r q⟩) he hpl) hdb)⟩
/-- a call where nothing may leave (in a comprehension) -/
theorem noPass {X : Cx} (σ : L2.St) : PassesAt (L2.CX X.prog X.w) X σ (fun _ _ _ => False) := fun _ _ _ _ _ _ h => by
  obtain ⟨_, _, _, _, _, _, _, _, _, _, _, _, z⟩ := h
  exact z.elim
end

/-! ### promises over data -/
/-- a def of data: it is called with enc a for an a with pre a; post tells what comes back, exn what is raised -/
def spD (K : PySem.W.Frag) {α : Type} (n : Nat) (enc : α → List PyData) (pre : α → Prop) (post : α → PyData → Prop) (exn : α → Value → Prop) : Sp := fun vs H Q E =>
  ∃ (m : Addr → Prop) (a : α), (∀ x, m x → H x ≠ none) ∧ TabI K m H ∧ Da K (hide m H) vs (enc a) ∧ (enc a).length = n ∧ pre a ∧ (∀ v d H', Same H H' → Dd K (hide m H') v d → post a d → Q v H') ∧
    ∀ C H', Same H H' → exn a C → E C none H'
/-- a def whose first argument is a list that it may change: es its items ahead, fs behind -/
def spM (K : PySem.W.Frag) {α : Type} (n : Nat) (enc : α → List PyData) (pre : List PyData → α → Prop) (post : List PyData → α → PyData → List PyData → Prop) : Sp := fun vs H Q _ =>
  ∃ (m : Addr → Prop) (p : Addr) (vr xs : List V) (es : List PyData) (a : α), vs = .ref p :: vr ∧ (∀ x, m x → H x ≠ none) ∧ TabI K m H ∧ ¬ m p ∧ H p = some (.lst xs) ∧ Da K (hide m (erase p H)) xs es ∧ Da K (hide m (erase p H)) vr (enc a) ∧ (enc a).length = n ∧ pre es a ∧
    ∀ v d ys fs H', Same (hide m (erase p H)) (hide m (erase p H')) → (∀ x, m x → H' x = H x) → H' p = some (.lst ys) → Da K (hide m (erase p H')) ys fs → Dd K (hide m (erase p H')) v d → post es a d fs → Q v H'
section
variable {K : PySem.W.Frag} {W : WX} {δ : Sto} {ex : XP} {P : Vw → Sto → Prop} {t : TA} {n : Nat} {α : Type} {enc : α → List PyData} {pre : α → Prop} {post : α → PyData → Prop} {exn : α → Value → Prop}
theorem got_hid {m : Addr → Prop} {H : Hp} {σ : L2.St} (I : Env3 K m H σ δ) : ∀ a, hid m δ a → H a ≠ none := fun a h z => not_hid I z h
theorem tab_hid {m : Addr → Prop} {H : Hp} {σ : L2.St} (I : Env3 K m H σ δ) : TabI K (hid m δ) H := ⟨fun a o h e => by
    rcases h with h | ⟨i, ds, h⟩
    · exact I.tab.ls a o h e
    · obtain ⟨_, _, u, hx, k⟩ := I.ow i a ds h
      rw [hx] at e
      rw [← Option.some.inj e]
      exact k.ob, I.tab.has⟩
theorem da_defaults {H : Hp} {dvs : List V} {dds : List PyData} (h : ∀ H, Da K H dvs dds) : Da K H dvs dds := h H
theorem ex_call {dvs : List V} {dds : List PyData} (hd : ∀ H, Da K H dvs dds)
    (h : AX K W t δ (fun ws δ' => ∃ (ds : List PyData) (a : α), ws = ds.map .d ∧ enc a = ds ++ dds ∧ (enc a).length = n ∧ pre a ∧ (∀ d, post a d → P (.d d) δ') ∧ (∀ C, exn a C → ex C δ')) ex) :
    EX K W (tCallG (spD K n enc pre post exn) dvs (WE W) t) δ P ex := fun m H σ I Q k k2 =>
  h m H σ I _ (fun vs ws H1 δ1 g1 s1 I1 o1 ⟨ds, a, e, ea, hl, hp, q, q2⟩ => by
    subst e
    exact ⟨hid m δ1, a, got_hid I1, tab_hid I1, by rw [ea]; exact (da_of o1).append (hd _), hl, hp, fun v d H' sm dd pd => k v (.d d) H' δ1 (g1.trans (.of_same I1 sm)) s1 (I1.same sm) dd (q d pd),
      fun C H' sm ee => k2 C H' δ1 (g1.trans (.of_same I1 sm)) (I1.same sm) (q2 C ee)⟩) k2
/-- the same in a comprehension: nothing may be raised -/
theorem ex_call0 {dvs : List V} {dds : List PyData} (hd : ∀ H, Da K H dvs dds)
    (h : AX K W t δ (fun ws δ' => ∃ (ds : List PyData) (a : α), ws = ds.map .d ∧ enc a = ds ++ dds ∧ (enc a).length = n ∧ pre a ∧ (∀ d, post a d → P (.d d) δ') ∧ (∀ C, ¬ exn a C)) ex) :
    EX K W (tCallG (spD K n enc pre post exn) dvs (fun _ _ _ _ => False) t) δ P ex := fun m H σ I Q k k2 =>
  h m H σ I _ (fun vs ws H1 δ1 g1 s1 I1 o1 ⟨ds, a, e, ea, hl, hp, q, q2⟩ => by
    subst e
    exact ⟨hid m δ1, a, got_hid I1, tab_hid I1, by rw [ea]; exact (da_of o1).append (hd _), hl, hp, fun v d H' sm dd pd => k v (.d d) H' δ1 (g1.trans (.of_same I1 sm)) s1 (I1.same sm) dd (q d pd),
      fun C H' sm ee => (q2 C ee).elim⟩) k2
theorem hide_erase {m : Addr → Prop} {i : Nat} {p : Addr} {ds : Cn} {H : Hp} (h : δ[i]? = some (.ow p ds)) : hide (hid m δ) (erase p H) = hide (hid m δ) H := by
  funext a
  by_cases c : hid m δ a
  · unfold hide
    rw [if_pos c, if_pos c]
  · have ne : a ≠ p := fun z => c (.inr ⟨i, ds, by rw [z]; exact h⟩)
    rw [hide_of c, hide_of c, erase_ne ne]
theorem sub_hide {m : Addr → Prop} {δ : Sto} {H : Hp} : Same (hide (hid m δ) H) (hide m H) := .of fun a o z => by
  obtain ⟨c, z⟩ := hide_in z
  exact hide_some (fun q => c (.inl q)) z
/-- hidden from a callee that has the list at p: all else of one's own -/
def hidBut (m : Addr → Prop) (δ : Sto) (p : Addr) : Addr → Prop := fun a => hid m δ a ∧ a ≠ p
theorem hide_but {m : Addr → Prop} {i : Nat} {p : Addr} {ds : Cn} {H : Hp} (h : δ[i]? = some (.ow p ds)) : hide (hidBut m δ p) (erase p H) = hide (hid m δ) H := by
  funext a
  by_cases c : a = p
  · subst c
    have h1 : hid m δ a := .inr ⟨i, ds, h⟩
    have h2 : ¬ hidBut m δ a a := fun z => z.2 rfl
    rw [hide_of h2, erase_at]
    unfold hide
    rw [if_pos h1]
  · by_cases c2 : hid m δ a
    · unfold hide
      rw [if_pos c2, if_pos (show hidBut m δ p a from ⟨c2, c⟩)]
    · rw [hide_of c2, hide_of (fun z => c2 z.1), erase_ne c]
theorem ex_callM {i : Nat} {preM : List PyData → α → Prop} {postM : List PyData → α → PyData → List PyData → Prop} {E : L2.St → XK}
    (h : AX K W t δ (fun ws δ' => ∃ (a : α) (p : Addr) (es : List PyData), ws = .m i :: (enc a).map .d ∧ δ'[i]? = some (.ml p es) ∧ (enc a).length = n ∧ preM es a ∧ ∀ d fs, postM es a d fs → P (.d d) (δ'.set i (.ml p fs))) ex) :
    EX K W (tCallG (spM K n enc preM postM) [] E t) δ P ex := fun m H σ I Q k k2 =>
  h m H σ I _ (fun vs ws H1 δ1 g1 s1 I1 o1 ⟨ds, p, es, e, hi, hl, hp, q⟩ => by
    subst e
    cases o1 with
    | cons hv hr =>
      obtain ⟨p', es', e1, rfl⟩ := hv
      rw [hi] at e1
      cases e1
      obtain ⟨_, np, xs, hx, hxs⟩ := I1.ml i p es hi
      rw [List.append_nil]
      refine ⟨hidBut m δ1 p, p, _, xs, es, ds, rfl, fun a z => got_hid I1 a z.1, ⟨fun a o z e => (tab_hid I1).ls a o z.1 e, (tab_hid I1).has⟩, fun z => z.2 rfl, hx, ?_, ?_, hl, hp, fun v d ys fs H' sm kp hy hys hv2 pq => ?_⟩
      · rw [hide_but hi]
        exact hxs
      · rw [hide_but hi]
        exact da_of hr
      · rw [hide_but hi, hide_but hi] at sm
        rw [hide_but hi] at hys hv2
        have sme : Same (erase p H1) (erase p H') := fun a o z => by
          have ne : a ≠ p := fun q => by rw [q, erase_at] at z; cases z
          rw [erase_ne ne] at z
          by_cases c : hid m δ1 a
          · exact .inl (by rw [erase_ne ne, kp a ⟨c, ne⟩]; exact z)
          · rcases sm a o (hide_some c z) with y | ⟨t, y⟩
            · exact .inl (by rw [erase_ne ne]; exact (hide_in y).2)
            · exact .inr ⟨t, (show Same (hide (hid m δ1) H') (erase p H') from .of fun b u w => by
                obtain ⟨c2, w⟩ := hide_in w
                rw [erase_ne fun q => c2 (.inr ⟨i, _, by rw [q]; exact hi⟩)]
                exact w).tb y⟩
        have g2 : Gw m δ1 H1 (δ1.set i (.ml p fs)) H' := .chg I1 hi sme fun a ha => kp a ⟨.inl ha, fun z => np (z ▸ ha)⟩
        have I2 : Env3 K m H' σ (δ1.set i (.ml p fs)) := I1.chg hi sme hy (by rw [hide_erase hi]; exact hys)
        refine k v (.d d) H' _ (g1.trans g2) (s1.trans (.chg hi)) I2 ?_ (q d fs pq)
        exact Dd.mono (.of fun a o z => by
          obtain ⟨c, z⟩ := hide_in z
          exact hide_some (fun q => c ((hid_chg hi).mp q)) z) hv2) k2
end

/-! ### a def by its body over stores -/
def st0 (n : Nat) (ds : List PyData) : Sto := ds.map .dat ++ List.replicate (n - ds.length) .no
abbrev W0 (E : XK) : WX := fun cls d _ H => E cls d H
section
variable {P : Program} {w : World} {K : PySem.W.Frag} {mg : Str → Option Value} {base : Heap} {k : Nat} {f : Addr} {fd : FuncData} {ps N : List Str}
theorem st0_env {H : Hp} {m : Addr → Prop} {n : Nat} : ∀ {vs : List V} {ds : List PyData}, Da K (hide m H) vs ds → (∀ a, m a → H a ≠ none) → TabI K m H → Env3 K m H (vs.map some ++ List.replicate (n - vs.length) none) (st0 n ds) := fun {vs ds} r got tbi => by
  have hl := r.length
  have noml : ∀ (i : Nat) (p : Addr) (es : Cn), (st0 n ds)[i]? ≠ some (.ow p es) := fun i p es z => by
    unfold st0 at z
    rw [List.getElem?_append] at z
    split at z
    · rw [List.getElem?_map] at z
      cases q : ds[i]? with
      | none => rw [q] at z; cases z
      | some d => rw [q] at z; cases z
    · rw [List.getElem?_replicate] at z
      split at z <;> cases z
  have hm : Same (hide m H) (hide (hid m (st0 n ds)) H) := .of fun a o z => by
    obtain ⟨c, z⟩ := hide_in z
    refine hide_some (fun q => ?_) z
    rcases q with q | ⟨i, es, q⟩
    · exact c q
    · exact noml _ _ _ q
  refine ⟨?_, fun i d e => ?_, fun i p es e => absurd e (noml i p es), fun i j p es fs e _ => absurd e (noml i p es), got, tbi⟩
  · unfold st0
    rw [List.length_append, List.length_append, List.length_map, List.length_map, List.length_replicate, List.length_replicate, hl]
  · unfold st0 at e
    rw [List.getElem?_append] at e
    split at e
    · rename_i hi
      rw [List.length_map] at hi
      rw [List.getElem?_map] at e
      cases q : ds[i]? with
      | none => rw [q] at e; cases e
      | some d' =>
        rw [q] at e
        cases e
        obtain ⟨v, h1, h2⟩ := r.get q
        refine ⟨v, ?_, h2.mono hm⟩
        rw [List.getElem?_append_left (by rw [List.length_map, hl]; exact hi), List.getElem?_map, h1]
        rfl
    · rw [List.getElem?_replicate] at e
      split at e <;> cases e
theorem fn_dataC {x qual : Str} {st : Stmt} {n : Nat} {α : Type} {enc : α → List PyData} {pre : α → Prop} {post : α → PyData → Prop} {exn : α → Value → Prop} (F : Fd K x qual st f fd) (S : FnScope N ps (defScope st)) (hn : ps.length = n)
    (body : ∀ (cdv : Value), CodeIs K f cdv → ∀ (A : Around) (outer : List Env) (s : Shared) (H : Hp) (E : XK), A.guards = some [] → Room k (A.deeper (envOfC qual (defScope st) s.heap.objs.size f cdv)) →
      ∃ t, PSs (bodyX P w K mg base N qual st f cdv A outer s H E) (defBody st) t ∧ ∀ a, pre a → SX K (W0 E) t (st0 N.length (enc a))
        (RD (post a) (exn a))) : FnG P w K mg base (k + 1) f fd ps (spD K n enc pre post exn) := by
  refine fn_bodyC F S (fun vs H Q E ⟨m, a, _, _, r, hl, _⟩ => by rw [r.length, hl, hn]) fun cdv hcd A outer s H vs Q E hgd hr h => ?_
  obtain ⟨m, a, got, tbi, r, hl, hp, q, q2⟩ := h
  obtain ⟨t, ht, hb⟩ := body cdv hcd A outer s H E hgd hr
  have I0 : Env3 K m H (start N vs) (st0 N.length (enc a)) := st0_env r got tbi
  have sm : ∀ {H' : Hp} {δ' : Sto}, Gw m (st0 N.length (enc a)) H δ' H' → Same H H' := fun {H' δ'} g b o z => by
    by_cases c : m b
    · exact .inl (by rw [g.keep b c]; exact z)
    · have no : ¬ hid m (st0 N.length (enc a)) b := fun y => by
        rcases y with y | ⟨i, es, y⟩
        · exact c y
        · obtain ⟨z1, _⟩ := I0.ow i b es y
          unfold st0 at y
          rw [List.getElem?_append] at y
          split at y
          · rw [List.getElem?_map] at y
            cases q : (enc a)[i]? with
            | none => rw [q] at y; cases y
            | some d => rw [q] at y; cases y
          · rw [List.getElem?_replicate] at y
            split at y <;> cases y
      rcases g.same b o (hide_some no z) with y | ⟨t, y⟩
      · exact .inl (hide_in y).2
      · exact .inr ⟨t, hide_same.tb y⟩
  exact ⟨t, ht, hb a hp m H (start N vs) I0 _ (fun σ' H' δ' g J pp => q .non .none H' (sm g) .non pp) (fun v w σ' H' δ' g J o ⟨d, e, pp⟩ => by
    subst e
    exact q v d H' (sm g) (Dd.mono sub_hide o) pp) (fun _ _ _ _ _ z => z.elim) (fun _ _ _ _ _ z => z.elim) fun C σ' H' δ' g J e => q2 C H' (sm g) e⟩
theorem fn_data {x qual : Str} {st : Stmt} {n : Nat} {α : Type} {enc : α → List PyData} {pre : α → Prop} {post : α → PyData → Prop} {exn : α → Value → Prop} (F : Fd K x qual st f fd) (S : FnScope N ps (defScope st)) (hn : ps.length = n)
    (body : ∀ (cdv : Value) (A : Around) (outer : List Env) (s : Shared) (H : Hp) (E : XK), A.guards = some [] → Room k (A.deeper (envOfC qual (defScope st) s.heap.objs.size f cdv)) →
      ∃ t, PSs (bodyX P w K mg base N qual st f cdv A outer s H E) (defBody st) t ∧ ∀ a, pre a → SX K (W0 E) t (st0 N.length (enc a))
        (RD (post a) (exn a))) : FnG P w K mg base (k + 1) f fd ps (spD K n enc pre post exn) := fn_dataC F S hn fun cdv _ => body cdv
end
end M3
namespace M3
open PySem PySem.Spec PyProof.Rows L2
variable [NmC]

/-! ### rules of one's own over the layer -/
section
variable {X : Cx}
theorem op_fdX : OpR X (binaryOp .FloorDiv) (rI (fun _ j => j ≠ 0 ∧ j.natAbs.log2 < 9000) fun i j => .int (i.fdiv j)) :=
  opI fun i j _ _ _ _ _ hc q => floordiv_int hc.1 q (.inl (PyProof.noPylong_of_log2 hc.2))
end
/-- what a value of data is called -/
def tyN : PyData → String
  | .none => "NoneType"
  | .bool _ => "bool"
  | .int _ => "int"
  | .str _ => "str"
  | .list _ => "list"
  | .tuple _ => "tuple"
  | .dict _ => "dict"
section
variable {K : PySem.W.Frag} {W : WX} {δ : Sto} {ex : XP} {post : Vw → Sto → Prop} {ta tb tc te : TE} {tt tu : TT} {R : Ends3} {t u : TS} {H : Hp}
/-- the type of a value, frozen dicts with tuples as keys too -/
def TyD (K : PySem.W.Frag) (H : Hp) (x : V) (t : Value) : Prop := TyX K H x t ∨ ∃ (a : Addr) (o : Obj) (kvs : List (List Key × V)), x = .ref a ∧ t = .type "dict" ∧ H a = some (.frz o (.dT kvs))
def rIsiD (K : PySem.W.Frag) : List V → Hp → VK → Prop := fun xs H Q => ∃ (x c : V) (t u : Value) (b : Bool), xs = [x, c] ∧ ClsV c u ∧ TyD K H x t ∧ PySem.W.kitOne K t u = some b ∧ Q (.bl b) H
theorem call_isiD {X : Cx} {K : PySem.W.Frag} (hK : X.K = K) : CallR X (.builtin "isinstance") (rIsiD K) := by
  subst hK
  intro pins s σ H xs us Q I r h
  obtain ⟨x, c, t, u, b, rfl, k, ty, e, q⟩ := h
  rcases ty with ty | ⟨a, o, kvs, rfl, rfl, ha⟩
  · exact call_isi pins s σ H _ us Q I r ⟨x, c, t, u, b, rfl, k, ty, e, q⟩
  · obtain ⟨u1, u2, rfl, r1, r2⟩ := vals2 r
    have e2 := k.eq r2
    subst e2
    cases (show u1 = Value.ref a from r1)
    obtain ⟨_, _, xs, _, ob, es, ep, h1, h2, _⟩ := (show ObjOk X.prog X.w H s.heap a (.dT kvs) from (Rd.ok (.inr ⟨o, ha⟩) I.hok))
    exact PySem.W.kia_one PySem.W.kitx_dict I.kIn ⟨ob, h1, h2.1⟩ e (fun z => nomatch z) fun tk => ⟨.bl b, H, I.tok tk, rfl, q⟩
theorem tyX_of {v : V} {d : PyData} (h : Dd K H v d) : TyD K H v (.type (tyN d)) := by
  rcases h with _ | _ | _ | _ | ⟨h, r⟩ | ⟨h, r⟩ | ⟨h, r⟩ | ⟨h, ne, r⟩
  rotate_left 7
  · exact .inr ⟨_, _, _, rfl, rfl, h⟩
  all_goals refine .inl ?_
  · exact .base .non
  · exact .base (.bl _)
  · exact .base (.int _)
  · exact .base (.str _)
  · rcases h with (h | ⟨o, h⟩) | ⟨o, its, n, h, c, _⟩
    · exact .base (.lst h)
    · exact .base (.frz h)
    · exact .kList h c
  · rcases h with (h | ⟨o, h⟩) | ⟨o, its, n, h, c, _⟩
    · exact .base (.tup h)
    · exact .fTuple h
    · exact .kTuple h c
  · exact .fDict h
mutual
theorem dp_of : ∀ {v : V} {d : PyData}, Dd K H v d → d.canLay0 = true → Dp K H v d
  | _, _, .non, _ => .non
  | _, _, .bl b, _ => .bl b
  | _, _, .int i, _ => .int i
  | _, _, .str x, _ => .str x
  | _, _, .lst h r, c => .lst h (dpAll_of r (by simpa only [PyData.canLay0] using c))
  | _, _, .tup h r, c => .tup h (dpAll_of r (by simpa only [PyData.canLay0] using c))
  | _, _, .dK h r, c => by simp only [PyData.canLay0] at c; cases c
  | _, _, .dT h _ r, c => by simp only [PyData.canLay0] at c; cases c
theorem dpAll_of : ∀ {v : List V} {d : List PyData}, Da K H v d → PyData.canLayAll0 d = true → DpAll K H v d
  | _, _, .nil, _ => .nil
  | _, _, .cons h r, c => by
    simp only [PyData.canLayAll0, Bool.and_eq_true] at c
    exact .cons (dp_of h c.1) (dpAll_of r c.2)
end
/-! ### calls by values -/
def VX (K : PySem.W.Frag) (r : List V → Hp → VK → Prop) (ws : List Vw) (δ : Sto) (post : Vw → Sto → Prop) : Prop :=
  ∀ (m : Addr → Prop) (H : Hp) (σ : L2.St) (vs : List V), Env3 K m H σ δ → VwAll K m H δ vs ws → ∀ Q : VK,
    (∀ v w H', Same H H' → VwOk K m H' δ v w → post w δ → Q v H') → r vs H Q
theorem ex_CB {r : List V → Hp → VK → Prop} {t : TA} (h : AX K W t δ (fun ws δ' => VX K r ws δ' post) ex) : EX K W (tCB r t) δ post ex :=
  fun m H σ I Q k k2 => h m H σ I _ (fun vs ws H1 δ1 g1 s1 I1 o1 hr => hr m H1 σ vs I1 o1 Q fun v w H3 e o p => k v w H3 δ1 (g1.trans (.of_same I1 e)) s1 (I1.same e) o p) k2
theorem ex_cv {v : V} (q : post (.v v) δ) : EX K W (tC v) δ post ex := fun m H σ I Q k _ => k v (.v v) H δ .refl (.refl δ) I rfl q
theorem vw1 {m : Addr → Prop} {vs : List V} {w : Vw} (h : VwAll K m H δ vs [w]) : ∃ v, vs = [v] ∧ VwOk K m H δ v w := by
  cases h with
  | cons h r => cases r; exact ⟨_, rfl, h⟩
theorem vw2 {m : Addr → Prop} {vs : List V} {w x : Vw} (h : VwAll K m H δ vs [w, x]) : ∃ v u, vs = [v, u] ∧ VwOk K m H δ v w ∧ VwOk K m H δ u x := by
  cases h with
  | cons h r =>
    obtain ⟨u, rfl, h2⟩ := vw1 r
    exact ⟨_, _, rfl, h, h2⟩
theorem tyX_hide {m : Addr → Prop} {v : V} {d : PyData} (h : Dd K (hide m H) v d) : TyD K H v (.type (tyN d)) := tyX_of (h.mono hide_same)
theorem vx_isi {d : PyData} {T : String} {b : Bool} (e : kitB (tyN d) T = some b) (q : post (.d (.bool b)) δ) : VX K (rIsiD K) [.d d, .v (.ty T)] δ post := fun m H σ vs I h Q k => by
  obtain ⟨v, u, rfl, h1, h2⟩ := vw2 h
  cases (show u = V.ty T from h2)
  exact ⟨v, .ty T, .type (tyN d), .type T, b, rfl, .ty T, tyX_hide h1, kit_ty e, k _ (.d (.bool b)) H (.refl H) (.bl b) q⟩
abbrev rLenS (K : PySem.W.Frag) : List V → Hp → VK → Prop := fun xs H Q => ∃ p ys, xs = [.ref p] ∧ (SqL K H p ys ∨ SqT K H p ys) ∧ Q (.int ys.length) H
theorem vx_lenT {ds : List PyData} (q : post (.d (.int ds.length)) δ) : VX K (rLenS K) [.d (.tuple ds)] δ post := fun m H σ vs I h Q k => by
  obtain ⟨v, rfl, h1⟩ := vw1 h
  obtain ⟨a, xs, rfl, hs, r⟩ := dd_tup h1
  refine ⟨a, xs, rfl, .inr (Same.tup hide_same hs), k _ (.d (.int ds.length)) H (.refl H) ?_ q⟩
  rw [← r.length]
  exact .int _
theorem vx_lenL {ds : List PyData} (q : post (.d (.int ds.length)) δ) : VX K (rLenS K) [.d (.list ds)] δ post := fun m H σ vs I h Q k => by
  obtain ⟨v, rfl, h1⟩ := vw1 h
  obtain ⟨a, xs, rfl, hs, r⟩ := dd_lst h1
  refine ⟨a, xs, rfl, .inl (Same.seq hide_same hs), k _ (.d (.int ds.length)) H (.refl H) ?_ q⟩
  rw [← r.length]
  exact .int _
theorem vx_lenM {i : Nat} {p : Addr} {ds : List PyData} (hi : δ[i]? = some (.ml p ds)) (q : post (.d (.int ds.length)) δ) : VX K (rLenS K) [.m i] δ post := fun m H σ vs I h Q k => by
  obtain ⟨v, rfl, p', ds', e, rfl⟩ := vw1 h
  rw [hi] at e
  cases e
  obtain ⟨_, _, xs, hp, r⟩ := I.ml i p ds hi
  refine ⟨p, xs, rfl, .inl (.inl (.inl hp)), k _ (.d (.int ds.length)) H (.refl H) ?_ q⟩
  rw [← r.length]
  exact .int _
theorem vx_gcd {a b : Int} (q : post (.d (.int ((Nat.gcd a.natAbs b.natAbs : Nat) : Int))) δ) : VX K rGcd [.d (.int a), .d (.int b)] δ post := fun m H σ vs I h Q k => by
  obtain ⟨v, u, rfl, h1, h2⟩ := vw2 h
  cases dd_int h1
  cases dd_int h2
  exact ⟨a, b, rfl, k _ (.d (.int _)) H (.refl H) (.int _) q⟩
abbrev rAbs : List V → Hp → VK → Prop := fun xs H Q => ∃ i, xs = [.int i] ∧ Q (.int (if i < 0 then -i else i)) H
theorem vx_abs {a : Int} (q : post (.d (.int (if a < 0 then -a else a))) δ) : VX K rAbs [.d (.int a)] δ post := fun m H σ vs I h Q k => by
  obtain ⟨v, rfl, h1⟩ := vw1 h
  cases dd_int h1
  exact ⟨a, rfl, k _ (.d (.int _)) H (.refl H) (.int _) q⟩
abbrev rInt1 : List V → Hp → VK → Prop := fun xs H Q => (∃ i, xs = [.int i] ∧ Q (.int i) H) ∨ ∃ k, xs = [.bl k] ∧ Q (.int (if k then 1 else 0)) H
theorem vx_intI {a : Int} (q : post (.d (.int a)) δ) : VX K rInt1 [.d (.int a)] δ post := fun m H σ vs I h Q k => by
  obtain ⟨v, rfl, h1⟩ := vw1 h
  cases dd_int h1
  exact .inl ⟨a, rfl, k _ (.d (.int _)) H (.refl H) (.int _) q⟩
theorem vx_intB {a : Bool} (q : post (.d (.int (if a then 1 else 0))) δ) : VX K rInt1 [.d (.bool a)] δ post := fun m H σ vs I h Q k => by
  obtain ⟨v, rfl, h1⟩ := vw1 h
  cases dd_bool h1
  exact .inr ⟨a, rfl, k _ (.d (.int _)) H (.refl H) (.int _) q⟩

/-! ### == of data -/
theorem rx_eqD {d e : PyData} (h1 : SeqAt.shaped d = true) (h2 : SeqAt.shaped e = true) (q : post (.d (.bool (PyData.eqv d e))) δ) : RX K (rEqD K) (.d d) (.d e) δ post := fun m H σ v1 v2 I o1 o2 Q k =>
  ⟨d, e, dp_of (Dd.mono hide_same o1) (SeqAt.canLay_of_shaped h1), dp_of (Dd.mono hide_same o2) (SeqAt.canLay_of_shaped h2), h1, h2, k _ (.d (.bool _)) H (.refl H) (.bl _) q⟩
theorem rx_neD {d e : PyData} (h1 : SeqAt.shaped d = true) (h2 : SeqAt.shaped e = true) (q : post (.d (.bool (!PyData.eqv d e))) δ) : RX K (rNeD K) (.d d) (.d e) δ post := fun m H σ v1 v2 I o1 o2 Q k =>
  ⟨d, e, dp_of (Dd.mono hide_same o1) (SeqAt.canLay_of_shaped h1), dp_of (Dd.mono hide_same o2) (SeqAt.canLay_of_shaped h2), h1, h2, k _ (.d (.bool _)) H (.refl H) (.bl _) q⟩

/-! ### truth -/
def truD : PyData → Option Bool
  | .none => some false
  | .bool b => some b
  | .int i => some (i != 0)
  | .str x => if x.length ≤ 100000 then some ((x.length : Int) != 0) else none
  | .list xs => some (!xs.isEmpty)
  | .tuple xs => some (!xs.isEmpty)
  | .dict _ => none
theorem truV_of {v : V} {d : PyData} {b : Bool} (h : Dd K H v d) (e : truD d = some b) : TruV K v H b := by
  cases h with
  | non => cases e; rfl
  | bl x => cases e; rfl
  | int i => cases e; rfl
  | str x =>
    simp only [truD] at e
    split at e
    · cases e
      exact ⟨Nat.le_trans ‹_› (by decide), rfl⟩
    · cases e
  | @lst a xs ds h r =>
    cases e
    refine .inl ⟨xs, h, ?_⟩
    cases r <;> rfl
  | @tup a xs ds h r =>
    cases e
    refine .inr (.inl ⟨xs, h, ?_⟩)
    cases r <;> rfl
  | dK h r => cases e
  | dT h r => cases e
theorem ex_orT {b : Bool} (h : EX K W ta δ (fun w δ' => ∃ d b, w = .d d ∧ truD d = some b ∧ (b = true → post (.d d) δ') ∧ (b = false → EX K W tb δ' post ex)) ex) : EX K W (tOrT K ta tb) δ post ex :=
  fun m H σ I Q k k2 => h m H σ I _ (fun v w H' δ' g s J o ⟨d, b, e, tr, q1, q2⟩ => by
    subst e
    refine ⟨b, truV_of (Dd.mono hide_same o) tr, ?_⟩
    cases b with
    | true => exact iteT (k v (.d d) H' δ' g s J o (q1 rfl))
    | false => exact iteF (q2 rfl m H' σ J Q (fun v w H2 δ2 g2 s2 J2 o2 q => k v w H2 δ2 (g.trans g2) (s.trans s2) J2 o2 q) (fun C H2 δ2 g2 J2 e => k2 C H2 δ2 (g.trans g2) J2 e))) k2
theorem ex_andT {b : Bool} (h : EX K W ta δ (fun w δ' => ∃ d b, w = .d d ∧ truD d = some b ∧ (b = false → post (.d d) δ') ∧ (b = true → EX K W tb δ' post ex)) ex) : EX K W (tAndT K ta tb) δ post ex :=
  fun m H σ I Q k k2 => h m H σ I _ (fun v w H' δ' g s J o ⟨d, b, e, tr, q1, q2⟩ => by
    subst e
    refine ⟨b, truV_of (Dd.mono hide_same o) tr, ?_⟩
    cases b with
    | false => exact iteF (k v (.d d) H' δ' g s J o (q1 rfl))
    | true => exact iteT (q2 rfl m H' σ J Q (fun v w H2 δ2 g2 s2 J2 o2 q => k v w H2 δ2 (g.trans g2) (s.trans s2) J2 o2 q) (fun C H2 δ2 g2 J2 e => k2 C H2 δ2 (g.trans g2) J2 e))) k2
def tTru (K : PySem.W.Frag) (ta : TE) : TT := fun σ H Q => ta σ H fun x H' => ∃ k, TruV K x H' k ∧ Q k H'
theorem tx_tru {p : Bool → Sto → Prop} (h : EX K W ta δ (fun w δ' => ∃ d b, w = .d d ∧ truD d = some b ∧ p b δ') ex) : TX K W (tTru K ta) δ p ex :=
  fun m H σ I Q k k2 => h m H σ I _ (fun v w H' δ' g s J o ⟨d, b, e, tr, q⟩ => by
    subst e
    exact ⟨b, truV_of (Dd.mono hide_same o) tr, k b H' δ' g s J q⟩) k2

/-! ### raise, try -/
def tRaise3 (W : WX) (C : Value) : TS := fun _ σ H => (fun (_ : L2.St) (H : Hp) (Q : XK) => Q C none H) σ H fun cls d H' => W cls d σ H'
theorem sx_raise {C : Value} (q : R.ex C δ) : SX K W (fun D σ H => (fun (_ : L2.St) (H : Hp) (Q : XK) => Q C none H) σ H fun cls d H' => W cls d σ H') δ R :=
  fun m H σ I D _ _ _ _ k5 => k5 C σ H δ .refl I q
theorem sx_try {c : Value} {tb : WX → TS} {ts : Addr → Value → Option Addr → TS}
    (h : ∀ W', SX K W' (tb W') δ (R.catch fun C δ' => ∃ b, PySem.W.exmOne K C c = some b ∧ (b = true → ∀ a, SX K W (ts a C none) δ' R) ∧ (b = false → R.ex C δ'))) :
    SX K W (fun D σ H => tb (wOnly K c ts W D) D σ H) δ R := fun m H σ I D k1 k2 k3 k4 k5 =>
  h (wOnly K c ts W D) m H σ I D k1 k2 k3 k4 fun C σ' H' δ' g J ⟨b, e, q1, q2⟩ => ⟨b, e, fun hb a ha => q1 hb a m H' σ' J D (fun σ2 H2 δ2 g2 J2 q => k1 σ2 H2 δ2 (g.trans g2) J2 q) (fun v w σ2 H2 δ2 g2 J2 o q => k2 v w σ2 H2 δ2 (g.trans g2) J2 o q)
      (fun σ2 H2 δ2 g2 J2 q => k3 σ2 H2 δ2 (g.trans g2) J2 q) (fun σ2 H2 δ2 g2 J2 q => k4 σ2 H2 δ2 (g.trans g2) J2 q) (fun C σ2 H2 δ2 g2 J2 q => k5 C σ2 H2 δ2 (g.trans g2) J2 q),
    fun hb => k5 C σ' H' δ' g J (q2 hb)⟩
end
end M3
namespace M3
open PySem PySem.Spec PyProof.Rows L2
theorem pt_tru {X : Cx} {a : Expr} {ta : TE} (ha : PE X a ta) (he : ∀ whole, isTrue a X.env whole = (do let v ← whole; standAt a.pos; holding [v] (truthy v))) : PT X a (tTru X.K ta) := pt_truth ha he
end M3
namespace M3
open PySem PySem.Spec PyProof.Rows L2
variable [NmC]

/-! ### list + list of any lists that can be read -/
def rCatL (K : PySem.W.Frag) : R2 := fun x y H Q => ∃ l b xs zs, x = .ref l ∧ y = .ref b ∧ SqL K H l xs ∧ SqL K H b zs ∧ xs.length + zs.length ≤ sizeLine ∧ ∀ p, H p = none → Q (.ref p) (upd H p (.lst (xs ++ zs)))
theorem op_catL {X : Cx} : OpR X (binaryOp .Add) (rCatL X.K) := by
  intro pins s σ H x y v u Q I rx ry h
  obtain ⟨l, b, xs, zs, rfl, rfl, hH, hB, hz, q⟩ := h
  cases rx
  cases ry
  obtain ⟨its, r, ⟨⟨cls, dd, data, sl⟩, n, ho, hc, _, hd⟩, z⟩ := I.list hH
  obtain ⟨its2, r2, ⟨⟨cls2, dd2, data2, sl2⟩, n2, ho2, hc2, _, hd2⟩, z2⟩ := I.list hB
  simp only at hc hd hc2 hd2
  subst hc hd hc2 hd2
  have ln := r.length
  have ln2 := r2.length
  refine concat_meets ⟨_, ho, rfl⟩ ⟨_, ho2, rfl⟩ noFill_list_add seq_list_add PySem.F.slot_list_add PySem.F.entry_list_add (PySem.F.args_list_add_2 _ _) (list_addW l b its.toArray its2.toArray n n2 dd dd2 sl sl2 (by rw [List.size_toArray, List.size_toArray]; omega)) ⟨ho, ho2, ?_⟩
  rw [show its.toArray ++ its2.toArray = (its ++ its2).toArray by simp]
  exact ⟨.ref _, _, I.lnew (t' := s.toks) (r.append r2) (by rw [List.length_append]; omega), rfl, q _ I.fresh⟩

section
variable {K : PySem.W.Frag} {W : WX} {δ : Sto} {ex : XP} {post : Vw → Sto → Prop} {ta tb tc te : TE} {tt tu : TT} {R : Ends3} {t u : TS} {H : Hp}

/-- an if without else whose test is known and changes nothing -/
theorem sx_guard (c : Bool) (h : TX K W tt δ (fun b δ' => b = c ∧ δ' = δ) R.ex) (h1 : c = true → SX K W t δ (R.nxt fun δ' => SX K W u δ' R)) (h2 : c = false → SX K W u δ R) : SX K W (tSeq (tIfS tt t tNext) u) δ R :=
  sx_seq (sx_if (h.imp (fun b δ' ⟨e1, e2⟩ => by
    subst e1 e2
    exact ⟨h1, fun hb => sx_next (h2 hb)⟩) fun _ _ e => e))
/-- an if with else whose test is known and changes nothing -/
theorem sx_fork (c : Bool) (h : TX K W tt δ (fun b δ' => b = c ∧ δ' = δ) R.ex) (h1 : c = true → SX K W t δ R) (h2 : c = false → SX K W u δ R) : SX K W (tIfS tt t u) δ R :=
  sx_if (h.imp (fun b δ' ⟨e1, e2⟩ => by
    subst e1 e2
    exact ⟨h1, h2⟩) fun _ _ e => e)
/-! ### fresh lists from operations -/
/-- r makes a fresh list of ds -/
def RF (K : PySem.W.Frag) (r : R2) (w1 w2 : Vw) (δ : Sto) (ds : List PyData) : Prop :=
  ∀ (m : Addr → Prop) (H : Hp) (σ : L2.St) (v1 v2 : V), Env3 K m H σ δ → VwOk K m H δ v1 w1 → VwOk K m H δ v2 w2 → ∀ Q : VK,
    (∀ p xs, H p = none → Da K (hide (hid m δ) H) xs ds → Q (.ref p) (upd H p (.lst xs))) → r v1 v2 H Q
theorem fx_made {m : Addr → Prop} {σ : L2.St} {p : Addr} {xs : List V} {ds : List PyData} {Q : VK} (I : Env3 K m H σ δ) (hp : H p = none) (r : Da K (hide (hid m δ) H) xs ds)
    (k : ∀ p xs ds H' δ', Gw m δ H δ' (erase p H') → Stay δ δ' → Env3 K m (erase p H') σ δ' → H' p = some (.lst xs) → Da K (hide (hid m δ') (erase p H')) xs ds → Q (.ref p) H') : Q (.ref p) (upd H p (.lst xs)) := by
  have ee := erase_upd (o := .lst xs) hp
  exact k p xs ds _ δ (by rw [ee]; exact .refl) (.refl δ) (by rw [ee]; exact I) upd_same (by rw [ee]; exact r)
theorem fx_op {r : R2} {p : List PyData → Sto → Prop} (h : EX K W ta δ (fun w1 δ1 => EX K W tb δ1 (fun w2 δ2 => ∃ ds, RF K r w1 w2 δ2 ds ∧ p ds δ2) ex) ex) : FX K W (tOp r ta tb) δ p ex :=
  fun m H σ I Q k k2 => h m H σ I _ (fun v1 w1 H1 δ1 g1 s1 I1 o1 hb => hb m H1 σ I1 _ (fun v2 w2 H2 δ2 g2 s2 I2 o2 ⟨ds, hr, q⟩ =>
    hr m H2 σ v1 v2 I2 (o1.go g2 s2) o2 Q fun p xs hp rr => by
      have ee := erase_upd (o := .lst xs) hp
      exact k p xs ds _ δ2 (by rw [ee]; exact g1.trans g2) (s1.trans s2) (by rw [ee]; exact I2) upd_same (by rw [ee]; exact rr) q)
    (fun C H' δ' g J e => k2 C H' δ' (g1.trans g) J e)) k2
theorem rf_cat {ds es : List PyData} (hl : ds.length + es.length ≤ 1000000) : RF K (rCatL K) (.d (.list ds)) (.d (.list es)) δ (ds ++ es) := fun m H σ v1 v2 I o1 o2 Q k => by
  obtain ⟨a, xs, rfl, h1, r1⟩ := dd_lst o1
  obtain ⟨b, ys, rfl, h2, r2⟩ := dd_lst o2
  refine ⟨a, b, xs, ys, rfl, rfl, Same.seq hide_same h1, Same.seq hide_same h2, ?_, fun p hp => k p _ hp (r1.append r2)⟩
  rw [r1.length, r2.length]
  exact Nat.le_trans hl (by decide)
/-! ### slices -/
def OX (K : PySem.W.Frag) (W : WX) (to : TO) (δ : Sto) (post : Option Int → Sto → Prop) (ex : XP) : Prop :=
  ∀ (m : Addr → Prop) (H : Hp) (σ : L2.St), Env3 K m H σ δ → ∀ Q : Option Int → Hp → Prop,
    (∀ v H' δ', Gw m δ H δ' H' → Stay δ δ' → Env3 K m H' σ δ' → post v δ' → Q v H') →
    (∀ C H' δ', Gw m δ H δ' H' → Env3 K m H' σ δ' → ex C δ' → W C none σ H') → to σ H Q
theorem ox_none {p : Option Int → Sto → Prop} (q : p none δ) : OX K W tNoPart δ p ex := fun m H σ I Q k _ => k none H δ .refl (.refl δ) I q
theorem ox_some {p : Option Int → Sto → Prop} (h : EX K W te δ (fun w δ' => ∃ i, w = .d (.int i) ∧ p (some i) δ') ex) : OX K W (tPart te) δ p ex :=
  fun m H σ I Q k k2 => h m H σ I _ (fun v w H' δ' g s J o ⟨i, e, q⟩ => by
    subst e
    exact ⟨i, dd_int o, k (some i) H' δ' g s J q⟩) k2
def cutD (xs : List PyData) (lo hi : Option Int) : List PyData := (xs.drop (HT.sIx xs.length 0 lo)).take (HT.sIx xs.length xs.length hi - HT.sIx xs.length 0 lo)
theorem da_drop : ∀ {vs : List V} {ds : List PyData} (n : Nat), Da K H vs ds → Da K H (vs.drop n) (ds.drop n)
  | _, _, 0, r => r
  | _, _, n + 1, .nil => .nil
  | _, _, n + 1, .cons _ r => da_drop n r
theorem da_take : ∀ {vs : List V} {ds : List PyData} (n : Nat), Da K H vs ds → Da K H (vs.take n) (ds.take n)
  | _, _, 0, r => .nil
  | _, _, n + 1, .nil => .nil
  | _, _, n + 1, .cons h r => .cons h (da_take n r)
theorem da_cut {vs : List V} {ds : List PyData} {lo hi : Option Int} (r : Da K H vs ds) : Da K H (cutV vs lo hi) (cutD ds lo hi) := by
  unfold cutV cutD
  rw [r.length]
  exact da_take _ (da_drop _ r)
theorem fx_slL {tl th : TO} {p : List PyData → Sto → Prop} (h : EX K W te δ (fun w δ1 => OX K W tl δ1 (fun lo δ2 => OX K W th δ2 (fun hi δ3 => ∃ ds, w = .d (.list ds) ∧ p (cutD ds lo hi) δ3) ex) ex) ex) : FX K W (tSl (rSlL K) te tl th) δ p ex :=
  fun m H σ I Q k k2 => h m H σ I _ (fun v1 w1 H1 δ1 g1 s1 I1 o1 hb => hb m H1 σ I1 _ (fun lo H2 δ2 g2 s2 I2 hc => hc m H2 σ I2 _ (fun hi H3 δ3 g3 s3 I3 ⟨ds, e, q⟩ => by
      subst e
      obtain ⟨a, xs, rfl, h1, r1⟩ := dd_lst (show Dd K _ v1 (.list ds) from ((o1.go g2 s2).go g3 s3))
      refine ⟨a, xs, rfl, Same.seq hide_same h1, fun p hp => ?_⟩
      have ee := erase_upd (o := .lst (cutV xs lo hi)) hp
      exact k p _ _ _ δ3 (by rw [ee]; exact (g1.trans g2).trans g3) ((s1.trans s2).trans s3) (by rw [ee]; exact I3) upd_same (by rw [ee]; exact da_cut r1) q)
    (fun C H' δ' g J e => k2 C H' δ' ((g1.trans g2).trans g) J e))
    (fun C H' δ' g J e => k2 C H' δ' (g1.trans g) J e)) k2

/-! ### a list of one's own grows, shrinks -/
abbrev tyL (K : PySem.W.Frag) (r : V → List V → Hp → VK → Prop) (ta : TE) (t : TA) : TE := tBM K "list" r ta t
theorem ex_append {i : Nat} (h : EX K W te δ (fun w δ' => ∃ d p ds, w = .d d ∧ δ'[i]? = some (.ml p ds) ∧ ds.length < 1000000 ∧ post (.d .none) (δ'.set i (.ml p (ds ++ [d])))) ex) (hi : ∃ p ds, δ[i]? = some (.ml p ds)) :
    EX K W (tBM K "list" rAppend (tVar i) (tCons te tNil)) δ post ex := fun m H σ I Q k k2 => by
  obtain ⟨p0, ds0, h0⟩ := hi
  obtain ⟨hσ, _, xs0, hx0, _⟩ := I.ml i p0 ds0 h0
  refine ⟨.ref p0, hσ, .inl ⟨rfl, xs0, .inl (.inl hx0)⟩, ?_⟩
  refine h m H σ I _ (fun v w H1 δ1 g1 s1 I1 o1 ⟨d, p, ds, e, h1, hl, q⟩ => ?_) k2
  subst e
  obtain ⟨es, h2⟩ := s1 i p0 _ h0
  rw [h1] at h2
  cases h2
  obtain ⟨_, np, xs, hp, r⟩ := I1.ml i p0 ds h1
  refine ⟨p0, xs, v, rfl, rfl, hp, by rw [r.length]; exact Nat.lt_of_lt_of_le hl (by decide), ?_⟩
  have sme : Same (erase p0 H1) (erase p0 (upd H1 p0 (.lst (xs ++ [v])))) := .of fun a o z => by
    have ne : a ≠ p0 := fun q => by rw [q, erase_at] at z; cases z
    rw [erase_ne ne] at z ⊢
    rw [upd_ne ne]
    exact z
  have r2 : Da K (hide (hid m δ1) (erase p0 (upd H1 p0 (.lst (xs ++ [v]))))) (xs ++ [v]) (ds ++ [d]) := by
    rw [hide_erase h1]
    have e2 : hide (hid m δ1) (upd H1 p0 (.lst (xs ++ [v]))) = hide (hid m δ1) H1 := by
      rw [← hide_erase h1, ← hide_erase (H := H1) h1]
      congr 1
      funext a
      by_cases c : a = p0
      · rw [c, erase_at, erase_at]
      · rw [erase_ne c, erase_ne c, upd_ne c]
    rw [e2]
    exact r.append (.cons o1 .nil)
  have kp : ∀ a, m a → upd H1 p0 (.lst (xs ++ [v])) a = H1 a := fun a ha => upd_ne fun z => np (z ▸ ha)
  exact k .non (.d .none) _ _ (g1.trans (.chg I1 h1 sme kp)) (s1.trans (.chg h1)) (I1.chg h1 sme upd_same r2) .non q
theorem ex_pop {i : Nat} {p : Addr} {ds : List PyData} {d : PyData} (hi : δ[i]? = some (.ml p (ds ++ [d]))) (q : post (.d d) (δ.set i (.ml p ds))) : EX K W (tBM0 K "list" rPop (tVar i)) δ post ex := fun m H σ I Q k k2 => by
  obtain ⟨hσ, np, xs, hx, r⟩ := I.ml i p _ hi
  refine ⟨.ref p, hσ, .inl ⟨rfl, xs, .inl (.inl hx)⟩, ?_⟩
  obtain ⟨ys, v, e, r1, r2⟩ : ∃ ys v, xs = ys ++ [v] ∧ Da K (hide (hid m δ) H) ys ds ∧ Dd K (hide (hid m δ) H) v d := by
    clear hi hx q
    induction ds generalizing xs with
    | nil =>
      cases r with
      | cons h r => cases r; exact ⟨[], _, rfl, .nil, h⟩
    | cons e es ih =>
      cases r with
      | cons h r =>
        obtain ⟨ys, v, e1, r1, r2⟩ := ih _ r
        exact ⟨_ :: ys, v, by rw [e1]; rfl, .cons h r1, r2⟩
  subst e
  refine ⟨p, ys ++ [v], v, rfl, rfl, hx, by simp, ?_⟩
  rw [List.dropLast_concat]
  have sme : Same (erase p H) (erase p (upd H p (.lst ys))) := .of fun a o z => by
    have ne : a ≠ p := fun q => by rw [q, erase_at] at z; cases z
    rw [erase_ne ne] at z ⊢
    rw [upd_ne ne]
    exact z
  have e2 : hide (hid m δ) (erase p (upd H p (.lst ys))) = hide (hid m δ) H := by
    rw [← hide_erase (H := H) hi]
    congr 1
    funext a
    by_cases c : a = p
    · rw [c, erase_at, erase_at]
    · rw [erase_ne c, erase_ne c, upd_ne c]
  have g2 : Gw m δ H (δ.set i (.ml p ds)) (upd H p (.lst ys)) := .chg I hi sme fun a ha => upd_ne fun z => np (z ▸ ha)
  refine k v (.d d) _ _ g2 (.chg hi) (I.chg hi sme upd_same (by rw [e2]; exact r1)) ?_ q
  exact Dd.mono g2.same r2

/-! ### loops -/
/-- a target that takes data: what the store is then -/
def TgOk (K : PySem.W.Frag) (g : TG) (ok : PyData → Prop) (f : Sto → PyData → Sto) : Prop :=
  ∀ (m : Addr → Prop) (H : Hp) (σ : L2.St) (δ : Sto) (v : V) (d : PyData), Env3 K m H σ δ → Dd K (hide (hid m δ) H) v d → ok d → ∀ D : L2.St → Hp → Prop, (∀ σ', Gw m δ H (f δ d) H → Env3 K m H σ' (f δ d) → D σ' H) → g v σ H D
theorem tg_name {i : Nat} : TgOk K (gName i) (fun _ => True) (fun δ d => δ.set i (.dat d)) := fun m H σ δ v d I h _ D k => k _ .set_dat (I.set_dat h)
def tupItems : PyData → List PyData
  | .tuple ds => ds
  | _ => []
theorem tg_names {n : Nat} {is : List Nat} (hn : is.length = n) : TgOk K (gTup K n (gNames is)) (fun d => ∃ ds, d = .tuple ds ∧ ds.length = n) (fun δ d => setAll δ is (tupItems d)) := fun m H σ δ v d I h ⟨ds, e, hl⟩ D k => by
  subst e
  obtain ⟨a, xs, rfl, hs, r⟩ := dd_tup h
  exact ⟨a, xs, rfl, Same.tup hide_same hs, by rw [r.length, hl], names_go is ds xs m H σ δ I r (by rw [hl, hn]) fun σ' g J => k σ' g J⟩
section
variable {g : TG} {ok : PyData → Prop} {f : Sto → PyData → Sto} {tl : TE} {ds : List PyData}
theorem turn_go {m : Addr → Prop} {H H1 H' : Hp} {σ' : L2.St} {δ δ1 δ' : Sto} {x : V} {d : PyData} {D : Ends} {N : Sto → Prop} {Pn : L2.St → Hp → Prop} (tg : TgOk K g ok f) (g1 : Gw m δ H δ1 H1) (g2 : Gw m δ1 H1 δ' H') (J : Env3 K m H' σ' δ') (hd : Dd K (hide (hid m δ') H') x d) (hok : ok d)
    (hb : SX K W t (f δ' d) (R.loop N)) (hP : ∀ σ2 H2 δ2, Gw m δ1 H1 δ2 H2 → Env3 K m H2 σ2 δ2 → N δ2 → Pn σ2 H2)
    (k1 : ∀ σ' H' δ', Gw m δ H δ' H' → Env3 K m H' σ' δ' → R.nx δ' → D.nx σ' H') (k2 : ∀ v w σ' H' δ', Gw m δ H δ' H' → Env3 K m H' σ' δ' → VwOk K m H' δ' v w → R.rt w δ' → D.rt v H')
    (k5 : ∀ C σ' H' δ', Gw m δ H δ' H' → Env3 K m H' σ' δ' → R.ex C δ' → W C none σ' H') : g x σ' H' fun σ2 H2 => t { D with nx := Pn, ct := Pn, bk := D.nx } σ2 H2 :=
  tg m H' σ' δ' x d J hd hok _ fun σ2 g3 J2 => hb m H' σ2 J2 { D with nx := Pn, ct := Pn, bk := D.nx } (fun σ3 H3 δ3 g4 J3 q => hP σ3 H3 δ3 ((g2.trans g3).trans g4) J3 q)
    (fun v w σ3 H3 δ3 g4 J3 o q => k2 v w σ3 H3 δ3 (((g1.trans g2).trans g3).trans g4) J3 o q) (fun σ3 H3 δ3 g4 J3 q => k1 σ3 H3 δ3 (((g1.trans g2).trans g3).trans g4) J3 q)
    (fun σ3 H3 δ3 g4 J3 q => hP σ3 H3 δ3 ((g2.trans g3).trans g4) J3 q) (fun C σ3 H3 δ3 g4 J3 q => k5 C σ3 H3 δ3 (((g1.trans g2).trans g3).trans g4) J3 q)
/-- what a for over the items ds asks -/
def ForI (K : PySem.W.Frag) (W : WX) (t : TS) (R : Ends3) (ok : PyData → Prop) (f : Sto → PyData → Sto) (ds : List PyData) (Inv : Nat → Sto → Prop) : Prop :=
  (∀ k d δ', ds[k]? = some d → Inv k δ' → ok d ∧ SX K W t (f δ' d) (R.loop (Inv (k + 1)))) ∧ ∀ δ', Inv ds.length δ' → R.nx δ'
theorem sx_forL (tg : TgOk K g ok f) (Inv : List PyData → Nat → Sto → Prop) (h : EX K W tl δ (fun w δ1 => ∃ ds, w = .d (.list ds) ∧ Inv ds 0 δ1 ∧ ForI K W t R ok f ds (Inv ds)) R.ex) : SX K W (tFor (iList K tl) g t) δ R :=
  fun m H σ I D k1 k2 k3 k4 k5 => h m H σ I _ (fun v w H1 δ1 g1 s1 I1 o1 ⟨ds, e, i0, turn, fin⟩ => by
    subst e
    obtain ⟨a, xs, rfl, hs, r⟩ := dd_lst o1
    refine ⟨a, rfl, ⟨xs, Same.seq hide_same hs⟩, for_list (K := K) (a := a) (xs := xs) (fun k σ' H' => ∃ δ', Gw m δ1 H1 δ' H' ∧ Env3 K m H' σ' δ' ∧ Inv ds k δ') ⟨δ1, .refl, I1, i0⟩ (fun k σ' H' _ ⟨δ', g2, J, _⟩ => Same.seq hide_same (Same.seq g2.same hs)) ?_ ?_⟩
    · rintro k x σ' H' hx ⟨δ', g2, J, iv⟩
      obtain ⟨d, hd, dd⟩ := r.get' hx
      obtain ⟨hok, hb⟩ := turn k d δ' hd iv
      exact turn_go tg g1 g2 J (dd.mono g2.same) hok hb (fun σ2 H2 δ2 g3 J2 q => ⟨δ2, g3, J2, q⟩) k1 k2 k5
    · rintro σ' H' ⟨δ', g2, J, iv⟩
      exact k1 σ' H' δ' (g1.trans g2) J (fin δ' (by rw [r.length] at iv; exact iv))) (fun C H' δ' g J e => k5 C σ H' δ' g J e)
theorem sx_forT (tg : TgOk K g ok f) (Inv : List PyData → Nat → Sto → Prop) (h : EX K W tl δ (fun w δ1 => ∃ ds, w = .d (.tuple ds) ∧ Inv ds 0 δ1 ∧ ForI K W t R ok f ds (Inv ds)) R.ex) : SX K W (tFor (iTup K tl) g t) δ R :=
  fun m H σ I D k1 k2 k3 k4 k5 => h m H σ I _ (fun v w H1 δ1 g1 s1 I1 o1 ⟨ds, e, i0, turn, fin⟩ => by
    subst e
    obtain ⟨a, xs, rfl, hs, r⟩ := dd_tup o1
    refine ⟨a, rfl, ⟨xs, Same.tup hide_same hs⟩, for_tup (K := K) (a := a) (xs := xs) (fun k σ' H' => ∃ δ', Gw m δ1 H1 δ' H' ∧ Env3 K m H' σ' δ' ∧ Inv ds k δ') ⟨δ1, .refl, I1, i0⟩ (fun k σ' H' _ ⟨δ', g2, J, _⟩ => Same.tup hide_same (Same.tup g2.same hs)) ?_ ?_⟩
    · rintro k x σ' H' hx ⟨δ', g2, J, iv⟩
      obtain ⟨d, hd, dd⟩ := r.get' hx
      obtain ⟨hok, hb⟩ := turn k d δ' hd iv
      exact turn_go tg g1 g2 J (dd.mono g2.same) hok hb (fun σ2 H2 δ2 g3 J2 q => ⟨δ2, g3, J2, q⟩) k1 k2 k5
    · rintro σ' H' ⟨δ', g2, J, iv⟩
      exact k1 σ' H' δ' (g1.trans g2) J (fin δ' (by rw [r.length] at iv; exact iv))) (fun C H' δ' g J e => k5 C σ H' δ' g J e)
/-- over a list of one's own that stays as it is -/
theorem sx_forM (tg : TgOk K g ok f) {j : Nat} {p : Addr} (Inv : Nat → Sto → Prop) (hj : δ[j]? = some (.ml p ds)) (i0 : Inv 0 δ) (stay : ∀ k δ', Inv k δ' → δ'[j]? = some (.ml p ds)) (hI : ForI K W t R ok f ds Inv) : SX K W (tFor (iList K (tVar j)) g t) δ R :=
  fun m H σ I D k1 k2 k3 k4 k5 => by
    obtain ⟨hσ, np, xs, hp, r⟩ := I.ml j p ds hj
    refine ⟨.ref p, hσ, p, rfl, ⟨xs, .inl (.inl hp)⟩, fun k n σ' H' => n = ds.length - k ∧ k ≤ ds.length ∧ ∃ δ', Gw m δ H δ' H' ∧ Env3 K m H' σ' δ' ∧ Inv k δ', ⟨ds.length, rfl, Nat.zero_le _, δ, .refl, I, i0⟩, ?_⟩
    rintro k n σ' H' ⟨en, hk, δ', g2, J, iv⟩
    obtain ⟨_, _, ys, hy, ry⟩ := J.ml j p ds (stay k δ' iv)
    have sy : SqL K H' p ys := .inl (.inl hy)
    have ly := ry.length
    by_cases c : k < ds.length
    · obtain ⟨x, hx, dd⟩ := ry.get (List.getElem?_eq_getElem c)
      refine .inr ⟨⟨ys, x, sy, hx⟩, fun σ2 H2 => ∃ δ2, Gw m δ H δ2 H2 ∧ Env3 K m H2 σ2 δ2 ∧ Inv (k + 1) δ2, fun σ2 H2 ⟨δ2, g3, J2, q⟩ => ⟨n - 1, by omega, by omega, c, δ2, g3, J2, q⟩, fun v H2 hv => ?_⟩
      obtain ⟨rfl, fv⟩ := hv
      have ev : v = x := Option.some.inj ((fv _ sy).symm.trans hx)
      subst ev
      obtain ⟨hok, hb⟩ := hI.1 k _ δ' (List.getElem?_eq_getElem c) iv
      exact turn_go tg .refl g2 J dd hok hb (fun σ2 H2 δ2 g3 J2 q => ⟨δ2, g3, J2, q⟩) k1 k2 k5
    · have e : k = ds.length := by omega
      subst e
      exact .inl ⟨⟨ys, sy, by omega⟩, k1 σ' H' δ' g2 J (hI.2 δ' iv)⟩
def rangeD (lo : Int) (n : Nat) : List PyData := (List.range n).map fun (i : Nat) => .int (lo + (i : Int))
theorem rangeD_get {lo : Int} {n i : Nat} (h : i < n) : (rangeD lo n)[i]? = some (.int (lo + (i : Int))) := by
  unfold rangeD
  rw [List.getElem?_map, List.getElem?_range h]
  rfl
theorem rangeD_len {lo : Int} {n : Nat} : (rangeD lo n).length = n := by
  unfold rangeD
  rw [List.length_map, List.length_range]
theorem sx_forR1 {ta : TA} (tg : TgOk K g ok f) (Inv : Nat → Sto → Prop) (h : AX K W ta δ (fun ws δ1 => ∃ n : Int, ws = [.d (.int n)] ∧ (-1000000 ≤ n ∧ n ≤ 1000000000) ∧ Inv 0 δ1 ∧ ForI K W t R ok f (rangeD 0 n.toNat) Inv) R.ex) : SX K W (tFor (iRng1 ta) g t) δ R :=
  fun m H σ I D k1 k2 k3 k4 k5 => h m H σ I _ (fun vs w H1 δ1 g1 s1 I1 o1 ⟨n, e, hb, i0, turn, fin⟩ => by
    subst e
    obtain ⟨v, rfl, hv⟩ := vw1 o1
    cases dd_int hv
    refine ⟨n, rfl, by omega, by omega, for_range (lo := 0) (n := n.toNat) (fun k σ' H' => ∃ δ', Gw m δ1 H1 δ' H' ∧ Env3 K m H' σ' δ' ∧ Inv k δ') ⟨δ1, .refl, I1, i0⟩ ?_ ?_⟩
    · rintro k σ' H' hk ⟨δ', g2, J, iv⟩
      obtain ⟨hok, hb⟩ := turn k _ δ' (rangeD_get hk) iv
      exact turn_go tg g1 g2 J (.int _) hok hb (fun σ2 H2 δ2 g3 J2 q => ⟨δ2, g3, J2, q⟩) k1 k2 k5
    · rintro σ' H' ⟨δ', g2, J, iv⟩
      exact k1 σ' H' δ' (g1.trans g2) J (fin δ' (by rw [rangeD_len]; exact iv))) (fun C H' δ' g J e => k5 C σ H' δ' g J e)
theorem sx_forR2 {ta : TA} (tg : TgOk K g ok f) (Inv : Nat → Sto → Prop) (h : AX K W ta δ (fun ws δ1 => ∃ lo n : Int, ws = [.d (.int lo), .d (.int n)] ∧ (-1000000000 ≤ lo ∧ lo ≤ 1000000000 ∧ -1000000000 ≤ n ∧ n ≤ 1000000000) ∧ Inv 0 δ1 ∧ ForI K W t R ok f (rangeD lo (n - lo).toNat) Inv) R.ex) : SX K W (tFor (iRng2 ta) g t) δ R :=
  fun m H σ I D k1 k2 k3 k4 k5 => h m H σ I _ (fun vs w H1 δ1 g1 s1 I1 o1 ⟨lo, n, e, hb, i0, turn, fin⟩ => by
    subst e
    obtain ⟨v, u, rfl, hv, hu⟩ := vw2 o1
    cases dd_int hv
    cases dd_int hu
    refine ⟨lo, n, rfl, by omega, for_range (lo := lo) (n := (n - lo).toNat) (fun k σ' H' => ∃ δ', Gw m δ1 H1 δ' H' ∧ Env3 K m H' σ' δ' ∧ Inv k δ') ⟨δ1, .refl, I1, i0⟩ ?_ ?_⟩
    · rintro k σ' H' hk ⟨δ', g2, J, iv⟩
      obtain ⟨hok, hb⟩ := turn k _ δ' (rangeD_get hk) iv
      exact turn_go tg g1 g2 J (.int _) hok hb (fun σ2 H2 δ2 g3 J2 q => ⟨δ2, g3, J2, q⟩) k1 k2 k5
    · rintro σ' H' ⟨δ', g2, J, iv⟩
      exact k1 σ' H' δ' (g1.trans g2) J (fin δ' (by rw [rangeD_len]; exact iv))) (fun C H' δ' g J e => k5 C σ H' δ' g J e)
/-- a while: Inv with a number that falls -/
theorem sx_while (Inv : Nat → Sto → Prop) (n0 : Nat) (i0 : Inv n0 δ)
    (h : ∀ n δ', Inv n δ' → TX K W tt δ' (fun b δ1 => (b = true → SX K W t δ1 (R.loop fun δ2 => ∃ k, k < n ∧ Inv k δ2)) ∧ (b = false → R.nx δ1)) R.ex) : SX K W (tWhile tt t) δ R :=
  fun m H σ I D k1 k2 k3 k4 k5 => by
    refine ⟨fun n σ' H' => ∃ δ', Gw m δ H δ' H' ∧ Env3 K m H' σ' δ' ∧ Inv n δ', ⟨n0, δ, .refl, I, i0⟩, ?_⟩
    rintro n σ' H' ⟨δ', g1, J, iv⟩
    refine h n δ' iv m H' σ' J _ (fun b H1 δ1 g2 s2 J1 ⟨q1, q2⟩ => ?_) (fun C H1 δ1 g2 J1 e => k5 C σ' H1 δ1 (g1.trans g2) J1 e)
    cases b with
    | false => exact iteF (k1 σ' H1 δ1 (g1.trans g2) J1 (q2 rfl))
    | true =>
      refine iteT ⟨fun σ2 H2 => ∃ k, k < n ∧ ∃ δ2, Gw m δ H δ2 H2 ∧ Env3 K m H2 σ2 δ2 ∧ Inv k δ2, fun σ2 H2 z => z, ?_⟩
      exact q1 rfl m H1 σ' J1 _ (fun σ3 H3 δ3 g4 J3 ⟨k, hk, q⟩ => ⟨k, hk, δ3, (g1.trans g2).trans g4, J3, q⟩) (fun v w σ3 H3 δ3 g4 J3 o q => k2 v w σ3 H3 δ3 ((g1.trans g2).trans g4) J3 o q)
        (fun σ3 H3 δ3 g4 J3 q => k1 σ3 H3 δ3 ((g1.trans g2).trans g4) J3 q) (fun σ3 H3 δ3 g4 J3 ⟨k, hk, q⟩ => ⟨k, hk, δ3, (g1.trans g2).trans g4, J3, q⟩) (fun C σ3 H3 δ3 g4 J3 q => k5 C σ3 H3 δ3 ((g1.trans g2).trans g4) J3 q)
end
end
end M3
namespace M3
open PySem PySem.Spec PyProof.Rows L2
variable [NmC]

/-! ### comprehensions -/
abbrev WF : WX := fun _ _ _ _ => False
abbrev XF : XP := fun _ _ => False
def wipeD (δ : Sto) : List Nat → Sto
  | [] => δ
  | v :: vs => (wipeD δ vs).set v .no
theorem wipe_set {α : Type} {l : List α} {i j : Nat} {x y : α} : i ≠ j → (l.set i x).set j y = (l.set j y).set i x := fun h => List.set_comm x y h
theorem wipe_in (σ : L2.St) (i : Nat) (x : Option V) : ∀ vs : List Nat, i ∈ vs → wipe (σ.set i x) vs = wipe σ vs
  | v :: vs, h => by
    show (wipe (σ.set i x) vs).set v none = (wipe σ vs).set v none
    by_cases c : i ∈ vs
    · rw [wipe_in σ i x vs c]
    · have e : i = v := by
        rcases List.mem_cons.mp h with e | e
        · exact e
        · exact absurd e c
      subst e
      have out : ∀ (ws : List Nat) (τ : L2.St), i ∉ ws → wipe (τ.set i x) ws = (wipe τ ws).set i x := by
        intro ws
        induction ws with
        | nil => intro τ _; rfl
        | cons u us ih =>
          intro τ hn
          have h1 : i ≠ u := fun z => hn (by rw [z]; exact List.mem_cons_self)
          have h2 : i ∉ us := fun z => hn (List.mem_cons_of_mem _ z)
          show (wipe (τ.set i x) us).set u none = ((wipe τ us).set u none).set i x
          rw [ih τ h2, List.set_comm _ _ h1]
      rw [out vs σ c, List.set_set]
section
variable {K : PySem.W.Frag} {W : WX} {δ : Sto} {ex : XP} {tt : TT} {te tl : TE} {g : TG} {ok : PyData → Prop} {f : Sto → PyData → Sto} {vs : List Nat} {H : Hp}
theorem Env3.wiped {m : Addr → Prop} {σ : L2.St} (I : Env3 K m H σ δ) : ∀ vs : List Nat, Env3 K m H (wipe σ vs) (wipeD δ vs)
  | [] => I
  | v :: vs => (I.wiped vs).drop none
theorem wipeD_some {i : Nat} {s : Sl} : ∀ {vs : List Nat}, (wipeD δ vs)[i]? = some s → s ≠ .no → δ[i]? = some s ∧ i ∉ vs
  | [], h, _ => ⟨h, by simp⟩
  | v :: vs, h, hs => by
    have h : ((wipeD δ vs).set v .no)[i]? = some s := h
    rcases set_get h with ⟨_, e, _⟩ | ⟨ne, h⟩
    · exact absurd e.symm hs
    · obtain ⟨h1, h2⟩ := wipeD_some h hs
      exact ⟨h1, by
        rw [List.mem_cons]
        rintro (z | z)
        · exact ne z.symm
        · exact h2 z⟩
theorem wipeD_out {i : Nat} : ∀ {vs : List Nat}, i ∉ vs → (wipeD δ vs)[i]? = δ[i]?
  | [], _ => rfl
  | v :: vs, h => by
    show ((wipeD δ vs).set v .no)[i]? = _
    rw [List.getElem?_set_ne (fun z => h (by rw [z]; exact List.mem_cons_self))]
    exact wipeD_out fun z => h (List.mem_cons_of_mem _ z)
theorem wipe_back {m : Addr → Prop} {σ : L2.St} {δ' : Sto} (I : Env3 K m H (wipe σ vs) δ') : Env3 K m H σ δ' where
  len := by rw [← I.len, wipe_length]
  dat := fun i d h => by
    obtain ⟨v, h1, h2⟩ := I.dat i d h
    exact ⟨v, (wipe_some h1).1, h2⟩
  ow := fun i p ds h => by
    obtain ⟨h1, h2⟩ := I.ow i p ds h
    exact ⟨(wipe_some h1).1, h2⟩
  one := I.one
  got := I.got
  tab := I.tab
theorem own_wiped {a : Addr} (noml : ∀ i ∈ vs, ∀ p ds, δ[i]? ≠ some (.ow p ds)) : own (wipeD δ vs) a ↔ own δ a := by
  constructor
  · rintro ⟨i, ds, h⟩
    exact ⟨i, ds, (wipeD_some h (fun z => nomatch z)).1⟩
  · rintro ⟨i, ds, h⟩
    refine ⟨i, ds, ?_⟩
    rw [wipeD_out fun z => noml i z _ _ h]
    exact h
/-- a comprehension's target: it stores within vs -/
def TgC (K : PySem.W.Frag) (g : TG) (vs : List Nat) (ok : PyData → Prop) (f : Sto → PyData → Sto) : Prop :=
  (∀ (m : Addr → Prop) (H : Hp) (σ : L2.St) (δ : Sto) (v : V) (d : PyData), Env3 K m H σ δ → Dd K (hide (hid m δ) H) v d → ok d → ∀ D : L2.St → Hp → Prop, (∀ σ2, wipe σ2 vs = wipe σ vs → Gw m δ H (f δ d) H → Env3 K m H σ2 (f δ d) → D σ2 H) → g v σ H D) ∧
  ∀ (δ : Sto) (d : PyData), (∀ i ∈ vs, ∀ p ds, δ[i]? ≠ some (.ow p ds)) → ok d → Stay δ (f δ d) ∧ ∀ i ∈ vs, ∀ p ds, (f δ d)[i]? ≠ some (.ow p ds)
theorem stay_set {i : Nat} {d : PyData} (h : ∀ p ds, δ[i]? ≠ some (.ow p ds)) : Stay δ (δ.set i (.dat d)) := fun j p ds e => ⟨ds, by
  have ne : i ≠ j := fun z => h p ds (by rw [z]; exact e)
  rw [List.getElem?_set_ne ne]
  exact e⟩
theorem tgc_name {i : Nat} : TgC K (gName i) [i] (fun _ => True) (fun δ d => δ.set i (.dat d)) :=
  ⟨fun m H σ δ v d I h _ D k => k _ (wipe_in σ i _ [i] List.mem_cons_self) .set_dat (I.set_dat h), fun δ d h _ => ⟨stay_set (h i List.mem_cons_self), fun j hj p ds e => by
    have ej : j = i := by simpa using hj
    subst ej
    rcases set_get e with ⟨_, z, _⟩ | ⟨ne, _⟩
    · cases z
    · exact ne rfl⟩⟩
theorem names_goC {D : L2.St → Hp → Prop} : ∀ (is : List Nat) (ds : List PyData) (xs : List V) (m : Addr → Prop) (H : Hp) (σ : L2.St) (δ : Sto), (∀ i ∈ is, i ∈ vs) → Env3 K m H σ δ → Da K (hide (hid m δ) H) xs ds → ds.length = is.length →
    (∀ σ', wipe σ' vs = wipe σ vs → Gw m δ H (setAll δ is ds) H → Env3 K m H σ' (setAll δ is ds) → D σ' H) → gNames is xs σ H D
  | [], [], xs, m, H, σ, δ, hv, I, r, hl, k => by
    cases r
    exact ⟨rfl, k σ rfl .refl I⟩
  | i :: is, d :: ds, xs, m, H, σ, δ, hv, I, r, hl, k => by
    cases r with
    | cons h r =>
      refine ⟨_, _, rfl, ?_⟩
      exact names_goC is ds _ m H _ _ (fun j hj => hv j (List.mem_cons_of_mem _ hj)) (I.set_dat h) (r.mono (hide_set (s := .dat d) (fun _ _ z => nomatch z))) (Nat.succ.inj hl) fun σ' e g J => k σ' (e.trans (wipe_in σ i _ vs (hv i List.mem_cons_self))) (Gw.set_dat.trans g) J
  | [], d :: ds, xs, m, H, σ, δ, hv, I, r, hl, k => by cases hl
  | i :: is, [], xs, m, H, σ, δ, hv, I, r, hl, k => by cases hl
theorem setAll_ml : ∀ (is : List Nat) (ds : List PyData) (δ : Sto) (j : Nat) (p : Addr) (es : Cn), (setAll δ is ds)[j]? = some (.ow p es) → δ[j]? = some (.ow p es)
  | [], ds, δ, j, p, es, h => by cases ds <;> exact h
  | i :: is, [], δ, j, p, es, h => h
  | i :: is, d :: ds, δ, j, p, es, h => by
    have h2 := setAll_ml is ds (δ.set i (.dat d)) j p es h
    rcases set_get h2 with ⟨_, z, _⟩ | ⟨_, z⟩
    · cases z
    · exact z
theorem setAll_out : ∀ (is : List Nat) (ds : List PyData) (δ : Sto) (j : Nat), j ∉ is → (setAll δ is ds)[j]? = δ[j]?
  | [], ds, δ, j, h => by cases ds <;> rfl
  | i :: is, [], δ, j, h => rfl
  | i :: is, d :: ds, δ, j, h => by
    show (setAll (δ.set i (.dat d)) is ds)[j]? = δ[j]?
    rw [setAll_out is ds _ j (fun z => h (List.mem_cons_of_mem _ z)), List.getElem?_set_ne (fun z => h (by rw [z]; exact List.mem_cons_self))]
theorem tgc_names {n : Nat} {is : List Nat} (hn : is.length = n) : TgC K (gTup K n (gNames is)) is (fun d => ∃ ds, d = .tuple ds ∧ ds.length = n) (fun δ d => setAll δ is (tupItems d)) :=
  ⟨fun m H σ δ v d I h ⟨ds, e, hl⟩ D k => by
    subst e
    obtain ⟨a, xs, rfl, hs, r⟩ := dd_tup h
    exact ⟨a, xs, rfl, Same.tup hide_same hs, by rw [r.length, hl], names_goC is ds xs m H σ δ (fun _ z => z) I r (by rw [hl, hn]) k⟩,
   fun δ d h _ => ⟨fun j p ds e => ⟨ds, by
      rw [setAll_out]
      · exact e
      · exact fun z => h j z p ds e⟩, fun i hi p ds e => h i hi p ds (setAll_ml _ _ _ _ _ _ e)⟩⟩
/-- one turn, from the store δ' (nothing known in vs) with acc made so far -/
def Turn3 (K : PySem.W.Frag) (tt : TT) (te : TE) (vs : List Nat) (f : Sto → PyData → Sto) (d : PyData) (δ' : Sto) (acc : List PyData) (N : List PyData → Sto → Prop) : Prop :=
  TX K WF tt (f δ' d) (fun b δ2 => (b = true → EX K WF te δ2 (fun w δ3 => ∃ e, w = .d e ∧ acc.length < 1000000 ∧ N (acc ++ [e]) (wipeD δ3 vs)) XF) ∧ (b = false → N acc (wipeD δ2 vs))) XF
def LcI (K : PySem.W.Frag) (tt : TT) (te : TE) (vs : List Nat) (ok : PyData → Prop) (f : Sto → PyData → Sto) (ds : List PyData) (Inv : Nat → List PyData → Sto → Prop) : Prop :=
  ∀ k d acc δ', ds[k]? = some d → Inv k acc δ' → ok d ∧ Turn3 K tt te vs f d δ' acc (Inv (k + 1))
/-- the state within: D is the list that is made -/
structure LcS (K : PySem.W.Frag) (m : Addr → Prop) (D : Addr) (vs : List Nat) (σ : L2.St) (δ0 : Sto) (H0 : Hp) (Inv : List PyData → Sto → Prop) (H : Hp) (δ' : Sto) (acc : List PyData) : Prop where
  same : Same (hide (hid m δ0) H0) (hide (hid m δ') (erase D H))
  keep : ∀ a, m a → H a = H0 a
  env : Env3 K (fun a => m a ∨ a = D) H (wipe σ vs) δ'
  lst : ∃ xs, H D = some (.lst xs) ∧ Da K (hide (hid m δ') (erase D H)) xs acc
  stay : Stay δ0 δ'
  noml : ∀ i ∈ vs, ∀ p ds, δ'[i]? ≠ some (.ow p ds)
  inv : Inv acc δ'
theorem hid_D {m : Addr → Prop} {D : Addr} {H : Hp} : hide (hid (fun a => m a ∨ a = D) δ) H = hide (hid m δ) (erase D H) := by
  funext a
  by_cases c : a = D
  · have h1 : hid (fun a => m a ∨ a = D) δ a := .inl (.inr c)
    unfold hide
    rw [if_pos h1, c, erase_at]
    simp
  · by_cases c2 : hid m δ a
    · have h1 : hid (fun a => m a ∨ a = D) δ a := by
        rcases c2 with z | z
        · exact .inl (.inl z)
        · exact .inr z
      unfold hide
      rw [if_pos h1, if_pos c2]
    · have h1 : ¬ hid (fun a => m a ∨ a = D) δ a := by
        rintro ((z | z) | z)
        · exact c2 (.inl z)
        · exact c z
        · exact c2 (.inr z)
      rw [hide_of h1, hide_of c2, erase_ne c]
theorem Env3.unD {m : Addr → Prop} {D : Addr} {σ : L2.St} (I : Env3 K (fun a => m a ∨ a = D) H σ δ) (nD : ¬ m D) : Env3 K m (erase D H) σ δ where
  len := I.len
  dat := fun i d h => by
    have q := I.dat i d h
    rw [hid_D] at q
    exact q
  ow := fun i p ds h => by
    obtain ⟨h1, h2, xs, h3, h4⟩ := I.ow i p ds h
    rw [hid_D] at h4
    exact ⟨h1, fun z => h2 (.inl z), xs, by rw [erase_ne (fun z => h2 (.inr z))]; exact h3, h4⟩
  one := I.one
  got := fun a h => by
    have ne : a ≠ D := fun z => nD (z ▸ h)
    rw [erase_ne ne]
    exact I.got a (.inl h)
  tab := ⟨fun a o h e => by
    have ne : a ≠ D := fun z => by rw [z, erase_at] at e; cases e
    rw [erase_ne ne] at e
    exact I.tab.ls a o (.inl h) e, fun P hP => by
    cases q : H D with
    | none => exact absurd q (I.got D (.inr rfl))
    | some u =>
      exact (I.tab.has P hP).eraseO q (I.tab.ls D u (.inr rfl) q)⟩
theorem Env3.onD {m : Addr → Prop} {D : Addr} {σ : L2.St} (I : Env3 K m (erase D H) σ δ) (hD : ∃ u, H D = some u ∧ Ob u) : Env3 K (fun a => m a ∨ a = D) H σ δ where
  len := I.len
  dat := fun i d h => by
    rw [hid_D]
    exact I.dat i d h
  ow := fun i p ds h => by
    obtain ⟨h1, h2, xs, h3, h4⟩ := I.ow i p ds h
    have ne : p ≠ D := fun z => by rw [z, erase_at] at h3; cases h3
    rw [hid_D]
    exact ⟨h1, fun z => z.elim h2 ne, xs, by rw [erase_ne ne] at h3; exact h3, h4⟩
  one := I.one
  got := fun a h => by
    rcases h with h | rfl
    · exact fun z => I.got a h (by
        by_cases c : a = D
        · rw [c, erase_at]
        · rw [erase_ne c]; exact z)
    · obtain ⟨xs, hx, _⟩ := hD
      rw [hx]
      exact fun z => by cases z
  tab := ⟨fun a o h e => by
    obtain ⟨xs, hx, ob⟩ := hD
    by_cases c : a = D
    · rw [c, hx] at e
      rw [← Option.some.inj e]
      exact ob
    · rcases h with h | h
      · exact I.tab.ls a o h (by rw [erase_ne c]; exact e)
      · exact absurd h c, fun P hP => erase_same.tb (I.tab.has P hP)⟩
theorem lc_turn {m : Addr → Prop} {D : Addr} {σ : L2.St} {δ0 δ' : Sto} {H0 : Hp} {Inv N : List PyData → Sto → Prop} {acc : List PyData} {x : V} {d : PyData} {Pn : Hp → Prop} (tg : TgC K g vs ok f) (nD : ¬ m D) (S : LcS K m D vs σ δ0 H0 Inv H δ' acc) (hd : Dd K (hide (hid m δ') (erase D H)) x d) (hok : ok d)
    (ht : Turn3 K tt te vs f d δ' acc N) (hP : ∀ H' δ'' acc', LcS K m D vs σ δ0 H0 N H' δ'' acc' → Pn H') :
    g x (wipe σ vs) H fun σ2 H2 => wipe σ2 vs = wipe σ vs ∧ tt σ2 H2 fun b H3 => if b = true then te σ2 H3 fun y H4 => ∃ acc, H4 D = some (.lst acc) ∧ acc.length < sizeLine ∧ Pn (upd H4 D (.lst (acc ++ [y]))) else Pn H3 := by
  have ww : wipe (wipe σ vs) vs = wipe σ vs := by
    have : ∀ ws : List Nat, (∀ i ∈ ws, i ∈ vs) → wipe (wipe σ ws) vs = wipe σ vs := by
      intro ws
      induction ws with
      | nil => intro _; rfl
      | cons u us ih =>
        intro h
        show wipe ((wipe σ us).set u none) vs = _
        rw [wipe_in _ u none vs (h u List.mem_cons_self)]
        exact ih fun i hi => h i (List.mem_cons_of_mem _ hi)
    exact this vs fun _ z => z
  refine tg.1 (fun a => m a ∨ a = D) H (wipe σ vs) δ' x d S.env (by rw [hid_D]; exact hd) hok _ fun σ2 e2 g2 J2 => ⟨e2.trans ww, ?_⟩
  obtain ⟨st2, nm2⟩ := tg.2 δ' d S.noml hok
  obtain ⟨xs, hxs, rxs⟩ := S.lst
  have fin : ∀ {H' : Hp} {δ'' : Sto} {ys : List V} {acc' : List PyData}, Same (hide (hid m δ') (erase D H)) (hide (hid m δ'') (erase D H')) → (∀ a, m a → H' a = H a) → Env3 K (fun a => m a ∨ a = D) H' σ2 δ'' → Stay (f δ' d) δ'' → H' D = some (.lst ys) → Da K (hide (hid m δ'') (erase D H')) ys acc' → N acc' (wipeD δ'' vs) → Pn H' := fun {H' δ'' ys acc'} sm kp J st hy ry q => by
    have hh : Same (hide (hid m δ'') (erase D H')) (hide (hid m (wipeD δ'' vs)) (erase D H')) := .of fun a o z => by
      obtain ⟨c, z⟩ := hide_in z
      refine hide_some (fun y => c ?_) z
      rcases y with y | ⟨i, es, y⟩
      · exact .inl y
      · exact .inr ⟨i, es, (wipeD_some y (fun y => nomatch y)).1⟩
    refine hP H' (wipeD δ'' vs) acc' ⟨S.same.trans (sm.trans hh), fun a ha => (kp a ha).trans (S.keep a ha), ?_, ⟨ys, hy, ry.mono hh⟩, ?_, fun i hi p ds z => (wipeD_some z (fun y => nomatch y)).2 hi, q⟩
    · have J3 := J.wiped vs
      rw [e2, ww] at J3
      exact J3
    · intro i p ds z
      obtain ⟨es, z1⟩ := S.stay i p ds z
      have ni : i ∉ vs := fun y => S.noml i y p es z1
      obtain ⟨es2, z2⟩ := (st2.trans st) i p es z1
      exact ⟨es2, by rw [wipeD_out ni]; exact z2⟩
  refine ht (fun a => m a ∨ a = D) H σ2 J2 _ (fun b H3 δ3 g3 s3 J3 ⟨q1, q2⟩ => ?_) (fun C H' δ' g J e => e.elim)
  have sm3 : Same (hide (hid m δ') (erase D H)) (hide (hid m δ3) (erase D H3)) := by
    have z := g2.same.trans g3.same
    rw [hid_D, hid_D] at z
    exact z
  have kp3 : ∀ a, m a → H3 a = H a := fun a ha => (g3.keep a (.inl ha)).trans (g2.keep a (.inl ha))
  have hD3 : H3 D = some (.lst xs) := by rw [g3.keep D (.inr rfl), g2.keep D (.inr rfl)]; exact hxs
  cases b with
  | false => exact iteF (fin sm3 kp3 J3 s3 hD3 (rxs.mono sm3) (q2 rfl))
  | true =>
    refine iteT (q1 rfl (fun a => m a ∨ a = D) H3 σ2 J3 _ (fun y w H4 δ4 g4 s4 J4 o4 ⟨e, ew, hl, qn⟩ => ?_) (fun C H' δ' g J e => e.elim))
    subst ew
    have hD4 : H4 D = some (.lst xs) := by rw [g4.keep D (.inr rfl)]; exact hD3
    have sm4 : Same (hide (hid m δ') (erase D H)) (hide (hid m δ4) (erase D H4)) := by
      have z := g4.same
      rw [hid_D, hid_D] at z
      exact sm3.trans z
    have ee : erase D (upd H4 D (.lst (xs ++ [y]))) = erase D H4 := by
      funext a
      by_cases c : a = D
      · rw [c, erase_at, erase_at]
      · rw [erase_ne c, erase_ne c, upd_ne c]
    have dy : Dd K (hide (hid m δ4) (erase D H4)) y e := by
      have z : Dd K _ y e := o4
      rw [hid_D] at z
      exact z
    have rx := rxs.mono sm4
    refine ⟨xs, hD4, by rw [rx.length]; exact Nat.lt_of_lt_of_le hl (by decide), ?_⟩
    refine fin (ys := xs ++ [y]) (acc' := acc ++ [e]) (δ'' := δ4) (by rw [ee]; exact sm4) (fun a ha => ?_) ?_ (s3.trans s4) upd_same (by rw [ee]; exact rx.append (.cons dy .nil)) qn
    · have ne : a ≠ D := fun z => nD (z ▸ ha)
      rw [upd_ne ne, g4.keep a (.inl ha)]
      exact kp3 a ha
    · have J5 := J4.unD nD
      rw [← ee] at J5
      exact J5.onD ⟨_, upd_same, ob_lst⟩
theorem lc_start {m : Addr → Prop} {D : Addr} {σ : L2.St} {Inv : List PyData → Sto → Prop} (I : Env3 K m H σ δ) (hD : H D = none) (nv : ∀ i ∈ vs, ∀ p ds, δ[i]? ≠ some (.ow p ds)) (i0 : Inv [] (wipeD δ vs)) : LcS K m D vs σ δ H Inv (upd H D (.lst [])) (wipeD δ vs) [] := by
  have nD : ¬ m D := fun z => I.got D z hD
  have ee : erase D (upd H D (.lst [])) = H := erase_upd hD
  have hh : Same (hide (hid m δ) H) (hide (hid m (wipeD δ vs)) H) := .of fun a o z => by
    obtain ⟨c, z⟩ := hide_in z
    refine hide_some (fun y => c ?_) z
    rcases y with y | ⟨i, es, y⟩
    · exact .inl y
    · exact .inr ⟨i, es, (wipeD_some y (fun y => nomatch y)).1⟩
  refine ⟨by rw [ee]; exact hh, fun a ha => upd_ne fun z => nD (z ▸ ha), ?_, ⟨[], upd_same, .nil⟩, fun i p ds z => ⟨ds, by rw [wipeD_out fun y => nv i y p ds z]; exact z⟩, fun i hi p ds z => (wipeD_some z (fun y => nomatch y)).2 hi, i0⟩
  have J : Env3 K m (erase D (upd H D (.lst []))) (wipe σ vs) (wipeD δ vs) := by
    rw [ee]
    exact I.wiped vs
  exact J.onD ⟨_, upd_same, ob_lst⟩
/-- no slot of vs holds a list of one's own -/
def NoMl (δ : Sto) (vs : List Nat) : Prop := ∀ i ∈ vs, ∀ p ds, δ[i]? ≠ some (.ow p ds)
theorem lc_end {m : Addr → Prop} {D : Addr} {σ : L2.St} {δ1 δ' : Sto} {H0 H1 H' : Hp} {acc : List PyData} {Inv p : List PyData → Sto → Prop} {Q : VK} (nD : ¬ m D) (g1 : Gw m δ H0 δ1 H1) (s1 : Stay δ δ1) (S : LcS K m D vs σ δ1 H1 Inv H' δ' acc) (q : p acc δ')
    (k : ∀ p' xs ds H' δ', Gw m δ H0 δ' (erase p' H') → Stay δ δ' → Env3 K m (erase p' H') σ δ' → H' p' = some (.lst xs) → Da K (hide (hid m δ') (erase p' H')) xs ds → p ds δ' → Q (.ref p') H') : Q (.ref D) H' := by
  obtain ⟨xs, hx, r⟩ := S.lst
  refine k D xs acc H' δ' ⟨g1.same.trans S.same, fun a ha => ?_⟩ (s1.trans S.stay) (wipe_back (S.env.unD nD)) hx r q
  have ne : a ≠ D := fun z => nD (z ▸ ha)
  rw [erase_ne ne, S.keep a ha]
  exact g1.keep a ha
theorem fx_lcL {p : List PyData → Sto → Prop} (tg : TgC K g vs ok f) (Inv : List PyData → Nat → List PyData → Sto → Prop)
    (h : EX K W tl δ (fun w δ1 => ∃ ds, w = .d (.list ds) ∧ NoMl δ1 vs ∧ Inv ds 0 [] (wipeD δ1 vs) ∧ LcI K tt te vs ok f ds (Inv ds) ∧ ∀ acc δ', Inv ds ds.length acc δ' → p acc δ') ex) : FX K W (tLc (iList K tl) g tt te vs) δ p ex :=
  fun m H σ I Q k k2 => h m H σ I _ (fun v w H1 δ1 g1 s1 I1 o1 ⟨ds, e, nv, i0, turn, fin⟩ => by
    subst e
    obtain ⟨a, xs, rfl, hs, r⟩ := dd_lst o1
    refine ⟨a, rfl, ⟨xs, Same.seq hide_same hs⟩, fun D hD => ?_⟩
    have nD : ¬ m D := fun z => I1.got D z hD
    refine lc_list (K := K) (a := a) (xs := xs) (fun k H' => ∃ δ' acc, LcS K m D vs σ δ1 H1 (Inv ds k) H' δ' acc) ⟨_, _, lc_start I1 hD nv i0⟩ (fun k H' _ ⟨δ', acc, S⟩ => Same.seq (hide_same.trans erase_same) (Same.seq S.same hs)) ?_ ?_
    · rintro k x H' hx ⟨δ', acc, S⟩
      obtain ⟨d, hd, dd⟩ := r.get' hx
      obtain ⟨hok, hb⟩ := turn k d acc δ' hd S.inv
      exact lc_turn tg nD S (dd.mono S.same) hok hb fun H2 δ2 acc2 S2 => ⟨δ2, acc2, S2⟩
    · rintro H' ⟨δ', acc, S⟩
      have iv := S.inv
      rw [r.length] at iv
      exact lc_end nD g1 s1 S (fin acc δ' iv) k) k2
theorem fx_lcT {p : List PyData → Sto → Prop} (tg : TgC K g vs ok f) (Inv : List PyData → Nat → List PyData → Sto → Prop)
    (h : EX K W tl δ (fun w δ1 => ∃ ds, w = .d (.tuple ds) ∧ NoMl δ1 vs ∧ Inv ds 0 [] (wipeD δ1 vs) ∧ LcI K tt te vs ok f ds (Inv ds) ∧ ∀ acc δ', Inv ds ds.length acc δ' → p acc δ') ex) : FX K W (tLc (iTup K tl) g tt te vs) δ p ex :=
  fun m H σ I Q k k2 => h m H σ I _ (fun v w H1 δ1 g1 s1 I1 o1 ⟨ds, e, nv, i0, turn, fin⟩ => by
    subst e
    obtain ⟨a, xs, rfl, hs, r⟩ := dd_tup o1
    refine ⟨a, rfl, ⟨xs, Same.tup hide_same hs⟩, fun D hD => ?_⟩
    have nD : ¬ m D := fun z => I1.got D z hD
    refine lc_tup (K := K) (a := a) (xs := xs) (fun k H' => ∃ δ' acc, LcS K m D vs σ δ1 H1 (Inv ds k) H' δ' acc) ⟨_, _, lc_start I1 hD nv i0⟩ (fun k H' _ ⟨δ', acc, S⟩ => Same.tup (hide_same.trans erase_same) (Same.tup S.same hs)) ?_ ?_
    · rintro k x H' hx ⟨δ', acc, S⟩
      obtain ⟨d, hd, dd⟩ := r.get' hx
      obtain ⟨hok, hb⟩ := turn k d acc δ' hd S.inv
      exact lc_turn tg nD S (dd.mono S.same) hok hb fun H2 δ2 acc2 S2 => ⟨δ2, acc2, S2⟩
    · rintro H' ⟨δ', acc, S⟩
      have iv := S.inv
      rw [r.length] at iv
      exact lc_end nD g1 s1 S (fin acc δ' iv) k) k2
theorem fx_lcR1 {ta : TA} {p : List PyData → Sto → Prop} (tg : TgC K g vs ok f) (Inv : Nat → List PyData → Sto → Prop)
    (h : AX K W ta δ (fun ws δ1 => ∃ n : Int, ws = [.d (.int n)] ∧ (-1000000 ≤ n ∧ n ≤ 1000000000) ∧ NoMl δ1 vs ∧ Inv 0 [] (wipeD δ1 vs) ∧ LcI K tt te vs ok f (rangeD 0 n.toNat) Inv ∧ ∀ acc δ', Inv n.toNat acc δ' → p acc δ') ex) : FX K W (tLc (iRng1 ta) g tt te vs) δ p ex :=
  fun m H σ I Q k k2 => h m H σ I _ (fun v w H1 δ1 g1 s1 I1 o1 ⟨n, e, hb, nv, i0, turn, fin⟩ => by
    subst e
    obtain ⟨v, rfl, hv⟩ := vw1 o1
    cases dd_int hv
    refine ⟨n, rfl, by omega, by omega, fun D hD => ?_⟩
    have nD : ¬ m D := fun z => I1.got D z hD
    refine lc_range (lo := 0) (n := n.toNat) (fun k H' => ∃ δ' acc, LcS K m D vs σ δ1 H1 (Inv k) H' δ' acc) ⟨_, _, lc_start I1 hD nv i0⟩ ?_ ?_
    · rintro k H' hk ⟨δ', acc, S⟩
      obtain ⟨hok, hb⟩ := turn k _ acc δ' (rangeD_get hk) S.inv
      exact lc_turn tg nD S (.int _) hok hb fun H2 δ2 acc2 S2 => ⟨δ2, acc2, S2⟩
    · rintro H' ⟨δ', acc, S⟩
      exact lc_end nD g1 s1 S (fin acc δ' S.inv) k) k2
end
/-- tests of a comprehension without any -/
theorem tx_yes {K : PySem.W.Frag} {W : WX} {δ : Sto} {p : Bool → Sto → Prop} {ex : XP} (q : p true δ) : TX K W tYes δ p ex := fun m H σ I Q k _ => k true H δ .refl (.refl δ) I q
end M3
namespace M3
open PySem PySem.Spec PyProof.Rows L2
variable [NmC]

/-! ### a def whose first argument is a list that it changes -/
def st0M (n : Nat) (p : Addr) (es ds : List PyData) : Sto := .ml p es :: st0 (n - 1) ds
section
variable {P : Program} {w : World} {K : PySem.W.Frag} {mg : Str → Option Value} {base : Heap} {k : Nat} {f : Addr} {fd : FuncData} {ps N : List Str}
theorem st0_noml {n i : Nat} {ds : List PyData} {es : Cn} {p : Addr} : (st0 n ds)[i]? ≠ some (.ow p es) := fun z => by
  unfold st0 at z
  rw [List.getElem?_append] at z
  split at z
  · rw [List.getElem?_map] at z
    cases q : ds[i]? with
    | none => rw [q] at z; cases z
    | some d => rw [q] at z; cases z
  · rw [List.getElem?_replicate] at z
    split at z <;> cases z
theorem own_M {n : Nat} {p a : Addr} {es ds : List PyData} : own (st0M n p es ds) a ↔ a = p := by
  constructor
  · rintro ⟨i, fs, h⟩
    cases i with
    | zero =>
      have h : some (Sl.ml p es) = some (.ow a fs) := h
      cases h
      rfl
    | succ i => exact absurd (show (st0 (n - 1) ds)[i]? = some (.ow a fs) from h) st0_noml
  · rintro rfl
    exact ⟨0, .l es, rfl⟩
theorem hide_M {m : Addr → Prop} {n : Nat} {p : Addr} {es ds : List PyData} {H : Hp} : hide (hid m (st0M n p es ds)) H = hide m (erase p H) := by
  funext a
  by_cases c : a = p
  · have h1 : hid m (st0M n p es ds) a := .inr (own_M.mpr c)
    unfold hide
    rw [if_pos h1, c, erase_at]
    simp
  · by_cases c2 : m a
    · have h1 : hid m (st0M n p es ds) a := .inl c2
      unfold hide
      rw [if_pos h1, if_pos c2]
    · have h1 : ¬ hid m (st0M n p es ds) a := fun z => z.elim c2 fun z => c (own_M.mp z)
      rw [hide_of h1, hide_of c2, erase_ne c]
theorem stM_env {H : Hp} {m : Addr → Prop} {n : Nat} {p : Addr} {vr xs : List V} {es ds : List PyData} (got : ∀ a, m a → H a ≠ none) (tbi : TabI K m H) (np : ¬ m p) (hp : H p = some (.lst xs)) (r1 : Da K (hide m (erase p H)) xs es) (r2 : Da K (hide m (erase p H)) vr ds) :
    Env3 K m H ((V.ref p :: vr).map some ++ List.replicate (n - (V.ref p :: vr).length) none) (st0M n p es ds) := by
  have gotE : ∀ a, m a → erase p H a ≠ none := fun a ha => by
    have ne : a ≠ p := fun z => np (z ▸ ha)
    rw [erase_ne ne]
    exact got a ha
  have tbE : TabI K m (erase p H) := ⟨fun a o ha e => by
      have ne : a ≠ p := fun z => np (z ▸ ha)
      rw [erase_ne ne] at e
      exact tbi.ls a o ha e, fun P hP => (tbi.has P hP).erase hp⟩
  have I1 : Env3 K m (erase p H) (vr.map some ++ List.replicate (n - 1 - vr.length) none) (st0 (n - 1) ds) := st0_env r2 gotE tbE
  have e1 : (V.ref p :: vr).map some ++ List.replicate (n - (V.ref p :: vr).length) (none : Option V) = some (V.ref p) :: (vr.map some ++ List.replicate (n - 1 - vr.length) none) := by
    have : n - (V.ref p :: vr).length = n - 1 - vr.length := by
      rw [List.length_cons]
      omega
    rw [this]
    rfl
  rw [e1]
  have hm : Same (hide (hid m (st0 (n - 1) ds)) (erase p H)) (hide (hid m (st0M n p es ds)) H) := by
    rw [hide_M]
    exact sub_hide
  refine ⟨?_, fun i d h => ?_, fun i q fs h => ?_, fun i j q fs gs hi hj => ?_, got, tbi⟩
  · show _ + 1 = _ + 1
    rw [I1.len]
  · cases i with
    | zero => exact absurd h (fun z => by cases (show some (Sl.ml p es) = some (.dat d) from z))
    | succ i =>
      obtain ⟨v, h1, h2⟩ := I1.dat i d h
      exact ⟨v, h1, h2.mono hm⟩
  · cases i with
    | zero =>
      cases (show some (Sl.ml p es) = some (.ow q fs) from h)
      exact ⟨rfl, np, _, hp, .l (by rw [hide_M]; exact r1)⟩
    | succ i => exact absurd (show (st0 (n - 1) ds)[i]? = some (.ow q fs) from h) st0_noml
  · cases i with
    | zero =>
      cases j with
      | zero => rfl
      | succ j => exact absurd (show (st0 (n - 1) ds)[j]? = some (.ow q gs) from hj) st0_noml
    | succ i => exact absurd (show (st0 (n - 1) ds)[i]? = some (.ow q fs) from hi) st0_noml
theorem fn_mut {x qual : Str} {st : Stmt} {n : Nat} {α : Type} {enc : α → List PyData} {pre : List PyData → α → Prop} {post : List PyData → α → PyData → List PyData → Prop} (F : Fd K x qual st f fd) (S : FnScope N ps (defScope st)) (hn : ps.length = n + 1)
    (body : ∀ (cdv : Value) (A : Around) (outer : List Env) (s : Shared) (H : Hp) (E : XK), A.guards = some [] → Room k (A.deeper (envOfC qual (defScope st) s.heap.objs.size f cdv)) →
      ∃ t, PSs (bodyX P w K mg base N qual st f cdv A outer s H E) (defBody st) t ∧ ∀ p es a, pre es a → SX K (W0 E) t (st0M N.length p es (enc a))
        (RM p (post es a))) :
    FnG P w K mg base (k + 1) f fd ps (spM K n enc pre post) := by
  refine fn_body F S (fun vs H Q E ⟨m, p, vr, xs, es, a, e, _, _, _, _, _, r, hl, _⟩ => by rw [e, List.length_cons, r.length, hl, hn]) fun cdv A outer s H vs Q E hgd hr h => ?_
  obtain ⟨m, p, vr, xs, es, a, rfl, got, tbi, np, hp, r1, r2, hl, hpre, q⟩ := h
  obtain ⟨t, ht, hb⟩ := body cdv A outer s H E hgd hr
  have I0 : Env3 K m H (start N (V.ref p :: vr)) (st0M N.length p es (enc a)) := stM_env got tbi np hp r1 r2
  have fin : ∀ {v : V} {d : PyData} {fs : List PyData} {σ' : L2.St} {H' : Hp} {δ' : Sto}, Gw m (st0M N.length p es (enc a)) H δ' H' → Env3 K m H' σ' δ' → Dd K (hide (hid m δ') H') v d → δ'[0]? = some (.ml p fs) → post es a d fs → Q v H' := fun {v d fs σ' H' δ'} g J o h0 pp => by
    obtain ⟨_, _, ys, hy, ry⟩ := J.ml 0 p fs h0
    have sub : Same (hide (hid m δ') H') (hide m (erase p H')) := .of fun b o z => by
      obtain ⟨c, z⟩ := hide_in z
      have ne : b ≠ p := fun y => c (.inr ⟨0, _, by rw [y]; exact h0⟩)
      exact hide_some (fun y => c (.inl y)) (by rw [erase_ne ne]; exact z)
    refine q v d ys fs H' ?_ g.keep hy (ry.mono sub) (o.mono sub) pp
    have gs := g.same
    rw [hide_M] at gs
    exact gs.trans sub
  exact ⟨t, ht, hb p es a hpre m H _ I0 _ (fun σ' H' δ' g J ⟨fs, h0, pp⟩ => fin g J .non h0 pp) (fun v w σ' H' δ' g J o ⟨d, fs, e, h0, pp⟩ => by
    subst e
    exact fin g J o h0 pp) (fun _ _ _ _ _ z => z.elim) (fun _ _ _ _ _ z => z.elim) (fun _ _ _ _ _ _ z => z.elim)⟩
end

/-! ### the end of a law over such promises -/
theorem cx_none {P : Program} {w : World} {H : Hp} {s s' : Shared} {e : Value} (h : L2.CX P w [] H s (fun _ _ _ => False) e s') : False := by
  obtain ⟨_, _, _, _, _, _, _, _, _, _, _, _, z⟩ := h
  exact z
/-- what law(script) promises -/
def spScript (K : PySem.W.Frag) : Sp := spD K 1 (fun ns : List Int => [.list (ns.map .int)]) (fun ns => ns.length ≤ 63) (fun _ d => d = .bool true) (fun _ _ => False)
theorem script_sp {K : PySem.W.Frag} {H : Hp} {a : Addr} {ns : List Int} (hl : ns.length ≤ 63) (h : SqL K H a (ns.map V.int)) (ht : ∀ P, TK K P → Tb H P) : spScript K [.ref a] H (fun v _ => v = .bl true) fun _ _ _ => False := by
  refine ⟨fun _ => False, ns, fun _ z => z.elim, ⟨fun _ _ z => z.elim, ht⟩, .cons (.lst (Same.seq (.of fun b o z => ?_) h) (Da.of_ints ns)) .nil, rfl, hl, fun v d H' _ o e => ?_, fun _ _ _ z => z⟩
  · exact hide_some (fun y => y) z
  · subst e
    exact dd_bool o
/-- a code object c of the base and its table P -/
structure TabX (base : Heap) (mg : Str → Option Value) (c P : Addr) : Prop where
  hd : PySem.W.CodeHd base c P
  bm : base.BuiltinsAt mg P
  ne : mainGlobals ≠ P
def emptyT : Obj := { cls := .none, data := .fields #[] }
/-- the script's own object and the tables -/
noncomputable def lawH (a : Addr) (u : Option HO) (cs : List (Addr × Addr)) : Hp := open Classical in fun b => if b = a then u else if b ∈ cs.map (·.2) then some (.tbl #[]) else none
theorem run_law {P : Program} {w : World} {K : PySem.W.Frag} {mg mb : Str → Option Value} {k : Nat} {fa a : Addr} {fd : FuncData} {x : Str} {s₁ : Shared} {vs : List Value} {ns : List Int} {cs : List (Addr × Addr)}
    (KX : K.In s₁.heap) (hns : s₁.heap.Ns mainGlobals mg) (hb : s₁.heap.Ns builtinsNs mb) (hbb : ∀ x : Str, x ≠ "__name__" → mb x = bootBuiltins x) (hlim : s₁.heap.NoLimit) (hg : s₁.gens = #[])
    (tE : ∀ p ∈ cs, s₁.heap.get? p.2 = some emptyT) (tN : ∀ p ∈ cs, K.lookup p.2 = none) (tC : ∀ p ∈ cs, PySem.W.CodeHd s₁.heap p.1 p.2) (tK : ∀ Q, TK K Q → Q ∈ cs.map (·.2))
    (bmn : ∃ (bm : Addr) (ob : Obj), mg "__builtins__" = some (.ref bm) ∧ bm ≠ builtinsNs ∧ s₁.heap.get? bm = some ob ∧ ob.cls = .type "module" ∧ ob.dict = some builtinsNs ∧ ob.data = .plain)
    (ha : s₁.heap.get? a = some { cls := .type "list", data := .seq vs.toArray }) (hi : IntsAre vs ns) (hl : ns.length ≤ 63) (hr : Room k callerA)
    (F : ∀ base : Heap, K.In base → base.Ns mainGlobals mg → (∀ p ∈ cs, TabX base mg p.1 p.2) → FnG P w K mg base k fa fd [x] (spScript K)) (hbind : ∀ (s : Shared) (u : Value), BindsTo s fd ⟨[u], []⟩ [(x, u)]) :
    codeAny (model P w) callerA (.call (.ref fa) ⟨[.ref a], []⟩) (fun r s' => r = .ok (.ret (.bool true)) ∧ OldK s₁.heap s'.heap ∧ s'.os = s₁.os ∧ AllBare s'.gens) s₁ := by
  have rv := vals_ints hi
  have hl2 : ns.length ≤ sizeLine := Nat.le_trans hl (by decide)
  have tAt : ∀ b, b ∈ cs.map (·.2) → s₁.heap.get? b = some emptyT := fun b hb => by
    obtain ⟨p, hp, rfl⟩ := List.mem_map.mp hb
    exact tE p hp
  have aT : a ∉ cs.map (·.2) := fun z => by
    have q := ha.symm.trans (tAt a z)
    cases (show Data.seq vs.toArray _ = Data.fields #[] from congrArg Obj.data (Option.some.inj q))
  have from_u : ∀ u : Option HO, (u = none ∨ ∃ ob xs, u = some (.frz ob (.lst xs))) → SqL K (lawH a u cs) a (ns.map V.int) → HOk P w (lawH a u cs) s₁.heap → (u ≠ none → K.lookup a = none) →
      codeAny (model P w) callerA (.call (.ref fa) ⟨[.ref a], []⟩) (fun r s' => r = .ok (.ret (.bool true)) ∧ OldK s₁.heap s'.heap ∧ s'.os = s₁.os ∧ AllBare s'.gens) s₁ := by
    intro u hu hS hok hK
    have atT : ∀ b, b ∈ cs.map (·.2) → lawH a u cs b = some (.tbl #[]) := fun b hb => by
      have ne : b ≠ a := fun z => aT (z ▸ hb)
      exact (if_neg ne).trans (if_pos hb)
    have off : ∀ b, b ≠ a → b ∉ cs.map (·.2) → lawH a u cs b = none := fun b h1 h2 => (if_neg h1).trans (if_neg h2)
    have free : ∀ {b : Addr} {o : Obj}, s₁.heap.get? b = some o → (∀ us n, o.data ≠ .seq us n) → o ≠ emptyT → lawH a u cs b = none := fun {b o} e h1 h2 => by
      refine off b (fun z => ?_) fun z => ?_
      · subst z
        rw [ha] at e
        cases e
        exact h1 _ _ rfl
      · rw [tAt b z] at e
        exact h2 (Option.some.inj e).symm
    have nsK : ∀ {b : Addr} {m : Str → Option Value}, s₁.heap.Ns b m → (hidT s₁.heap (lawH a u cs)).Ns b m := fun {b m} ⟨o, es, ep, e, d, r⟩ =>
      ⟨o, es, ep, hidT_get e (free e (fun us n z => by rw [d] at z; cases z) fun z => by rw [z] at d; cases d), d, r⟩
    have hKb : K.In (hidT s₁.heap (lawH a u cs)) := fun b o e => hidT_get (KX b o e) (by
      by_cases c : b = a
      · subst c
        by_cases q : u = none
        · exact (if_pos rfl).trans q
        · rw [hK q] at e
          cases e
      · refine off b c fun z => ?_
        obtain ⟨p, hp, rfl⟩ := List.mem_map.mp z
        rw [tN p hp] at e
        cases e)
    have md : Mod K mg (hidT s₁.heap (lawH a u cs)) := ⟨hKb, nsK hns, ⟨mb, nsK hb, hbb⟩, by
      obtain ⟨mc, h1, h2⟩ := hlim
      exact ⟨mc, nsK h1, h2⟩⟩
    have tX : ∀ p ∈ cs, TabX (hidT s₁.heap (lawH a u cs)) mg p.1 p.2 := fun p hp => by
      have hTp := tE p hp
      obtain ⟨og, esg, epg, eg, dg, _⟩ := id hns
      refine ⟨?_, ?_, fun z => ?_⟩
      · obtain ⟨o, us, file, tf, flags, tg, inF, text, tt, e1, r1, r2, r3, rest⟩ := tC p hp
        refine ⟨o, us, file, tf, flags, tg, inF, text, tt, hidT_get e1 (free e1 (fun vs n z => ?_) fun z => ?_), r1, r2, r3, rest⟩
        · rw [r2] at z; cases z
        · rw [z] at r2
          cases (show Data.fields #[] = Data.fields us from r2)
          simp at r3
      · obtain ⟨bm, ob, b1, b2, b3, b4, b5, b6⟩ := bmn
        have nG : bm ≠ mainGlobals := fun q => by
          rw [q] at b3
          cases eg.symm.trans b3
          rw [dg] at b6
          cases b6
        have nP : bm ≠ p.2 := fun q => by
          rw [q] at b3
          cases hTp.symm.trans b3
          cases b6
        exact ⟨bm, ob, b1, b2, nG, nP, hidT_get b3 (free b3 (fun vs n z => by rw [b6] at z; cases z) fun z => by rw [z] at b6; cases b6), b4, b5, b6⟩
      · rw [z] at eg
        cases hTp.symm.trans eg
        cases dg
    have e0 : Env0 P w K mg (hidT s₁.heap (lawH a u cs)) callerA [] s₁ (lawH a u cs) := ⟨rfl, md, fun b o e => of_hidT e, Nat.le_of_eq (hidT_size _ _), trivial, fun b hb => absurd (show b ∈ ([] : List Addr) from hb) (by simp), hok, .of_eq hg⟩
    refine codeAny_mono ((F _ hKb (nsK hns) tX).run callerA [] s₁ (lawH a u cs) ⟨[.ref a], []⟩ [.ref a] [.ref a] _ _ rfl hr e0 (hbind s₁ (.ref a)) (.cons rfl .nil) (script_sp hl hS fun Q hQ => ⟨#[], atT Q (tK Q hQ), trivial, fun _ _ pos cv z => by simp [codeAmong] at z⟩)) ?_
    rintro (er | fl) s' h
    · exact (cx_none h).elim
    · cases fl with
      | next => exact h.elim
      | brk => exact h.elim
      | cont => exact h.elim
      | ret u' =>
        obtain ⟨v, H', os, bare, un, hok', r', q⟩ := h
        cases (show v = V.bl true from q)
        cases (show u' = Value.bool true from r')
        have kept : ∀ b o, b ∉ cs.map (·.2) → s₁.heap.get? b = some o → s'.heap.get? b = some o := fun b o nb e => by
          by_cases c : lawH a u cs b = none
          · exact un.keep b o e c (by intro y; exact absurd (show b ∈ ([] : List Addr) from y) (by simp)) (by simp)
          · have ca : b = a := by
              by_cases y : b = a
              · exact y
              · exact absurd (off b y nb) c
            have z : lawH a u cs b = u := if_pos ca
            rcases hu with hu | ⟨ob, xs, hu⟩
            · exact absurd (z.trans hu) c
            · have e1 := (hok b _ (z.trans hu)).1
              have e2 := (hok' b _ (un.frzs b _ _ (z.trans hu))).1
              rw [e] at e1
              cases e1
              exact e2
        have grow : ∀ p ∈ cs, ∃ more : Array Value, s'.heap.get? p.2 = some { cls := .none, data := .fields more } := fun p hp => by
          obtain ⟨more, z⟩ := un.tbls p.2 #[] (atT _ (List.mem_map.mpr ⟨p, hp, rfl⟩))
          exact ⟨_, hok' p.2 _ z⟩
        refine ⟨rfl, ⟨fun b o e => ?_, fun b o e => ?_⟩, os, bare⟩
        · by_cases c : b ∈ cs.map (·.2)
          · obtain ⟨p, hp, rfl⟩ := List.mem_map.mp c
            obtain ⟨more, hm⟩ := grow p hp
            cases (tE p hp).symm.trans e
            exact .inr (.inl ⟨((tC p hp).tab (tE p hp)).isCodeTable, rfl, #[], more, rfl, by rw [Array.empty_append]; exact hm⟩)
          · exact .inl (kept b o c e)
        · by_cases c : b ∈ cs.map (·.2)
          · obtain ⟨p, hp, rfl⟩ := List.mem_map.mp c
            obtain ⟨more, hm⟩ := grow p hp
            exact ⟨_, hm⟩
          · exact ⟨o, kept b o c e⟩
  have okT : ∀ u : Option HO, (∀ x, u = some x → ObjOk P w (lawH a u cs) s₁.heap a x) → HOk P w (lawH a u cs) s₁.heap := fun u h b x z => by
    by_cases c : b = a
    · subst c
      exact h x ((if_pos rfl).symm.trans z)
    · have z1 := (if_neg c).symm.trans z
      by_cases c2 : b ∈ cs.map (·.2)
      · cases (if_pos c2).symm.trans z1
        exact tAt b c2
      · cases (if_neg c2).symm.trans z1
  cases hk : K.lookup a with
  | some o =>
    have e := KX a o hk
    rw [ha] at e
    cases e
    exact from_u none (.inl rfl) (.inr ⟨_, vs.toArray, _, hk, rfl, rfl, rfl, by rw [List.size_toArray, hi.length]; exact hl2, by simpa using rv⟩) (okT none fun x z => nomatch z) fun z => absurd rfl z
  | none =>
    refine from_u (some (.frz { cls := .type "list", data := .seq vs.toArray } (.lst (ns.map V.int)))) (.inr ⟨_, _, rfl⟩) (.inl (.inr ⟨{ cls := .type "list", data := .seq vs.toArray }, if_pos rfl⟩)) (okT _ fun x z => ?_) fun _ => hk
    cases z
    exact ⟨ha, by rw [List.length_map]; exact hl2, vs, _, rv, ha⟩
theorem walk_law {l : PySem.W.OpenLaw} {k : Nat} {q : Program} {loose : List Str} {XP : (Str → Option Value) → Heap → Prop} {YP : World → Heap → Prop} {d : DefRec} {K : Params → PySem.W.Frag} {x : Str}
    (hn : l.most = some 63) (hdf : d.params.defaults = []) (hr : Room k callerA) (hY : ∀ (w : World) (h : Heap), YP w h → (K w.params).In h)
    (F : ∀ (w : World) (mg : Str → Option Value) (fa : Addr) (h : Heap), YP w h → (K w.params).In h → h.Ns mainGlobals mg → mg d.name = some (.ref fa) →
      ∃ (fd : FuncData) (cs : List (Addr × Addr)), (∀ p ∈ cs, h.get? p.2 = some emptyT) ∧ (∀ p ∈ cs, (K w.params).lookup p.2 = none) ∧ (∀ p ∈ cs, PySem.W.CodeHd h p.1 p.2) ∧ (∀ Q, TK (K w.params) Q → Q ∈ cs.map (·.2)) ∧
        (∀ (s : Shared) (u : Value), BindsTo s fd ⟨[u], []⟩ [(x, u)]) ∧ ∀ base : Heap, (K w.params).In base → base.Ns mainGlobals mg → (∀ p ∈ cs, TabX base mg p.1 p.2) → FnG l.prog w (K w.params) mg base k fa fd [x] (spScript (K w.params))) :
    PySem.W.WalkO q loose XP YP l.row.toRowW d [] (fun f vs => PySem.call f vs) :=
  Att.attach_call hn hdf fun w s₀ s₁ mg mb fa o pm cd doc a vs ns G Y _ _ _ hmg hobj hints hlen hg => by
    have KX := hY w _ Y
    obtain ⟨fd, cs, t1, t2, t3, t4, hb, hF⟩ := F w mg fa _ Y KX G.T.g hmg
    exact run_law KX G.T.g G.T.b G.T.builtins G.T.nolimit hg t1 t2 t3 t4 G.T.bmain hobj hints hlen hr hF hb
end M3
namespace M3
open PySem PySem.Spec PyProof.Rows L2
variable [NmC]
/-! ### small helpers -/
theorem ex_or1 {K : PySem.W.Frag} {W : WX} {δ : Sto} {ex : XP} {post : Vw → Sto → Prop} {ta : TE} (h : EX K W ta δ (fun w δ' => ∃ n : Int, w = .d (.int n) ∧ post (.d (.int (if n = 0 then 1 else n))) δ') ex) : EX K W (tOrT K ta (tC (.int 1))) δ post ex :=
  ex_orT (b := true) (h.imp (fun w δ' ⟨n, e, q⟩ => ⟨.int n, n != 0, e, rfl, fun c => by
    have c' : n ≠ 0 := by simpa using c
    rw [if_neg c'] at q
    exact q, fun c => by
    have c' : n = 0 := by simpa using c
    rw [if_pos c'] at q
    exact ex_int q⟩) fun _ _ e => e)
theorem sIx_n (n a : Nat) : HT.sIx n 0 (some (a : Int)) = min a n := HT.sIx_nat n 0 a
theorem cut_to (xs : List PyData) (a : Nat) : cutD xs none (some (a : Int)) = xs.take a := by
  unfold cutD
  rw [HT.sIx_none, HT.sIx_nat, List.drop_zero, Nat.sub_zero]
  by_cases h : a ≤ xs.length
  · rw [Nat.min_eq_left h]
  · rw [Nat.min_eq_right (by omega), List.take_of_length_le (Nat.le_refl _), List.take_of_length_le (by omega)]
theorem cut_from (xs : List PyData) (a : Nat) : cutD xs (some (a : Int)) none = xs.drop a := by
  unfold cutD
  rw [HT.sIx_none, HT.sIx_nat]
  by_cases h : a ≤ xs.length
  · rw [Nat.min_eq_left h, List.take_of_length_le (by rw [List.length_drop]; exact Nat.le_refl _)]
  · rw [Nat.min_eq_right (by omega), List.drop_of_length_le (Nat.le_refl _), List.drop_of_length_le (by omega), List.take_nil]
/-! ### isinstance by kinds -/
def isI : PyData → Bool
  | .int _ => true
  | .bool _ => true
  | _ => false
def isB : PyData → Bool
  | .bool _ => true
  | _ => false
def isT : PyData → Bool
  | .tuple _ => true
  | _ => false
def isS : PyData → Bool
  | .str _ => true
  | _ => false
def isL : PyData → Bool
  | .list _ => true
  | _ => false
theorem kit_int (d : PyData) : kitB (tyN d) "int" = some (isI d) := by cases d <;> (simp only [tyN, isI, isB, isT, isS, isL]; decide +kernel)
theorem kit_bool (d : PyData) : kitB (tyN d) "bool" = some (isB d) := by cases d <;> (simp only [tyN, isI, isB, isT, isS, isL]; decide +kernel)
theorem kit_tuple (d : PyData) : kitB (tyN d) "tuple" = some (isT d) := by cases d <;> (simp only [tyN, isI, isB, isT, isS, isL]; decide +kernel)
theorem kit_str (d : PyData) : kitB (tyN d) "str" = some (isS d) := by cases d <;> (simp only [tyN, isI, isB, isT, isS, isL]; decide +kernel)
theorem kit_list (d : PyData) : kitB (tyN d) "list" = some (isL d) := by cases d <;> (simp only [tyN, isI, isB, isT, isS, isL]; decide +kernel)
/-! ### ratios as data -/
def dR (q : Rat) : PyData := .tuple [.int q.num, .int (q.den : Int)]
/-- below 2 ^ n in size (opaque to omega) -/
structure Bd (n : Nat) (i : Int) : Prop where
  lt : i.natAbs < 2 ^ n
theorem Bd.mono {n k : Nat} {i : Int} (h : Bd n i) (e : n ≤ k) : Bd k i := ⟨Nat.lt_of_lt_of_le h.lt (Nat.pow_le_pow_right (by decide) e)⟩
theorem Bd.neg {n : Nat} {i : Int} (h : Bd n i) : Bd n (-i) := ⟨by rw [Int.natAbs_neg]; exact h.lt⟩
theorem Bd.mul {i j : Int} {a b : Nat} (ha : Bd a i) (hb : Bd b j) : Bd (a + b) (i * j) := ⟨wide_lt ha.lt hb.lt⟩
theorem Bd.add {i j : Int} {a : Nat} (ha : Bd a i) (hb : Bd a j) : Bd (a + 1) (i + j) := ⟨by
  have h := Int.natAbs_add_le i j
  have h1 := ha.lt
  have h2 := hb.lt
  rw [Nat.pow_succ]
  omega⟩
theorem Bd.lit {n : Nat} {i : Int} (h : decide (i.natAbs < 2 ^ n) = true) : Bd n i := ⟨of_decide_eq_true h⟩
/-- both parts below 2 ^ n -/
structure Sz (n : Nat) (q : Rat) : Prop where
  num : Bd n q.num
  den : Bd n (q.den : Int)
theorem Sz.mono {n k : Nat} {q : Rat} (h : Sz n q) (e : n ≤ k) : Sz k q := ⟨h.num.mono e, h.den.mono e⟩
theorem mulW {i j : Int} {a b : Nat} (ha : Bd a i) (hb : Bd b j) (h : a + b ≤ 999998) : CMulW i j :=
  wide_mul (a := a + 1) (b := b + 1) (ha.mono (Nat.le_succ a)).lt (hb.mono (Nat.le_succ b)).lt (Nat.succ_pos _) (Nat.succ_pos _) (by omega)
theorem den_ne (q : Rat) : (q.den : Int) ≠ 0 := by
  have := q.den_pos
  omega
theorem num_divInt_den (q : Rat) : Rat.divInt q.num q.den = q := Rat.num_divInt_den q
theorem neg_iff (p : Rat) : p < 0 ↔ p.num < 0 := by simp [Rat.lt_iff]
theorem pos_iff (p : Rat) : 0 < p ↔ 0 < p.num := by simp [Rat.lt_iff]
theorem shaped_dR (q : Rat) : SeqAt.shaped (dR q) = true := by
  show (PyData.canLay0 (.tuple [.int q.num, .int q.den]) && decide (PyData.depth (.tuple [.int q.num, .int q.den]) ≤ 64)) = true
  simp [PyData.canLay0, PyData.canLayAll0, PyData.depth, PyData.depthAll]
theorem shaped_int (i : Int) : SeqAt.shaped (.int i) = true := by simp [SeqAt.shaped, PyData.canLay0, PyData.depth]
theorem eqv_int (i j : Int) : PyData.eqv (.int i) (.int j) = (i == j) := rfl
theorem eqv_dR (p q : Rat) : PyData.eqv (dR p) (dR q) = decide (p = q) := by
  show PyData.eqv (.tuple [.int p.num, .int p.den]) (.tuple [.int q.num, .int q.den]) = decide (p = q)
  simp only [PyData.eqv, PyData.eqvAll, Bool.and_true]
  by_cases h : p = q
  · subst h
    simp
  · rw [decide_eq_false h]
    apply Bool.eq_false_iff.mpr
    intro z
    simp only [Bool.and_eq_true, beq_iff_eq] at z
    exact h (Rat.ext z.1 (by omega))

/-! ### the ratio of two integers, as the program makes it -/
theorem fdiv_pos (a : Int) {g : Int} (h : 0 ≤ g) : a.fdiv g = a / g := Int.fdiv_eq_ediv_of_nonneg a h
theorem gcd_int (a b : Int) : ((Nat.gcd a.natAbs b.natAbs : Nat) : Int) = (Int.gcd b a : Nat) := by
  rw [Int.gcd_comm]
  rfl
theorem ratio_num_pos {a b : Int} (hb : 0 < b) : a / (Int.gcd b a : Nat) = (Rat.divInt a b).num := by
  rw [Rat.num_divInt, Int.sign_eq_one_of_pos hb, Int.one_mul]
theorem ratio_den_pos {a b : Int} (hb : 0 < b) : b / (Int.gcd b a : Nat) = ((Rat.divInt a b).den : Int) := by
  rw [Rat.den_divInt, if_neg (by omega)]
  have e : b = (b.natAbs : Int) := by omega
  rw [e]
  exact (Int.natCast_ediv _ _).symm
theorem ratio_neg (a b : Int) : Rat.divInt (-a) (-b) = Rat.divInt a b := by
  by_cases h : b = 0
  · subst h
    simp [Rat.divInt_zero]
  · rw [Rat.divInt_eq_divInt_iff (by omega) h]
    rw [Int.neg_mul, Int.mul_neg]
theorem fdiv_neg_neg (a : Int) {g : Int} (h : 0 < g) (hd : g ∣ a) : a.fdiv (-g) = (-a) / g := by
  obtain ⟨k, rfl⟩ := hd
  have e : g * k = (-g) * (-k) := by rw [Int.neg_mul_neg]
  rw [e, Int.mul_fdiv_cancel_left _ (by omega), ← Int.neg_mul, Int.neg_neg, Int.mul_ediv_cancel_left _ (by omega)]
theorem gcd_pos_int {a b : Int} (h : b ≠ 0) : 0 < ((Int.gcd b a : Nat) : Int) := by
  have : 0 < Int.gcd b a := Int.gcd_pos_of_ne_zero_left a h
  omega
/-- the tuple that ratio(a, b) hands back: b above 0, b below 0 -/
theorem dR_pos {a b : Int} (hb : 0 < b) : PyData.tuple [.int (a.fdiv ((Nat.gcd a.natAbs b.natAbs : Nat) : Int)), .int (b.fdiv ((Nat.gcd a.natAbs b.natAbs : Nat) : Int))] = dR (Rat.divInt a b) := by
  have g := gcd_pos_int (a := a) (b := b) (by omega)
  rw [gcd_int, fdiv_pos _ (by omega), fdiv_pos _ (by omega), ratio_num_pos hb, ratio_den_pos hb]
  rfl
theorem dR_neg {a b : Int} (hb : b < 0) : PyData.tuple [.int (a.fdiv (-((Nat.gcd a.natAbs b.natAbs : Nat) : Int))), .int (b.fdiv (-((Nat.gcd a.natAbs b.natAbs : Nat) : Int)))] = dR (Rat.divInt a b) := by
  have g := gcd_pos_int (a := a) (b := b) (by omega)
  rw [gcd_int, fdiv_neg_neg _ g (Int.gcd_dvd_right _ _), fdiv_neg_neg _ g (Int.gcd_dvd_left _ _), ← ratio_neg]
  have e : Int.gcd b a = Int.gcd (-b) (-a) := by rw [Int.gcd_neg, Int.neg_gcd]
  rw [e, ratio_num_pos (by omega), ratio_den_pos (by omega)]
  rfl
theorem gcd_lt {a b : Int} {n : Nat} (h : b ≠ 0) (hb : Bd n b) : Bd n ((Nat.gcd a.natAbs b.natAbs : Nat) : Int) :=
  ⟨Nat.lt_of_le_of_lt (show Nat.gcd a.natAbs b.natAbs ≤ b.natAbs from Nat.le_of_dvd (by omega) (Nat.gcd_dvd_right _ _)) hb.lt⟩
theorem log_lt {x : Int} {n : Nat} (h : Bd n x) (h0 : 0 < n) : x.natAbs.log2 < n := PySem.Flt.log2_lt_of h0 h.lt
theorem sz_divInt {a b : Int} {n : Nat} (ha : Bd n a) (hb : Bd n b) (h : b ≠ 0) : Sz n (Rat.divInt a b) := by
  have num : (Rat.divInt a b).num.natAbs ≤ a.natAbs := by
    rw [Rat.num_divInt]
    have h1 : (b.sign * a / (Int.gcd b a : Nat)).natAbs ≤ (b.sign * a).natAbs := Int.natAbs_ediv_le_natAbs _ _
    rw [Int.natAbs_mul] at h1
    have h2 : b.sign.natAbs ≤ 1 := by
      rcases Int.lt_trichotomy b 0 with q | q | q
      · rw [Int.sign_eq_neg_one_of_neg q]; decide
      · exact absurd q h
      · rw [Int.sign_eq_one_of_pos q]; decide
    have h3 : b.sign.natAbs * a.natAbs ≤ 1 * a.natAbs := Nat.mul_le_mul_right _ h2
    omega
  have den : (Rat.divInt a b).den ≤ b.natAbs := by
    rw [Rat.den_divInt, if_neg h]
    exact Nat.div_le_self _ _
  exact ⟨⟨Nat.lt_of_le_of_lt num ha.lt⟩, ⟨Nat.lt_of_le_of_lt (show ((Rat.divInt a b).den : Int).natAbs ≤ b.natAbs from den) hb.lt⟩⟩
theorem divInt_add (p q : Rat) : Rat.divInt (p.num * q.den + q.num * p.den) (p.den * q.den) = p + q := by
  have h := Rat.divInt_add_divInt p.num q.num (den_ne p) (den_ne q)
  rw [num_divInt_den, num_divInt_den] at h
  exact h.symm
theorem divInt_mul (p q : Rat) : Rat.divInt (p.num * q.num) (p.den * q.den) = p * q := by
  have h := Rat.divInt_mul_divInt p.num q.num (d₁ := p.den) (d₂ := q.den)
  rw [num_divInt_den, num_divInt_den] at h
  exact h.symm
theorem divInt_div (p q : Rat) (h : q ≠ 0) : Rat.divInt (p.num * q.den) (p.den * q.num) = p / q := by
  have hn : q.num ≠ 0 := fun z => h (Rat.num_eq_zero.mp z)
  have e : Rat.divInt (p.num * q.den) (p.den * q.num) * q = p := by
    have m := Rat.divInt_mul_divInt (p.num * q.den) q.num (d₁ := p.den * q.num) (d₂ := q.den)
    rw [num_divInt_den] at m
    rw [m]
    refine Eq.trans ?_ (num_divInt_den p)
    rw [Rat.divInt_eq_divInt_iff (Int.mul_ne_zero (Int.mul_ne_zero (den_ne p) hn) (den_ne q)) (den_ne p)]
    grind
  grind
theorem num_of_den_one {p q : Rat} (h1 : p.den = 1) (h2 : q.den = 1) : (p + q).num = p.num + q.num ∧ (p + q).den = 1 := by
  have e := divInt_add p q
  rw [h1, h2] at e
  simp only [Int.natCast_one, Int.mul_one] at e
  rw [← e]
  constructor
  · rw [Rat.num_divInt]; simp
  · rw [Rat.den_divInt]; simp
theorem mul_of_den_one {p q : Rat} (h1 : p.den = 1) (h2 : q.den = 1) : (p * q).num = p.num * q.num ∧ (p * q).den = 1 := by
  have e := divInt_mul p q
  rw [h1, h2] at e
  simp only [Int.natCast_one, Int.mul_one] at e
  rw [← e]
  constructor
  · rw [Rat.num_divInt]; simp
  · rw [Rat.den_divInt]; simp
theorem dR_neg_eq (q : Rat) : dR (-q) = .tuple [.int (-q.num), .int q.den] := rfl
theorem sz_neg {n : Nat} {q : Rat} (h : Sz n q) : Sz n (-q) := ⟨h.num.neg, h.den⟩
theorem sz_add {n : Nat} {p q : Rat} (h1 : Sz n p) (h2 : Sz n q) : Sz (2 * n + 1) (p + q) := by
  rw [← divInt_add]
  refine sz_divInt ?_ ?_ (Int.mul_ne_zero (den_ne p) (den_ne q))
  · rw [show 2 * n + 1 = n + n + 1 by omega]
    exact (h1.num.mul h2.den).add (h2.num.mul h1.den)
  · exact (h1.den.mul h2.den).mono (by omega)
theorem sz_mul {n : Nat} {p q : Rat} (h1 : Sz n p) (h2 : Sz n q) : Sz (2 * n) (p * q) := by
  rw [← divInt_mul]
  refine sz_divInt ?_ ?_ (Int.mul_ne_zero (den_ne p) (den_ne q))
  · exact (h1.num.mul h2.num).mono (by omega)
  · exact (h1.den.mul h2.den).mono (by omega)
theorem sz_div {n : Nat} {p q : Rat} (h1 : Sz n p) (h2 : Sz n q) (h : q ≠ 0) : Sz (2 * n) (p / q) := by
  rw [← divInt_div p q h]
  refine sz_divInt ?_ ?_ (Int.mul_ne_zero (den_ne p) fun z => h (Rat.num_eq_zero.mp z))
  · exact (h1.num.mul h2.den).mono (by omega)
  · exact (h1.den.mul h2.num).mono (by omega)
end M3
/-! ### list(reversed(x)) -/
namespace M3
open PySem PySem.Spec PyProof.Rows L2
variable [NmC]
section
variable {prog : Program} {w : World} {A : Around} {E : Value → Shared → Prop} {s : Shared} {I l : Addr} {items : Array Value}
theorem lri_nolen : typeLookup (.type "list_reverseiterator") "__len__" = pure none := by
  rw [typeLookup_type, builtinLookup_eq_fast]; kernel_rfl
theorem lri_hint : typeLookup (.type "list_reverseiterator") "__length_hint__" = pure (some (.builtin "list_reverseiterator.__length_hint__")) := by
  rw [typeLookup_type, builtinLookup_eq_fast]; kernel_rfl
theorem lri_lenHint {Q : Bool → Shared → Prop} (hT : s.TypeIs (.ref I) "list_reverseiterator") (h : Q false s) : wpAny (model prog w) A (Builtin.List.listLengthHint (.ref I)) Q E s := by
  unfold Builtin.List.listLengthHint; refine wpAny_bind (wpAny_specialOf hT lri_nolen ?_)
  show wpAny _ A (specialOf (Value.ref I) (Str.ofString "__length_hint__") >>= _) _ _ s
  refine wpAny_bind (wpAny_specialOf hT lri_hint ?_); generalize hid : ("list_reverseiterator.__length_hint__" : String) = id0
  wp_delta; rw [show splitId id0 = some ("list_reverseiterator", "__length_hint__") from by subst hid; decide +kernel]; subst hid
  refine wpAny_bind (wpAny_isInstance (T := "list_reverseiterator") (b := true) hT (by rw [isSubtype_type]; kernel_rfl) ?_)
  first
  | exact wpAny_pure h
  | (refine wpAny_ite_split (fun hab => absurd hab (by decide)) (fun _ => ?_); exact wpAny_pure h)
  | (refine wpAny_ite_split (fun hab => absurd hab (by decide)) (fun _ => ?_); refine wpAny_ite_split (fun _ => ?_) (fun hab => absurd (by decide +kernel) hab); exact wpAny_pure h)
/-- the walk of a reverse iterator -/
theorem lri_walks (hh : A.handled = none) (ne : l ≠ I) : WalksS prog w A I [I, l] [I] (fun a b => b = a) items.size (fun i v => items[items.size - 1 - i]? = some v)
    (fun i s => i ≤ items.size ∧ s.heap.IsRevIter I l ((items.size : Int) - 1 - (i : Int)) ∧ s.heap.IsList l items) := (Walks.listRev hh I l ne items).toS
theorem lri_extend {R : Result → Shared → Prop} (hh : A.handled = none) (ne : l ≠ I) (S : Addr) (nS : S ∉ [I, l]) (hz : items.size ≤ sizeLine) (c0 : Nat)
    (hi : s.heap.IsRevIter I l ((items.size : Int) - 1)) (hl : s.heap.IsList l items) (hS : s.heap.get? S = some { cls := .type "list", data := .seq #[] c0 })
    (k : ∀ s' acc c', Moved [S, I] (fun a b => b = a) s s' → s'.heap.get? S = some { cls := .type "list", dict := none, data := .seq acc c', slots := #[] } → ItemsOf (fun i v => items[items.size - 1 - i]? = some v) acc items.size → R (.ok (.ret .none)) s') :
    wpAny (model prog w) A.in1 (Builtin.List.listExtendWith (.ref S) (.ref I) .none) (fun fin s' => match fin with | .done f => R (.ok f) s' | .again c' => c'.quiet = true ∧ codeAny (model prog w) A c' R s') (fun e s' => R (.error e) s') s := by
  have nSI : S ≠ I := fun e => nS (by simp [e])
  have hT : s.TypeIs (.ref I) "list_reverseiterator" := hi.typeIs
  have h0 : Builtin.List.listSameRef (.ref S) (.ref I) = false := by simp [Builtin.List.listSameRef, nSI]
  unfold Builtin.List.listExtendWith; refine wpAny_bind (wpAny_typeOf hT ?_)
  rw [if_neg (by rw [h0]; decide)]; refine wpAny_bind (wpAny_pyIter_revIter hi ?_)
  refine wpAny_bind (wpAny_holding (lri_lenHint hT ?_))
  refine wpAny_ite_split (fun c => absurd c (by decide +kernel)) (fun _ => ?_)
  have st : (0 : Nat) ≤ items.size ∧ s.heap.IsRevIter I l ((items.size : Int) - 1 - ((0 : Nat) : Int)) ∧ s.heap.IsList l items := ⟨Nat.zero_le _, by simpa using hi, hl⟩
  exact wpAny_pure ⟨plainId_quiet F.plain_extend_loop _, codeAny_extend_loopS (lri_walks (A := A.in1) hh ne) hz S nS .none items.size 0 _ _ _ rfl (Nat.zero_le _) st hS (ItemsOf.nil _) fun s' acc c' m e i => k s' acc c' m e i⟩
theorem lri_list {Q : Value → Shared → Prop} (hh : A.handled = none) (ne : l ≠ I) (hz : items.size ≤ sizeLine) (hi : s.heap.IsRevIter I l ((items.size : Int) - 1)) (hl : s.heap.IsList l items)
    (k : ∀ h' tk acc c', (∀ b o, b ≠ I → s.heap.get? b = some o → h'.get? b = some o) → h'.get? s.heap.objs.size = some { cls := .type "list", dict := none, data := .seq acc c', slots := #[] } → ItemsOf (fun i v => items[items.size - 1 - i]? = some v) acc items.size →
      Q (.ref s.heap.objs.size) { s with heap := h', toks := tk }) : wpAny (model prog w) A (call (.type "list") [.ref I]) Q E s := by
  obtain ⟨oi, hoi, hci, hdi⟩ := id hi
  obtain ⟨ol, hol, hcl, nl, hdl⟩ := id hl
  have ltI := Heap.lt_size hoi
  have ltl := Heap.lt_size hol
  refine callType_codes (Q₁ := fun obj s1 => obj = .ref s.heap.objs.size ∧ s1 = { s with heap := s.heap.push { cls := .type "list", data := .seq #[] } }) F.called_list (F.typeCall_list_1 _) F.entry_list_init (code_list_new _ ⟨rfl, rfl⟩) fun obj s1 h1 => ?_
  obtain ⟨rfl, rfl⟩ := h1
  have hS : (s.heap.push { cls := .type "list", data := .seq #[] }).get? s.heap.objs.size = some { cls := .type "list", data := .seq #[] } := Heap.get?_push_size _ rfl
  refine ⟨⟨_, hS, rfl⟩, F.args_list_init_2 _ _, ?_⟩
  show wpAny _ _ (do let old ← Builtin.List.listItems (.ref s.heap.objs.size); Builtin.List.listUpdate (.ref s.heap.objs.size) (fun _ => #[]); letGo old.toList.reverse; Builtin.List.listExtendWith (.ref s.heap.objs.size) (.ref I) .none) _ _ _
  refine wpAny_bind ?_; unfold Builtin.List.listItems; refine wpAny_bind (wpAny_seqItems hS rfl (wpAny_pure ?_))
  show wpAny _ _ (updateSeq s.heap.objs.size (fun _ => #[]) >>= fun _ => letGo (#[] : Array Value).toList.reverse >>= fun _ => Builtin.List.listExtendWith (.ref s.heap.objs.size) (.ref I) .none) _ _ _
  refine wpAny_bind (wpAny_updateSeq hS rfl ?_); refine wpAny_bind (wpAny_letGo ?_)
  have hS2 := Heap.get?_update_self (Obj.mapSeq (fun _ => (#[] : Array Value))) hS rfl
  have oth : ∀ b o, b < s.heap.objs.size → s.heap.get? b = some o → ((s.heap.push { cls := .type "list", data := .seq #[] }).update s.heap.objs.size (Obj.mapSeq (fun _ => (#[] : Array Value)))).get? b = some o := fun b o hb e =>
    (Heap.get?_update_other _ _ (Nat.ne_of_gt hb)).trans (Heap.get?_push_of_some _ e)
  refine lri_extend (I := I) (l := l) (items := items) (A := A.in1) hh ne s.heap.objs.size (fun z => ?_) hz _ ⟨oi, oth I oi ltI hoi, hci, hdi⟩ ⟨ol, oth l ol ltl hol, hcl, nl, hdl⟩ hS2 fun s' acc c' m e i => ?_
  · rcases List.mem_cons.mp z with z | z
    · exact Nat.lt_irrefl _ (z ▸ ltI)
    · exact Nat.lt_irrefl _ (List.mem_singleton.mp z ▸ ltl)
  · rw [Moved.eq_with m]
    refine ⟨rfl, k s'.heap s'.toks acc c' (fun b o hb eb => m.heap b o (fun z => ?_) (oth b o (Heap.lt_size eb) eb)) e i⟩
    rcases List.mem_cons.mp z with z | z
    · exact Nat.lt_irrefl _ (z ▸ Heap.lt_size eb)
    · exact hb (List.mem_singleton.mp z)
end
section
variable {X : Cx} {e : Expr} {te : TE} {p p2 pos pos2 : Pos}
theorem boot_rev : bootBuiltins "reversed" = some (.type "reversed") := by decide +kernel
/-- list(reversed(e)) -/
def tListRev (K : PySem.W.Frag) (te : TE) : TE := fun σ H Q => te σ H fun x H1 => ∃ l xs, x = .ref l ∧ SqL K H1 l xs ∧ ∀ q, H1 q = none → Q (.ref q) (upd H1 q (.lst xs.reverse))
theorem vals_rev : ∀ {xs : List V} {us : List Value}, Vals xs us → Vals xs.reverse us.reverse
  | _, _, .nil => .nil
  | _, _, .cons h r => by rw [List.reverse_cons, List.reverse_cons]; exact (vals_rev r).append (.cons h .nil)
theorem pe_listRev (hc : X.calm = true) (hg : Gl X "list") (hm : X.mg "list" = none) (hg2 : Gl X "reversed") (hm2 : X.mg "reversed" = none) (he : PE X e te) (na : starEach [e] X.env = (false, eval e X.env) :: starEach [] X.env := by rfl)
    (nb : starEach [.Call (.Name "reversed" p2) [e] [] pos2] X.env = (false, eval (.Call (.Name "reversed" p2) [e] [] pos2) X.env) :: starEach [] X.env := by rfl) :
    PE X (.Call (.Name "list" p) [.Call (.Name "reversed" p2) [e] [] pos2] [] pos) (tListRev X.K te) := by
  refine ⟨fun pins s σ H Q I h => ?_⟩
  have inner : wpAny (model X.prog X.w) X.A (eval (.Call (.Name "reversed" p2) [e] [] pos2) X.env) (fun x s' => ∃ l xs its H1 s0, x = .ref s0.heap.objs.size ∧ Inv X pins σ H1 s0 ∧ s' = { s0 with heap := s0.heap.push (revObj l ((its.toArray.size : Int) - 1)) } ∧ Vals xs its ∧ s0.heap.IsList l its.toArray ∧ xs.length ≤ sizeLine ∧
      ∀ q, H1 q = none → Q (.ref q) (upd H1 q (.lst xs.reverse))) X.xe s := by
    refine Call_ (ld_blt I hg2 hm2 boot_rev (PyProof.Rows.callWith_type1 (args_cons (thn (he.run pins s σ H _ I h) fun v s2 ⟨x, H2, I2, r, q⟩ => args_nil ?_) na) na))
    obtain ⟨l, xs, rfl, hs, k⟩ := q
    cases r
    obtain ⟨its, r2, pl, hz⟩ := I2.list hs
    exact call_reversed_list pl.isList ⟨l, xs, its, H2, s2, rfl, I2, rfl, r2, pl.isList, hz, k⟩
  refine Call_ (ld_blt I hg hm boot_list (PyProof.Rows.callWith_type1 (args_cons (thn inner fun x s1 ⟨l, xs, its, H1, s0, ex, I1, es, r, hl, hz, k⟩ => args_nil ?_) nb) nb))
  subst ex es
  have hlt : l < s0.heap.objs.size := by obtain ⟨o, ho, _⟩ := hl; exact Heap.lt_size ho
  have hD : (s0.heap.push (revObj l ((its.toArray.size : Int) - 1))).get? s0.heap.objs.size = some (revObj l ((its.toArray.size : Int) - 1)) := Heap.get?_push_size _ rfl
  have hl2 : (s0.heap.push (revObj l ((its.toArray.size : Int) - 1))).IsList l its.toArray := by
    obtain ⟨o, ho, hc, n, hd⟩ := hl
    exact ⟨o, Heap.get?_push_of_some _ ho, hc, n, hd⟩
  have hsz : its.toArray.size = xs.length := by rw [List.size_toArray, r.length]
  refine lri_list (I := s0.heap.objs.size) (l := l) (items := its.toArray) (I1.ok.hd hc) (Nat.ne_of_lt hlt) (by rw [hsz]; exact hz) ⟨_, hD, rfl, rfl⟩ hl2 fun h' tk acc c' kp e' hi => ?_
  have kp2 : ∀ b o, s0.heap.get? b = some o → h'.get? b = some o := fun b o eb => kp b o (Nat.ne_of_lt (Heap.lt_size eb)) (Heap.get?_push_of_some _ eb)
  have hle : s0.heap.objs.size ≤ (s0.heap.push (revObj l ((its.toArray.size : Int) - 1))).objs.size := by simp [Heap.push]
  have ea : acc.toList = its.reverse := by
    refine List.ext_getElem? fun j => ?_
    have hs1 : acc.size = its.length := by rw [hi.1]; simp
    by_cases c : j < its.length
    · have hj : acc[j]? = some acc[j] := Array.getElem?_eq_getElem (by omega)
      have q := hi.2 j acc[j] hj
      rw [Array.getElem?_toList, hj, ← q, List.getElem?_reverse c]
      simp
    · rw [List.getElem?_eq_none (by simp; omega), List.getElem?_eq_none (by simp; omega)]
  exact ⟨.ref _, upd H1 _ (.lst xs.reverse), I1.laid kp2 hle (show ObjOk X.prog X.w _ _ _ (.lst xs.reverse) from ⟨by rw [List.length_reverse]; exact hz, acc.toList, c', by rw [ea]; exact vals_rev r, by rw [Array.toArray_toList]; exact e'⟩), rfl, k _ (I1.hok.fresh hle)⟩
end

section
variable {K : PySem.W.Frag} {W : WX} {δ : Sto} {ex : XP} {te : TE} {R : Ends3}
theorem da_rev {H : Hp} : ∀ {xs : List V} {ds : List PyData}, Da K H xs ds → Da K H xs.reverse ds.reverse
  | _, _, .nil => .nil
  | _, _, .cons h r => by rw [List.reverse_cons, List.reverse_cons]; exact (da_rev r).append (.cons h .nil)
/-- list(reversed(e)) of a list of one's own or of data -/
theorem fx_listRev {p : List PyData → Sto → Prop} (h : EX K W te δ (fun w δ1 => ∃ ds, p ds.reverse δ1 ∧ (w = .d (.list ds) ∨ ∃ i q, w = .m i ∧ δ1[i]? = some (.ml q ds))) ex) : FX K W (tListRev K te) δ p ex :=
  fun m H σ I Q k k2 => h m H σ I _ (fun v w H1 δ1 g1 s1 I1 o1 ⟨ds, pp, hw⟩ => by
    have fin : ∀ l xs, v = .ref l → SqL K H1 l xs → Da K (hide (hid m δ1) H1) xs ds → ∃ l xs, v = .ref l ∧ SqL K H1 l xs ∧ ∀ q, H1 q = none → Q (.ref q) (upd H1 q (.lst xs.reverse)) := fun l xs e hs r => by
      refine ⟨l, xs, e, hs, fun q hq => ?_⟩
      have ee := erase_upd (o := .lst xs.reverse) hq
      exact k q xs.reverse ds.reverse _ δ1 (by rw [ee]; exact g1) s1 (by rw [ee]; exact I1) upd_same (by rw [ee]; exact da_rev r) pp
    rcases hw with e | ⟨i, q, e, hi⟩
    · subst e
      obtain ⟨a, xs, rfl, hs, r⟩ := dd_lst o1
      exact fin a xs rfl (Same.seq hide_same hs) r
    · subst e
      obtain ⟨q', ds', e2, e3⟩ := o1
      rw [hi] at e2
      cases e2
      obtain ⟨_, _, xs, hx, r⟩ := I1.ml i q ds hi
      exact fin q xs e3 (.inl (.inl hx)) r) k2
/-- a fresh list is handed back: as the list of a slot that nobody asks any more -/
theorem sx_retF (i : Nat) (hi : i < δ.length) (h : FX K W te δ (fun ds δ' => ∀ p, R.rt (.m i) (δ'.set i (.ml p ds))) R.ex) : SX K W (tRet te) δ R := fun m H σ I D k1 k2 k3 k4 k5 =>
  h m H σ I _ (fun p xs ds H' δ' g s J e r q => by
    have I2 := J.set_ml (i := i) e r
    have hl : i < δ'.length := by have := J.len; have := I.len; omega
    exact k2 (.ref p) (.m i) _ _ _ (g.trans (.set_ml J)) I2 ⟨p, _, by rw [List.getElem?_set_self hl], rfl⟩ (q p)) (fun C H' δ' g J e => k5 C σ H' δ' g J e)
end

/-! ### a def that hands back a fresh list -/
def spF (K : PySem.W.Frag) {α : Type} (n : Nat) (enc : α → List PyData) (pre : α → Prop) (post : α → List PyData → Prop) : Sp := fun vs H Q _ =>
  ∃ (m : Addr → Prop) (a : α), (∀ x, m x → H x ≠ none) ∧ TabI K m H ∧ Da K (hide m H) vs (enc a) ∧ (enc a).length = n ∧ pre a ∧
    ∀ p xs ds H', Same H (erase p H') → H' p = some (.lst xs) → Da K (hide m (erase p H')) xs ds → post a ds → Q (.ref p) H'
/-- the ends of its body -/
abbrev RL (post : List PyData → Prop) : Ends3 := ⟨fun _ => False, fun w δ' => ∃ i p ds, w = .m i ∧ δ'[i]? = some (.ml p ds) ∧ post ds, fun _ => False, fun _ => False, fun _ _ => False⟩
section
variable {P : Program} {w : World} {K : PySem.W.Frag} {mg : Str → Option Value} {base : Heap} {k : Nat} {f : Addr} {fd : FuncData} {ps N : List Str}
theorem st0_ml0 {n : Nat} {ds : List PyData} {es : Cn} {i : Nat} {p : Addr} : (st0 n ds)[i]? ≠ some (.ow p es) := fun z => by
  unfold st0 at z
  rw [List.getElem?_append] at z
  split at z
  · rw [List.getElem?_map] at z
    cases q : ds[i]? with
    | none => rw [q] at z; cases z
    | some d => rw [q] at z; cases z
  · rw [List.getElem?_replicate] at z
    split at z <;> cases z
theorem fn_fresh {x qual : Str} {st : Stmt} {n : Nat} {α : Type} {enc : α → List PyData} {pre : α → Prop} {post : α → List PyData → Prop} (F : Fd K x qual st f fd) (S : FnScope N ps (defScope st)) (hn : ps.length = n)
    (body : ∀ (cdv : Value) (A : Around) (outer : List Env) (s : Shared) (H : Hp) (E : XK), A.guards = some [] → Room k (A.deeper (envOfC qual (defScope st) s.heap.objs.size f cdv)) →
      ∃ t, PSs (bodyX P w K mg base N qual st f cdv A outer s H E) (defBody st) t ∧ ∀ a, pre a → SX K (W0 E) t (st0 N.length (enc a)) (RL (post a))) : FnG P w K mg base (k + 1) f fd ps (spF K n enc pre post) := by
  refine fn_body F S (fun vs H Q E ⟨m, a, _, _, r, hl, _⟩ => by rw [r.length, hl, hn]) fun cdv A outer s H vs Q E hgd hr h => ?_
  obtain ⟨m, a, got, tbi, r, hl, hp, q⟩ := h
  obtain ⟨t, ht, hb⟩ := body cdv A outer s H E hgd hr
  have I0 : Env3 K m H (start N vs) (st0 N.length (enc a)) := st0_env r got tbi
  refine ⟨t, ht, hb a hp m H (start N vs) I0 _ (fun _ _ _ _ _ z => z.elim) (fun v w σ' H' δ' g J o ⟨i, p, ds, e, hi, pp⟩ => ?_) (fun _ _ _ _ _ z => z.elim) (fun _ _ _ _ _ z => z.elim) (fun _ _ _ _ _ _ z => z.elim)⟩
  subst e
  obtain ⟨p', ds', e2, rfl⟩ := o
  rw [hi] at e2
  cases e2
  obtain ⟨_, np, xs, hx, rx⟩ := J.ml i p ds hi
  refine q p xs ds H' (fun b o z => ?_) hx (rx.mono (.of fun b o z => ?_)) pp
  · by_cases c : m b
    · exact .inl (by rw [erase_ne (fun y => np (by rw [← y]; exact c)), g.keep b c]; exact z)
    · have no : ¬ hid m (st0 N.length (enc a)) b := fun y => by
        rcases y with y | ⟨i, es, y⟩
        · exact c y
        · exact st0_ml0 y
      have fin : ∀ o', hide (hid m δ') H' b = some o' → erase p H' b = some o' := fun o' y => by
        obtain ⟨c2, z2⟩ := hide_in y
        rw [erase_ne (fun y => c2 (.inr ⟨i, _, by rw [y]; exact hi⟩))]
        exact z2
      rcases g.same b o (hide_some no z) with y | ⟨t, y⟩
      · exact .inl (fin _ y)
      · exact .inr ⟨t, (show Same (hide (hid m δ') H') (erase p H') from .of fun b u w => by
          obtain ⟨c2, w⟩ := hide_in w
          rw [erase_ne fun q => c2 (.inr ⟨i, _, by rw [q]; exact hi⟩)]
          exact w).tb y⟩
  · obtain ⟨c, z⟩ := hide_in z
    exact hide_some (fun y => c (.inl y)) (by rw [erase_ne (fun y => c (.inr ⟨i, _, by rw [y]; exact hi⟩))]; exact z)
end
section
variable {K : PySem.W.Frag} {W : WX} {δ : Sto} {ex : XP} {t : TA} {n : Nat} {α : Type} {enc : α → List PyData} {pre : α → Prop} {post : α → List PyData → Prop} {pq : List PyData → Sto → Prop} {E : L2.St → XK}
theorem fx_call (h : AX K W t δ (fun ws δ' => ∃ (ds : List PyData) (a : α), ws = ds.map .d ∧ enc a = ds ∧ (enc a).length = n ∧ pre a ∧ ∀ es, post a es → pq es δ') ex) : FX K W (tCallG (spF K n enc pre post) [] E t) δ pq ex := fun m H σ I Q k k2 =>
  h m H σ I _ (fun vs ws H1 δ1 g1 s1 I1 o1 ⟨ds, a, e, ea, hl, hp, q⟩ => by
    subst e
    refine ⟨hid m δ1, a, got_hid I1, tab_hid I1, by rw [ea, List.append_nil]; exact da_of o1, hl, hp, fun p xs es H' sm hx r pp => ?_⟩
    exact k p xs es H' δ1 (g1.trans (.of_same I1 sm)) s1 (I1.same sm) hx r (q es pp)) k2
end
/-! ### * of factors of which one is small, or both not too large -/
theorem op_mulA {X : Cx} : OpR X (binaryOp .Mult) (rI IntMulOk fun i j => .int (i * j)) := opI fun _ _ _ _ _ _ _ hc q => mul_int q hc
theorem mulS {i j : Int} (h1 : -(2 ^ 63) ≤ j) (h2 : j ≤ 2 ^ 63) : IntMulOk i j := CMul.ok (.inr ⟨by omega, by omega⟩)
theorem mulL {i j : Int} (h1 : -(2 ^ 63) ≤ i) (h2 : i ≤ 2 ^ 63) : IntMulOk i j := CMul.ok (.inl ⟨by omega, by omega⟩)
theorem mulA {n m : Nat} {i j : Int} (h1 : Bd n i) (h2 : Bd m j) (h : n + m ≤ 100000) : IntMulOk i j := CMulW.ok (mulW h1 h2 (by omega))
/-- what holds between two statements -/
theorem sx_cut {K : PySem.W.Frag} {W : WX} {δ : Sto} {R : Ends3} {t u : TS} (I : Sto → Prop) (h : SX K W t δ (R.nxt I)) (h2 : ∀ δ', I δ' → SX K W u δ' R) : SX K W (tSeq t u) δ R :=
  sx_seq (h.imp h2 (fun _ _ q => q) (fun _ q => q) (fun _ q => q) fun _ _ q => q)
theorem rangeD_at {lo : Int} {n k : Nat} {d : PyData} (h : (rangeD lo n)[k]? = some d) : k < n ∧ d = .int (lo + k) := by
  have hk : k < n := by
    have := (List.getElem?_eq_some_iff.mp h).1
    simpa [rangeD] using this
  rw [rangeD_get hk] at h
  exact ⟨hk, (Option.some.inj h).symm⟩
end M3
/-! ### repr of data -/
namespace M3
open PySem PySem.Spec PyProof.Rows L2
variable [NmC]
/-- data that repr can show: n bounds its parts -/
structure Rp (k n : Nat) (d : PyData) : Prop where
  lay : d.canLay0 = true
  dep : d.depth ≤ k
  shw : d.showable = true
  shr : d.leavesShort 1921 = true
  blk : d.bulk ≤ n
theorem Rp.len {k n : Nat} {d : PyData} (h : Rp k n d) (hn : n ≤ 8000) : d.shown.length ≤ sizeLine := by
  have h1 := PyData.shown_le_bulk 1921 (by decide) d h.shr
  have h2 := h.blk
  have h3 : sizeLine = 16777216 := by decide
  have h4 : (1921 + 2) * d.bulk ≤ (1921 + 2) * 8000 := Nat.mul_le_mul_left _ (by omega)
  omega
def rRepr (K : PySem.W.Frag) : List V → Hp → VK → Prop := fun xs H Q => ∃ v d k n, xs = [v] ∧ Dp K H v d ∧ Rp k n d ∧ k ≤ 60 ∧ n ≤ 8000 ∧ Q (.str d.shown) H
theorem cr_repr {X : Cx} (hg : X.A.guards = some []) (hu : X.A.units + 64 < cLine) : CallR X (.builtin "repr") (rRepr X.K) := by
  intro pins s σ H xs us Q I r h
  obtain ⟨v, d, k, n, rfl, hd, hp, hk, hn, q⟩ := h
  obtain ⟨u, rfl, rv⟩ := vals1 r
  have hz := hp.len hn
  have fin : ∀ {a : Addr}, u = .ref a → wpAny (model X.prog X.w) X.A (call (.builtin "repr") [u]) (EP X pins σ Q) X.xe s := fun {a} e => by
    subst e
    obtain ⟨as, rd⟩ := Dp.reads I d v _ hd rv
    refine repr_of_reads' rd hp.shw (fun z => ?_) hg (by have := hp.dep; omega) (fun b o e => e) (fun h' t tk kp => ⟨.str d.shown, H, I.kept kp, ⟨_, rfl⟩, q⟩) hz
    rw [PyData.hasDict_of_canLay d hp.lay] at z
    cases z
  cases hd with
  | non =>
    cases rv
    exact PySem.P.repr_of_none ⟨.str _, H, I.tok _, ⟨_, rfl⟩, q⟩
  | bl b =>
    cases rv
    exact PySem.P.repr_of_bool ⟨.str _, H, I.tok _, ⟨_, rfl⟩, q⟩
  | int i =>
    obtain ⟨t, rfl⟩ := rv
    exact PySem.P.repr_of_int (by simpa [PyData.showable] using hp.shw) ⟨.str _, H, I.tok _, ⟨_, rfl⟩, q⟩
  | str x =>
    obtain ⟨t, rfl⟩ := rv
    exact PySem.P.repr_of_str ⟨.str _, H, I.tok _, ⟨_, rfl⟩, q⟩ (by simpa only [PyData.shown] using hz)
  | lst h r =>
    cases rv
    exact fin rfl
  | tup h r =>
    cases rv
    exact fin rfl
section
variable {K : PySem.W.Frag} {W : WX} {δ : Sto} {ex : XP} {post : Vw → Sto → Prop}
theorem vx_repr {k n : Nat} {d : PyData} (h : Rp k n d) (hk : k ≤ 60) (hn : n ≤ 8000) (q : post (.d (.str d.shown)) δ) : VX K (rRepr K) [.d d] δ post := fun m H σ vs I o Q k => by
  obtain ⟨v, rfl, h1⟩ := vw1 o
  exact ⟨v, d, _, n, rfl, dp_of (Dd.mono hide_same h1) h.lay, h, hk, hn, k _ (.d (.str d.shown)) H (.refl H) (.str _) q⟩
end
/-! what can be shown -/
theorem rp_int {i : Int} (h : i.natAbs.log2 < 1920) : Rp 0 0 (.int i) := by
  refine ⟨rfl, by simp [PyData.depth], by simp [PyData.showable, h], ?_, by simp [PyData.bulk]⟩
  simp only [PyData.leavesShort, PyData.shown]
  exact decide_eq_true (int_text_len_1921 h)
theorem rp_non : Rp 0 0 .none := ⟨rfl, by simp [PyData.depth], rfl, rfl, by simp [PyData.bulk]⟩
theorem rp_bool (b : Bool) : Rp 0 0 (.bool b) := ⟨rfl, by simp [PyData.depth], rfl, rfl, by simp [PyData.bulk]⟩
theorem Rp.mono {k n k' n' : Nat} {d : PyData} (h : Rp k n d) (h1 : k ≤ k') (h2 : n ≤ n') : Rp k' n' d := ⟨h.lay, Nat.le_trans h.dep h1, h.shw, h.shr, Nat.le_trans h.blk h2⟩
structure RpAll (k n : Nat) (ds : List PyData) : Prop where
  lay : PyData.canLayAll0 ds = true
  dep : PyData.depthAll ds ≤ k
  shw : PyData.showableAll ds = true
  shr : PyData.leavesShortAll 1921 ds = true
  blk : PyData.bulkAll ds ≤ n
theorem rp_nil {k n : Nat} : RpAll k n [] := ⟨rfl, by simp [PyData.depthAll], rfl, rfl, by simp [PyData.bulkAll]⟩
theorem rp_cons {k n m : Nat} {d : PyData} {ds : List PyData} (h : Rp k n d) (r : RpAll k m ds) : RpAll k (n + 1 + m) (d :: ds) := by
  refine ⟨?_, ?_, ?_, ?_, ?_⟩
  · simp only [PyData.canLayAll0, h.lay, r.lay, Bool.and_self]
  · simp only [PyData.depthAll]
    exact Nat.max_le.mpr ⟨h.dep, r.dep⟩
  · simp only [PyData.showableAll, h.shw, r.shw, Bool.and_self]
  · simp only [PyData.leavesShortAll, h.shr, r.shr, Bool.and_self]
  · simp only [PyData.bulkAll]
    have h1 := h.blk
    have h2 := r.blk
    omega
theorem rp_lst {k n : Nat} {ds : List PyData} (r : RpAll k n ds) : Rp (k + 1) n (.list ds) := by
  refine ⟨?_, ?_, ?_, ?_, ?_⟩
  · simpa only [PyData.canLay0] using r.lay
  · simp only [PyData.depth]
    have := r.dep
    omega
  · simpa only [PyData.showable] using r.shw
  · simpa only [PyData.leavesShort] using r.shr
  · simpa only [PyData.bulk] using r.blk
theorem rp_tup {k n : Nat} {ds : List PyData} (r : RpAll k n ds) : Rp (k + 1) n (.tuple ds) := by
  refine ⟨?_, ?_, ?_, ?_, ?_⟩
  · simpa only [PyData.canLay0] using r.lay
  · simp only [PyData.depth]
    have := r.dep
    omega
  · simpa only [PyData.showable] using r.shw
  · simpa only [PyData.leavesShort] using r.shr
  · simpa only [PyData.bulk] using r.blk
theorem rp_map {α : Type} {k n : Nat} {f : α → PyData} : ∀ {xs : List α}, (∀ x ∈ xs, Rp k n (f x)) → RpAll k ((n + 1) * xs.length) (xs.map f)
  | [], _ => rp_nil
  | x :: xs, h => by
    have e : (n + 1) * (x :: xs).length = n + 1 + (n + 1) * xs.length := by rw [List.length_cons, Nat.mul_add, Nat.mul_one, Nat.add_comm]
    rw [e]
    exact rp_cons (h x List.mem_cons_self) (rp_map fun y hy => h y (List.mem_cons_of_mem _ hy))
theorem bd_log {n : Nat} {i : Int} (h : Bd n i) (hn : n ≤ 1900) : i.natAbs.log2 < 1920 := by
  have := log_lt (h.mono (show n ≤ 1919 by omega)) (by decide)
  omega
theorem rp_dR {n : Nat} {q : Rat} (h : Sz n q) (hn : n ≤ 1900) : Rp 1 2 (dR q) :=
  rp_tup (rp_cons (rp_int (bd_log h.num hn)) (rp_cons (m := 0) (rp_int (bd_log h.den hn)) rp_nil))
theorem shown_inj_dR {p q : Rat} (h : p = q) : (dR p).shown = (dR q).shown := by rw [h]
section
variable {K : PySem.W.Frag} {δ : Sto} {post : Vw → Sto → Prop}
theorem rx_neS {x y : Str} (q : post (.d (.bool (!decide (x = y)))) δ) : RX K rNe (.d (.str x)) (.d (.str y)) δ post := fun m H σ v1 v2 I o1 o2 Q k => by
  cases dd_str o1
  cases dd_str o2
  have e : decide (V.str x = V.str y) = decide (x = y) := by simp
  exact ⟨rfl, by rw [e]; exact k _ (.d (.bool _)) H (.refl H) (.bl _) q⟩
theorem rx_eqS {x y : Str} (q : post (.d (.bool (decide (x = y)))) δ) : RX K rEq (.d (.str x)) (.d (.str y)) δ post := fun m H σ v1 v2 I o1 o2 Q k => by
  cases dd_str o1
  cases dd_str o2
  have e : decide (V.str x = V.str y) = decide (x = y) := by simp
  exact ⟨rfl, by rw [e]; exact k _ (.d (.bool _)) H (.refl H) (.bl _) q⟩
end
/-! ### isqrt, lcm -/
def rIsqrt : List V → Hp → VK → Prop := fun vs H Q => ∃ a : Int, vs = [.int a] ∧ 0 ≤ a ∧ a.toNat.log2 ≤ 13000 ∧ Q (.int ((Float64.isqrt a.toNat : Nat) : Int)) H
theorem cr_isqrt {X : Cx} : CallR X (.builtin "math.isqrt") rIsqrt := by
  intro pins s σ H vs us Q I r h
  obtain ⟨a, rfl, h0, h1, q⟩ := h
  obtain ⟨u, rfl, t, rfl⟩ := vals1 r
  exact call_function_meets PySem.W.MGF.kind_isqrt PySem.W.MGF.plain_isqrt PySem.W.MGF.entry_isqrt (PySem.W.MGF.args_isqrt _) (PySem.W.mg_run_isqrt a t (by omega) (by omega) (by omega)).meets ⟨.int _, H, I.tok _, ⟨_, rfl⟩, q⟩
def rLcm : List V → Hp → VK → Prop := fun vs H Q => ∃ a b : Int, vs = [.int a, .int b] ∧ Bd 6000 a ∧ Bd 6000 b ∧ Q (.int ((Nat.lcm a.natAbs b.natAbs : Nat) : Int)) H
theorem cr_lcm {X : Cx} : CallR X (.builtin "math.lcm") rLcm := by
  intro pins s σ H vs us Q I r h
  obtain ⟨a, b, rfl, h0, h1, q⟩ := h
  obtain ⟨t, u, rfl⟩ := Vals.int2 r
  have e : (Nat.lcm 1 a.natAbs).lcm b.natAbs = Nat.lcm a.natAbs b.natAbs := by rw [Nat.lcm_one_left]
  have l1 : ∀ n : Nat, n < 2 ^ 6000 → n.log2 ≤ 6000 := fun n h => by
    have := PySem.Flt.log2_lt_of (n := n) (k := 6000) (by decide) h
    omega
  have m1 : (max 1 a.natAbs) < 2 ^ 6000 := Nat.max_lt.mpr ⟨by decide, h0.lt⟩
  have m2 : (max a.natAbs b.natAbs) < 2 ^ 6000 := Nat.max_lt.mpr ⟨h0.lt, h1.lt⟩
  have sz : ((((Nat.lcm 1 a.natAbs).lcm b.natAbs : Nat) : Int)).natAbs.log2 < bitsLine := by
    rw [e, Int.natAbs_natCast]
    have h2 : Nat.lcm a.natAbs b.natAbs < 2 ^ 12000 := by
      refine Nat.lt_of_le_of_lt (Nat.div_le_self _ _) ?_
      rw [show (12000 : Nat) = 6000 + 6000 from rfl, Nat.pow_add]
      exact Nat.mul_lt_mul'' h0.lt h1.lt
    have := PySem.Flt.log2_lt_of (n := Nat.lcm a.natAbs b.natAbs) (k := 12000) (by decide) h2
    have e2 : bitsLine = 134217728 := by decide
    omega
  have g := (PySem.W.mg_run_lcm a t b u (by have := l1 _ m1; omega) (by have := l1 _ m2; omega) sz)
  rw [e] at g
  exact call_function_meets PySem.W.MGF.kind_lcm PySem.W.MGF.plain_lcm PySem.W.MGF.entry_lcm (PySem.W.MGF.args_lcm _ _) g.meets ⟨.int _, H, I.tok _, ⟨_, rfl⟩, q⟩
section
variable {K : PySem.W.Frag} {δ : Sto} {post : Vw → Sto → Prop}
theorem vx_isqrt {a : Int} (h0 : 0 ≤ a) (h1 : a.toNat.log2 ≤ 13000) (q : post (.d (.int ((Float64.isqrt a.toNat : Nat) : Int))) δ) : VX K rIsqrt [.d (.int a)] δ post := fun m H σ vs I o Q k => by
  obtain ⟨v, rfl, h⟩ := vw1 o
  cases dd_int h
  exact ⟨a, rfl, h0, h1, k _ (.d (.int _)) H (.refl H) (.int _) q⟩
theorem vx_lcm {a b : Int} (h0 : Bd 6000 a) (h1 : Bd 6000 b) (q : post (.d (.int ((Nat.lcm a.natAbs b.natAbs : Nat) : Int))) δ) : VX K rLcm [.d (.int a), .d (.int b)] δ post := fun m H σ vs I o Q k => by
  obtain ⟨v, u, rfl, g1, g2⟩ := vw2 o
  cases dd_int g1
  cases dd_int g2
  exact ⟨a, b, rfl, h0, h1, k _ (.d (.int _)) H (.refl H) (.int _) q⟩
end
/-! ### a, b = e, f; a, b, c = e, f, g -/
section
variable {K : PySem.W.Frag} {W : WX} {δ : Sto} {R : Ends3} {ta : TA}
theorem sx_par {i j : Nat} (h : AX K W ta δ (fun ws δ' => ∃ d e, ws = [.d d, .d e] ∧ R.nx ((δ'.set i (.dat d)).set j (.dat e))) R.ex) : SX K W (tPar i j ta) δ R := fun m H σ I D k1 k2 k3 k4 k5 =>
  h m H σ I _ (fun vs ws H' δ' g s J o ⟨d, e, ew, q⟩ => by
    subst ew
    obtain ⟨u, v, rfl, o1, o2⟩ := vw2 o
    have J1 := J.set_dat (i := i) o1
    have o2' : Dd K (hide (hid m (δ'.set i (.dat d))) H') v e := Dd.mono (hide_set (s := .dat d) (fun _ _ z => nomatch z)) o2
    exact ⟨u, v, rfl, k1 _ _ _ (g.trans (Gw.set_dat.trans Gw.set_dat)) (J1.set_dat o2') q⟩) (fun C H' δ' g J e => k5 C σ H' δ' g J e)
theorem vw3 {m : Addr → Prop} {H : Hp} {vs : List V} {w x y : Vw} (h : VwAll K m H δ vs [w, x, y]) : ∃ v u z, vs = [v, u, z] ∧ VwOk K m H δ v w ∧ VwOk K m H δ u x ∧ VwOk K m H δ z y := by
  cases h with
  | cons h r =>
    obtain ⟨u, z, rfl, h2, h3⟩ := vw2 r
    exact ⟨_, _, _, rfl, h, h2, h3⟩
theorem sx_par3 {i j l : Nat} (h : AX K W ta δ (fun ws δ' => ∃ d e f, ws = [.d d, .d e, .d f] ∧ R.nx (((δ'.set i (.dat d)).set j (.dat e)).set l (.dat f))) R.ex) : SX K W (tPar3 i j l ta) δ R := fun m H σ I D k1 k2 k3 k4 k5 =>
  h m H σ I _ (fun vs ws H' δ' g s J o ⟨d, e, f, ew, q⟩ => by
    subst ew
    obtain ⟨u, v, z, rfl, o1, o2, o3⟩ := vw3 o
    have J1 := J.set_dat (i := i) o1
    have o2' : Dd K (hide (hid m (δ'.set i (.dat d))) H') v e := Dd.mono (hide_set (s := .dat d) (fun _ _ z => nomatch z)) o2
    have J2 := J1.set_dat (i := j) o2'
    have o3' : Dd K (hide (hid m ((δ'.set i (.dat d)).set j (.dat e))) H') z f := Dd.mono (hide_set (s := .dat e) (fun _ _ z => nomatch z)) (Dd.mono (hide_set (s := .dat d) (fun _ _ z => nomatch z)) o3)
    exact ⟨u, v, z, rfl, k1 _ _ _ (g.trans (Gw.set_dat.trans (Gw.set_dat.trans Gw.set_dat))) (J2.set_dat o3') q⟩) (fun C H' δ' g J e => k5 C σ H' δ' g J e)
/-- a written constant of the top -/
theorem ex_k {v : V} {d : PyData} {post : Vw → Sto → Prop} {ex : XP} (h : ∀ H, Dd K H v d) (q : post (.d d) δ) : EX K W (tC v) δ post ex := ex_c h q
theorem dd_pair {a : Addr} {i j : Int} {zd : Option Addr} {za zb : Tok} {zn : Nat} {zs : Array (Option Value)} (h : K.lookup a = some ⟨.type "tuple", zd, .seq #[.int i za, .int j zb] zn, zs⟩) (H : Hp) : Dd K H (.ref a) (.tuple [.int i, .int j]) :=
  .tup (.inr ⟨_, #[.int i za, .int j zb], zn, h, rfl, rfl, by show (2 : Nat) ≤ sizeLine; decide, show Vals [V.int i, V.int j] [.int i za, .int j zb] from .cons ⟨_, rfl⟩ (.cons ⟨_, rfl⟩ .nil)⟩) (.cons (.int i) (.cons (.int j) .nil))
end
/-! ### in, not in a list of data -/
theorem units65 {k : Nat} {A : Around} (r : Room k A) : A.units + 65 < cLine := by have := r.un; omega
section
variable {K : PySem.W.Frag} {W : WX} {δ : Sto} {ex : XP} {post : Vw → Sto → Prop} {te : TE} {R : Ends3}
theorem dp_list_m {m : Addr → Prop} {H : Hp} {σ : L2.St} {i : Nat} {p : Addr} {ds : List PyData} (I : Env3 K m H σ δ) (hi : δ[i]? = some (.ml p ds)) (h : PyData.canLayAll0 ds = true) : Dp K H (.ref p) (.list ds) := by
  obtain ⟨_, _, xs, hx, r⟩ := I.ml i p ds hi
  exact .lst (.inl (.inl hx)) (dpAll_of (r.mono hide_same) h)
theorem lay_list {ds : List PyData} (h : SeqAt.shaped (.list ds) = true) : PyData.canLayAll0 ds = true := by
  have := SeqAt.canLay_of_shaped h
  simpa only [PyData.canLay0] using this
theorem rx_notInM {i : Nat} {p : Addr} {d : PyData} {ds : List PyData} (hi : δ[i]? = some (.ml p ds)) (h1 : SeqAt.shaped d = true) (h2 : SeqAt.shaped (.list ds) = true) (q : post (.d (.bool (!ds.any fun z => PyData.eqv z d))) δ) : RX K (rNotInD K) (.d d) (.m i) δ post := fun m H σ v1 v2 I o1 o2 Q k => by
  obtain ⟨p', ds', e, rfl⟩ := o2
  rw [hi] at e
  cases e
  exact ⟨d, ds, dp_of (Dd.mono hide_same o1) (SeqAt.canLay_of_shaped h1), dp_list_m I hi (lay_list h2), h1, h2, k _ (.d (.bool _)) H (.refl H) (.bl _) q⟩
theorem rx_inM {i : Nat} {p : Addr} {d : PyData} {ds : List PyData} (hi : δ[i]? = some (.ml p ds)) (h1 : SeqAt.shaped d = true) (h2 : SeqAt.shaped (.list ds) = true) (q : post (.d (.bool (ds.any fun z => PyData.eqv z d))) δ) : RX K (rInD K) (.d d) (.m i) δ post := fun m H σ v1 v2 I o1 o2 Q k => by
  obtain ⟨p', ds', e, rfl⟩ := o2
  rw [hi] at e
  cases e
  exact ⟨d, ds, dp_of (Dd.mono hide_same o1) (SeqAt.canLay_of_shaped h1), dp_list_m I hi (lay_list h2), h1, h2, k _ (.d (.bool _)) H (.refl H) (.bl _) q⟩
theorem rx_inL {d : PyData} {ds : List PyData} (h1 : SeqAt.shaped d = true) (h2 : SeqAt.shaped (.list ds) = true) (q : post (.d (.bool (ds.any fun z => PyData.eqv z d))) δ) : RX K (rInD K) (.d d) (.d (.list ds)) δ post := fun m H σ v1 v2 I o1 o2 Q k =>
  ⟨d, ds, dp_of (Dd.mono hide_same o1) (SeqAt.canLay_of_shaped h1), dp_of (Dd.mono hide_same o2) (SeqAt.canLay_of_shaped h2), h1, h2, k _ (.d (.bool _)) H (.refl H) (.bl _) q⟩
theorem rx_notInL {d : PyData} {ds : List PyData} (h1 : SeqAt.shaped d = true) (h2 : SeqAt.shaped (.list ds) = true) (q : post (.d (.bool (!ds.any fun z => PyData.eqv z d))) δ) : RX K (rNotInD K) (.d d) (.d (.list ds)) δ post := fun m H σ v1 v2 I o1 o2 Q k =>
  ⟨d, ds, dp_of (Dd.mono hide_same o1) (SeqAt.canLay_of_shaped h1), dp_of (Dd.mono hide_same o2) (SeqAt.canLay_of_shaped h2), h1, h2, k _ (.d (.bool _)) H (.refl H) (.bl _) q⟩
/-! ### a list of one's own: insert -/
abbrev rInsert : V → List V → Hp → VK → Prop := fun x vs H Q => ∃ (l : Addr) (xs : List V) (i : Int) (y : V), x = .ref l ∧ vs = [.int i, y] ∧ H l = some (.lst xs) ∧ xs.length < sizeLine ∧ 0 ≤ i ∧ i < 2 ^ 63 ∧ Q .non (upd H l (.lst (xs.take i.toNat ++ [y] ++ xs.drop i.toNat)))
theorem ex_insert {i : Nat} {t : TA} (h : AX K W t δ (fun ws δ' => ∃ (n : Nat) (d : PyData) (p : Addr) (ds : List PyData), ws = [.d (.int n), .d d] ∧ δ'[i]? = some (.ml p ds) ∧ ds.length < 1000000 ∧ n ≤ 1000000 ∧ post (.d .none) (δ'.set i (.ml p (ds.take n ++ [d] ++ ds.drop n)))) ex) (hi : ∃ p ds, δ[i]? = some (.ml p ds)) :
    EX K W (tBM K "list" rInsert (tVar i) t) δ post ex := fun m H σ I Q k k2 => by
  obtain ⟨p0, ds0, h0⟩ := hi
  obtain ⟨hσ, _, xs0, hx0, _⟩ := I.ml i p0 ds0 h0
  refine ⟨.ref p0, hσ, .inl ⟨rfl, xs0, .inl (.inl hx0)⟩, ?_⟩
  refine h m H σ I _ (fun vs ws H1 δ1 g1 s1 I1 o1 ⟨n, d, p, ds, e, h1, hl, hn, q⟩ => ?_) k2
  subst e
  obtain ⟨v, u, rfl, o2, o3⟩ := vw2 o1
  cases dd_int o2
  obtain ⟨es, e0⟩ := s1 i p0 _ h0
  rw [h1] at e0
  cases e0
  obtain ⟨_, np, xs, hx, r⟩ := I1.ml i p0 ds h1
  have o3' : Dd K (hide (hid m δ1) H1) u d := o3
  have hup : ∀ a, a ≠ p0 → upd H1 p0 (.lst (xs.take n ++ [u] ++ xs.drop n)) a = H1 a := fun a c => upd_ne c
  have sme : Same (erase p0 H1) (erase p0 (upd H1 p0 (.lst (xs.take n ++ [u] ++ xs.drop n)))) := .of fun a o z => by
    have ne : a ≠ p0 := fun q => by rw [q, erase_at] at z; cases z
    rw [erase_ne ne] at z ⊢
    rw [hup a ne]
    exact z
  have ee : erase p0 (upd H1 p0 (.lst (xs.take n ++ [u] ++ xs.drop n))) = erase p0 H1 := by
    funext a
    by_cases c : a = p0
    · rw [c, erase_at, erase_at]
    · rw [erase_ne c, erase_ne c, hup a c]
  have rr : Da K (hide (hid m δ1) H1) (xs.take n ++ [u] ++ xs.drop n) (ds.take n ++ [d] ++ ds.drop n) := ((da_take n r).append (.cons o3' .nil)).append (da_drop n r)
  have g2 : Gw m δ1 H1 (δ1.set i (.ml p0 (ds.take n ++ [d] ++ ds.drop n))) (upd H1 p0 (.lst (xs.take n ++ [u] ++ xs.drop n))) := .chg I1 h1 sme fun a ha => hup a fun z => np (z ▸ ha)
  have I2 : Env3 K m (upd H1 p0 (.lst (xs.take n ++ [u] ++ xs.drop n))) σ (δ1.set i (.ml p0 (ds.take n ++ [d] ++ ds.drop n))) := I1.chg h1 sme upd_same (by
    have e2 : hide (hid m δ1) (upd H1 p0 (.lst (xs.take n ++ [u] ++ xs.drop n))) = hide (hid m δ1) H1 := by
      rw [← hide_erase h1, ← hide_erase (H := H1) h1, ee]
    rw [hide_erase h1, e2]
    exact rr)
  exact ⟨p0, xs, n, u, rfl, rfl, hx, by rw [r.length]; exact Nat.lt_of_lt_of_le hl (by decide), by omega, by omega, k .non (.d .none) _ _ (g1.trans g2) (s1.trans (.chg h1)) I2 .non q⟩
end
/-! ### a comprehension over a list of one's own -/
section
variable {K : PySem.W.Frag} {W : WX} {δ : Sto} {ex : XP} {g : TG} {tt : TT} {te : TE} {vs : List Nat} {ok : PyData → Prop} {f : Sto → PyData → Sto} {ds : List PyData}
theorem fx_lcM {q : List PyData → Sto → Prop} (tg : TgC K g vs ok f) {j : Nat} {p : Addr} (Inv : Nat → List PyData → Sto → Prop) (hj : δ[j]? = some (.ml p ds)) (nv : NoMl δ vs) (i0 : Inv 0 [] (wipeD δ vs))
    (stay : ∀ k acc δ', Inv k acc δ' → δ'[j]? = some (.ml p ds)) (turn : LcI K tt te vs ok f ds Inv) (fin : ∀ acc δ', Inv ds.length acc δ' → q acc δ') : FX K W (tLc (iList K (tVar j)) g tt te vs) δ q ex :=
  fun m H σ I Q k k2 => by
    obtain ⟨hσ, np, xs, hp, r⟩ := I.ml j p ds hj
    refine ⟨.ref p, hσ, p, rfl, ⟨xs, .inl (.inl hp)⟩, fun D hD => ?_⟩
    have nD : ¬ m D := fun z => I.got D z hD
    refine ⟨fun i n H' => n = ds.length - i ∧ i ≤ ds.length ∧ ∃ δ' acc, LcS K m D vs σ δ H (Inv i) H' δ' acc, ⟨ds.length, rfl, Nat.zero_le _, _, _, lc_start I hD nv i0⟩, ?_⟩
    rintro i n H' ⟨en, hi, δ', acc, S⟩
    obtain ⟨_, _, ys, hy, ry⟩ := S.env.ml j p ds (stay i acc δ' S.inv)
    rw [hid_D] at ry
    have sy : SqL K H' p ys := .inl (.inl hy)
    have ly := ry.length
    by_cases c : i < ds.length
    · obtain ⟨x, hx, dd⟩ := ry.get (List.getElem?_eq_getElem c)
      refine .inr ⟨⟨ys, x, sy, hx⟩, fun H2 => ∃ δ2 acc2, LcS K m D vs σ δ H (Inv (i + 1)) H2 δ2 acc2, fun H2 ⟨δ2, acc2, S2⟩ => ⟨n - 1, by omega, by omega, c, δ2, acc2, S2⟩, fun v H2 hv => ?_⟩
      obtain ⟨rfl, fv⟩ := hv
      have ev : v = x := Option.some.inj ((fv _ sy).symm.trans hx)
      subst ev
      obtain ⟨hok, hb⟩ := turn i _ acc δ' (List.getElem?_eq_getElem c) S.inv
      exact lc_turn tg nD S dd hok hb fun H2 δ2 acc2 S2 => ⟨δ2, acc2, S2⟩
    · have e : i = ds.length := by omega
      subst e
      exact .inl ⟨⟨ys, sy, by omega⟩, lc_end nD .refl (.refl δ) S (fin acc δ' S.inv) k⟩
end
theorem Rp.shaped {k n : Nat} {d : PyData} (h : Rp k n d) (hk : k ≤ 60) : SeqAt.shaped d = true := by
  have := h.dep
  show (d.canLay0 && decide (d.depth ≤ 64)) = true
  rw [h.lay]
  simp
  omega
theorem rp_Rs {n : Nat} {rs : List Rat} (h : ∀ q ∈ rs, Sz n q) (hn : n ≤ 1900) : Rp 2 (3 * rs.length) (.list (rs.map dR)) := rp_lst (rp_map fun q hq => rp_dR (h q hq) hn)
theorem any_dR {rs : List Rat} {q : Rat} : ((rs.map dR).any fun z => PyData.eqv z (dR q)) = decide (q ∈ rs) := by
  induction rs with
  | nil => simp
  | cons r t ih =>
    rw [List.map_cons, List.any_cons, ih, eqv_dR]
    by_cases c : r = q
    · simp [c]
    · have c2 : ¬ q = r := fun z => c z.symm
      simp [c, c2]
/-! ### sorted lists of ratios -/
theorem ins_sorted {q : Rat} : ∀ {rs : List Rat}, rs.Pairwise (· < ·) → q ∉ rs → (rs.take (rs.filter fun r => decide (r < q)).length ++ [q] ++ rs.drop (rs.filter fun r => decide (r < q)).length).Pairwise (· < ·)
  | [], _, _ => by simp
  | r :: t, h, hn => by
    obtain ⟨h1, h2⟩ := List.pairwise_cons.mp h
    have hq : ¬ q = r := fun z => hn (by simp [z])
    have hn2 : q ∉ t := fun z => hn (List.mem_cons_of_mem _ z)
    by_cases c : r < q
    · have e : (List.filter (fun r => decide (r < q)) (r :: t)).length = (t.filter fun r => decide (r < q)).length + 1 := by simp [c]
      rw [e, List.take_succ_cons, List.drop_succ_cons]
      refine List.pairwise_cons.mpr ⟨fun x hx => ?_, ins_sorted h2 hn2⟩
      rcases List.mem_append.mp hx with hx | hx
      · rcases List.mem_append.mp hx with hx | hx
        · exact h1 x (List.mem_of_mem_take hx)
        · rw [List.mem_singleton.mp hx]; exact c
      · exact h1 x (List.mem_of_mem_drop hx)
    · have c2 : q < r := by grind
      have e : (List.filter (fun r => decide (r < q)) (r :: t)).length = 0 := by
        rw [List.length_eq_zero_iff, List.filter_eq_nil_iff]
        intro x hx
        rcases List.mem_cons.mp hx with rfl | hx
        · simp [c]
        · have := h1 x hx
          have : ¬ x < q := by grind
          simp [this]
      rw [e]
      refine List.pairwise_cons.mpr ⟨fun x hx => ?_, h⟩
      rcases List.mem_cons.mp hx with rfl | hx
      · exact c2
      · have := h1 x hx
        grind
theorem ins_mem {q x : Rat} {rs : List Rat} {n : Nat} : x ∈ rs.take n ++ [q] ++ rs.drop n ↔ x = q ∨ x ∈ rs := by
  have h : rs.take n ++ rs.drop n = rs := List.take_append_drop n rs
  have : x ∈ rs ↔ x ∈ rs.take n ∨ x ∈ rs.drop n := by rw [← List.mem_append, h]
  rw [this]
  simp only [List.mem_append, List.mem_singleton]
  grind
theorem sorted_unique : ∀ {rs ts : List Rat}, rs.Pairwise (· < ·) → ts.Pairwise (· < ·) → (∀ q, q ∈ rs ↔ q ∈ ts) → rs = ts
  | [], [], _, _, _ => rfl
  | [], t :: ts, _, _, h => by have := (h t).mpr List.mem_cons_self; cases this
  | r :: rs, [], _, _, h => by have := (h r).mp List.mem_cons_self; cases this
  | r :: rs, t :: ts, h1, h2, h => by
    obtain ⟨a1, b1⟩ := List.pairwise_cons.mp h1
    obtain ⟨a2, b2⟩ := List.pairwise_cons.mp h2
    have e : r = t := by
      have m1 := (h r).mp List.mem_cons_self
      have m2 := (h t).mpr List.mem_cons_self
      rcases List.mem_cons.mp m1 with e | m1
      · exact e
      · rcases List.mem_cons.mp m2 with e | m2
        · exact e.symm
        · have := a1 t m2
          have := a2 r m1
          grind
    subst e
    have : rs = ts := sorted_unique b1 b2 fun q => by
      have hq := h q
      simp only [List.mem_cons] at hq
      constructor
      · intro hm
        have := a1 q hm
        rcases hq.mp (.inr hm) with e | e
        · subst e; grind
        · exact e
      · intro hm
        have := a2 q hm
        rcases hq.mpr (.inr hm) with e | e
        · subst e; grind
        · exact e
    rw [this]
end M3
/-! ### all(.. for c in text), any(..): the table of the def's code object grows -/
namespace M3
open PySem PySem.Spec PyProof.Rows L2
variable [NmC]
section
variable {K : PySem.W.Frag} {W : WX} {δ : Sto} {ex : XP} {post : Vw → Sto → Prop} {te : TE} {P : Addr} {pb : Nat → Bool} {H H' : Hp}
theorem tabG_of (h : Tb H P) : GxR.TabG H P := by
  obtain ⟨ps, h, t, _⟩ := h
  exact ⟨ps, h, t⟩
theorem same_tabbed (hn : ∀ q, ¬ NmC.lm P q) (h : Tb H P) (t : GxR.Tabbed P H H') : Same H H' := fun b o e => by
  by_cases c : b = P
  · subst c
    obtain ⟨ps, h, t', _⟩ := h
    rw [e] at h
    cases h
    obtain ⟨⟨ps', h1, h2⟩, _⟩ := t
    exact .inr ⟨⟨ps, rfl, t'⟩, ps', h1, h2, fun q hq => absurd hq (hn q)⟩
  · exact .inl (by rw [t.2 b c]; exact e)
theorem ex_allS (hn : ∀ q, ¬ NmC.lm P q) (hP : TK K P) (h : EX K W te δ (fun w δ' => ∃ a : Str, w = .d (.str a) ∧ post (.d (.bool (a.cps.toList.all pb))) δ') ex) : EX K W (GxR.tAllS P pb te) δ post ex :=
  fun m H σ I Q k k2 => h m H σ I _ (fun v w H1 δ1 g1 s1 I1 o1 ⟨a, e, q⟩ => by
    subst e
    cases dd_str o1
    refine ⟨a, rfl, tabG_of (I1.tab.has P hP), fun H2 t => ?_⟩
    have sm := same_tabbed hn (I1.tab.has P hP) t
    exact k (.bl _) (.d (.bool _)) H2 δ1 (g1.trans (.of_same I1 sm)) s1 (I1.same sm) (.bl _) q) k2
theorem ex_anyS (hn : ∀ q, ¬ NmC.lm P q) (hP : TK K P) (h : EX K W te δ (fun w δ' => ∃ a : Str, w = .d (.str a) ∧ post (.d (.bool (a.cps.toList.any pb))) δ') ex) : EX K W (GxR.tAnyS P pb te) δ post ex :=
  fun m H σ I Q k k2 => h m H σ I _ (fun v w H1 δ1 g1 s1 I1 o1 ⟨a, e, q⟩ => by
    subst e
    cases dd_str o1
    refine ⟨a, rfl, tabG_of (I1.tab.has P hP), fun H2 t => ?_⟩
    have sm := same_tabbed hn (I1.tab.has P hP) t
    exact k (.bl _) (.d (.bool _)) H2 δ1 (g1.trans (.of_same I1 sm)) s1 (I1.same sm) (.bl _) q) k2
end
/-! ### is None, is not None -/
def isNon : PyData → Bool
  | .none => true
  | _ => false
section
variable {K : PySem.W.Frag} {δ : Sto} {post : Vw → Sto → Prop}
theorem non_iff {H : Hp} {v : V} {d : PyData} (h : Dd K H v d) : decide (v = V.non) = isNon d := by
  cases h <;> simp [isNon]
theorem rx_isN {d : PyData} (q : post (.d (.bool (isNon d))) δ) : RX K (fun x y H Q => y = V.non ∧ Q (V.bl (decide (x = V.non))) H) (.d d) (.d .none) δ post := fun m H σ v1 v2 I o1 o2 Q k => by
  cases dd_none o2
  exact ⟨rfl, by rw [non_iff o1]; exact k _ (.d (.bool _)) H (.refl H) (.bl _) q⟩
theorem rx_notN {d : PyData} (q : post (.d (.bool (!isNon d))) δ) : RX K (fun x y H Q => y = V.non ∧ Q (V.bl (!decide (x = V.non))) H) (.d d) (.d .none) δ post := fun m H σ v1 v2 I o1 o2 Q k => by
  cases dd_none o2
  exact ⟨rfl, by rw [non_iff o1]; exact k _ (.d (.bool _)) H (.refl H) (.bl _) q⟩
end
end M3
/-! ### list({x: True for x in e}), e's items tuples of ints and texts: the different ones, in the order of the first -/
namespace M3
open PySem PySem.Spec PyProof.Rows L2
variable [NmC]

def putT (acc : List (List L2.Key × Addr × Value)) (p : List L2.Key × Addr) : List (List L2.Key × Addr × Value) := storedH acc p.1 p.2 (.bool true)
def manyT (ps : List (List L2.Key × Addr)) : List (List L2.Key × Addr × Value) := ps.foldl putT []
theorem putT_len (acc : List (List L2.Key × Addr × Value)) (p : List L2.Key × Addr) : (putT acc p).length ≤ acc.length + 1 := by
  unfold putT storedH
  split <;> simp
theorem foldT_len : ∀ (ps : List (List L2.Key × Addr)) (acc : List (List L2.Key × Addr × Value)), (ps.foldl putT acc).length ≤ acc.length + ps.length
  | [], acc => by simp
  | p :: ps, acc => by
    have h1 := foldT_len ps (putT acc p)
    have h2 := putT_len acc p
    simp only [List.foldl_cons, List.length_cons] at *
    omega
theorem manyT_len (ps : List (List L2.Key × Addr)) : (manyT ps).length ≤ ps.length := by
  have := foldT_len ps []
  simpa [manyT] using this
theorem manyT_snoc {ps : List (List L2.Key × Addr)} {i : Nat} {p : List L2.Key × Addr} (h : ps[i]? = some p) : manyT (ps.take (i + 1)) = putT (manyT (ps.take i)) p := by
  unfold manyT
  rw [List.take_add_one, h]
  simp [List.foldl_append]
/-- the first ones -/
def firsts {α : Type} [DecidableEq α] : List α → List α → List α
  | acc, [] => acc
  | acc, x :: xs => firsts (if x ∈ acc then acc else acc ++ [x]) xs
theorem firsts_mem {α : Type} [DecidableEq α] : ∀ (xs acc : List α) (x : α), x ∈ firsts acc xs ↔ x ∈ acc ∨ x ∈ xs
  | [], acc, x => by simp [firsts]
  | y :: ys, acc, x => by
    unfold firsts
    rw [firsts_mem ys]
    by_cases c : y ∈ acc
    · rw [if_pos c, List.mem_cons]
      exact ⟨fun h => h.elim .inl fun h => .inr (.inr h), fun h => h.elim .inl fun h => h.elim (fun e => .inl (e ▸ c)) .inr⟩
    · rw [if_neg c, List.mem_cons, List.mem_append, List.mem_singleton, or_assoc]
theorem firsts_nodup {α : Type} [DecidableEq α] : ∀ (xs acc : List α), acc.Nodup → (firsts acc xs).Nodup
  | [], acc, h => h
  | y :: ys, acc, h => by
    unfold firsts
    refine firsts_nodup ys _ ?_
    by_cases c : y ∈ acc
    · rw [if_pos c]; exact h
    · rw [if_neg c, List.nodup_append]
      refine ⟨h, by simp, fun a ha b hb e => ?_⟩
      have : b = y := by simpa using hb
      exact c (by rw [← this, ← e]; exact ha)
theorem firsts_len {α : Type} [DecidableEq α] : ∀ (xs acc : List α), (firsts acc xs).length ≤ acc.length + xs.length
  | [], acc => by simp [firsts]
  | y :: ys, acc => by
    unfold firsts
    have := firsts_len ys (if y ∈ acc then acc else acc ++ [y])
    have h2 : (if y ∈ acc then acc else acc ++ [y]).length ≤ acc.length + 1 := by split <;> simp
    simp only [List.length_cons]
    omega
theorem putT_keys (acc : List (List L2.Key × Addr × Value)) (p : List L2.Key × Addr) : (putT acc p).map (·.1) = firsts (acc.map (·.1)) [p.1] := by
  unfold putT storedH firsts firsts
  have hk : (atKey acc p.1).isSome = true ↔ p.1 ∈ acc.map (·.1) := by
    unfold atKey
    rw [Option.isSome_map, List.find?_isSome]
    constructor
    · rintro ⟨x, hx, e⟩
      exact List.mem_map.mpr ⟨x, hx, of_decide_eq_true e⟩
    · intro h
      obtain ⟨x, hx, e⟩ := List.mem_map.mp h
      exact ⟨x, hx, decide_eq_true e⟩
  by_cases c : (atKey acc p.1).isSome = true
  · rw [if_pos c, if_pos (hk.mp c), keys_map_putAt]
  · rw [if_neg c, if_neg (fun z => c (hk.mpr z))]
    simp
theorem foldT_keys : ∀ (ps : List (List L2.Key × Addr)) (acc : List (List L2.Key × Addr × Value)), (ps.foldl putT acc).map (·.1) = firsts (acc.map (·.1)) (ps.map (·.1))
  | [], acc => rfl
  | p :: ps, acc => by
    rw [List.foldl_cons, foldT_keys ps, putT_keys, List.map_cons]
    rfl
theorem manyT_keys (ps : List (List L2.Key × Addr)) : (manyT ps).map (·.1) = firsts [] (ps.map (·.1)) := foldT_keys ps []
theorem foldT_from : ∀ (ps : List (List L2.Key × Addr)) (acc : List (List L2.Key × Addr × Value)) (e : List L2.Key × Addr × Value), e ∈ ps.foldl putT acc → (∃ f ∈ acc, f.1 = e.1 ∧ f.2.1 = e.2.1) ∨ (e.1, e.2.1) ∈ ps
  | [], acc, e, h => .inl ⟨e, h, rfl, rfl⟩
  | p :: ps, acc, e, h => by
    rw [List.foldl_cons] at h
    rcases foldT_from ps _ e h with ⟨f, hf, e1, e2⟩ | h
    · unfold putT storedH at hf
      split at hf
      · obtain ⟨g, hg, rfl⟩ := List.mem_map.mp hf
        refine .inl ⟨g, hg, ?_, ?_⟩
        · rw [← e1]; unfold putAt; split <;> rfl
        · rw [← e2]; unfold putAt; split <;> rfl
      · rcases List.mem_append.mp hf with hf | hf
        · exact .inl ⟨f, hf, e1, e2⟩
        · have : f = (p.1, p.2, .bool true) := by simpa using hf
          subst this
          exact .inr (by rw [← e1, ← e2]; exact List.mem_cons_self ..)
    · exact .inr (List.mem_cons_of_mem _ h)
theorem manyT_from {ps : List (List L2.Key × Addr)} {e : List L2.Key × Addr × Value} (h : e ∈ manyT ps) : (e.1, e.2.1) ∈ ps := by
  rcases foldT_from ps [] e h with ⟨f, hf, _⟩ | h
  · cases hf
  · exact h

section
variable {X : Cx} {pins : List (Addr × Obj)} {σ : L2.St} {H : Hp} {s : Shared}
theorem key_raw {b : Addr} {ks : List L2.Key} (I : Inv X pins σ H s) (h : SqT X.K H b (ks.map kV)) : (tupleKind (mixKind X.prog X.w)).is s.heap ks b := by
  obtain ⟨its, r, ⟨o, h1, h2, n, h3⟩, _⟩ := I.tuple h
  exact ⟨o, its.toArray, n, h1, h2, h3, by simpa using items_are r⟩
theorem dictH_at {P : Program} {w : World} {h h' : Heap} {D : Addr} {es : List (List L2.Key × Addr × Value)} {o : Obj} (d : h.DictOfH (tupleKind (mixKind P w)) D es) (e0 : h.get? D = some o) (e : h'.get? D = some o)
    (k : ∀ x ∈ es, (tupleKind (mixKind P w)).is h' x.1 x.2.1) : h'.DictOfH (tupleKind (mixKind P w)) D es := by
  obtain ⟨o', fs, ep, h1, h2, h3, h4, h5, h6⟩ := d
  rw [e0] at h1
  cases h1
  exact ⟨o, fs, ep, e, h2, h3, h4, k, h6⟩
/-- the items of a walked list: addresses with their keys -/
def KeyedL (K : PySem.W.Frag) (H : Hp) (ps : List (List L2.Key × Addr)) : Prop := ∀ p ∈ ps, SqT K H p.2 (p.1.map kV)
/-- {x: True for x in e}: the dict stands at D, untracked -/
def DictAtT (X : Cx) (pins : List (Addr × Obj)) (σ : L2.St) (Qd : List (List L2.Key × Addr) → Hp → Prop) (v : Value) (s' : Shared) : Prop :=
  ∃ (D : Addr) (ps : List (List L2.Key × Addr)) (H1 : Hp), v = .ref D ∧ Inv X pins σ H1 s' ∧ FpOk X pins H1 D ∧ s'.heap.DictOfH (tupleKind (mixKind X.prog X.w)) D (manyT ps) ∧ (D == sysModules) = false ∧ KeyedL X.K H1 ps ∧ ps.length ≤ sizeLine ∧ Qd ps H1
def tKeyed (K : PySem.W.Frag) (tl : TE) (Qd : List (List L2.Key × Addr) → Hp → Prop) : L2.St → Hp → Prop := fun σ H => iList K tl σ H fun J H1 => ∃ a ps, J = Itl K a ∧ SqL K H1 a (ps.map fun p => V.ref p.2) ∧ KeyedL K H1 ps ∧ Qd ps H1
theorem dT_core {kx vx tg iter : Expr} {scope : Scope} {own : List (Str × Nat)} {pos : Pos} {tl : TE} {i0 : Nat} {Qd : List (List L2.Key × Addr) → Hp → Prop} (hc : X.calm = true) (hN : X.N.Nodup) (hu : X.A.units < cLine)
    (I : Inv X pins σ H s) (hl : PE X iter tl) (ok : BlkOk X.N X.env.scope scope own) (hi0 : i0 ∈ own.map (·.2)) (hlen : i0 < σ.length)
    (hg : ∀ (s : Shared) (H : Hp) (C : Addr) (cl : List (Str × Addr)) (fp : List Addr), PG (X.blk s H scope (compEnvC scope cl C X.env) fp) tg (gName i0))
    (hk : ∀ (s : Shared) (H : Hp) (C : Addr) (cl : List (Str × Addr)) (fp : List Addr), PE (X.blk s H scope (compEnvC scope cl C X.env) fp) kx (tVar i0))
    (he : ∀ (s : Shared) (H : Hp) (C : Addr) (cl : List (Str × Addr)) (fp : List Addr), PE (X.blk s H scope (compEnvC scope cl C X.env) fp) vx (tC (.bl true))) (hs : ∀ x, foldedSetIterable iter X.env x = pure x)
    (h : tKeyed X.K tl Qd σ H) :
    wpAny (model X.prog X.w) X.A (eval (.DictComp kx vx [⟨tg, iter, [], 0⟩] scope pos) X.env) (DictAtT X pins σ Qd) X.xe s := by
  have frees : ∀ y ∈ scope.names, y.2 = .free → ∃ c, X.env.cells.lookup y.1 = some c := fun y hy e => (ok.free y hy e).elim (fun k => I.ok.has _ (.inl k)) fun k => I.ok.has _ (.inr k)
  rw [arm_eval_DictComp]
  refine wpAny_comprehension_free rfl hs (closure_ok frees) ok.kind (fun y hy e => by rw [ok.uniq y hy, e]) ?_
  refine thn ((pi_list (tg := tg) hl).run pins s σ H _ I h) fun xv s1 hx => thn hx fun itv s2 h2 => ?_
  obtain ⟨it, fp, tn, J, H2, e, I2, T, st2, f2, a, ps, rfl, hsq, hkey, hqd⟩ := h2
  subst e
  have hps : ps.length ≤ sizeLine := by
    obtain ⟨_, _, _, z⟩ := I2.list hsq
    rwa [List.length_map] at z
  refine wpAny_newObj_type (newEnv_comp ?_)
  generalize eD : s2.heap.objs.size = D
  have hDn : H2 D = none := I2.hok.fresh (Nat.le_of_eq eD)
  have fD : FpOk X pins H2 D := I2.fpOk (Nat.le_of_eq eD) hDn
  have small : ∀ b ∈ fp, b < D := fun b hb => by
    obtain ⟨o, q, _⟩ := T.obj _ _ st2 b hb
    rw [← eD]
    exact Heap.lt_size q
  have big := I2.big
  generalize es3 : ({ s2 with heap := s2.heap.push { cls := .type "dict", data := .dict #[] } } : Shared) = s3
  have hp3 : s3.heap = s2.heap.push { cls := .type "dict", data := .dict #[] } := by rw [← es3]
  have I3 : Inv X pins σ H2 s3 := by
    rw [← es3]
    exact I2.kept (t' := s2.toks) fun b o q => Heap.get?_push_of_some _ q
  have d3 : s3.heap.DictOfH (tupleKind (mixKind X.prog X.w)) D [] := by
    rw [hp3, ← eD]
    exact Heap.DictOfH.new _
  have sz3 : s3.heap.objs.size = D + 1 := by rw [hp3, Heap.size_push, eD]
  have fp3 : ∀ b ∈ D :: fp, FpOk X pins H2 b ∧ b < s3.heap.objs.size := fun b hb => by
    rw [sz3]
    rcases List.mem_cons.mp hb with rfl | hb
    · exact ⟨fD, Nat.lt_succ_self _⟩
    · exact ⟨f2 b hb, Nat.lt_succ_of_lt (small b hb)⟩
  have I4 := block_start I3 ok hN fp3
  have ts4 : tn 0 (pushCells (s3.heap.push { cls := .type "dict", data := .dict #[] }) scope.names) := T.keep _ _ _ st2 fun b _ o q => pushCells_keeps _ _ _ _ (Heap.get?_push_of_some _ (by rw [hp3]; exact Heap.get?_push_of_some _ q))
  have nfp : ∀ b ∈ D :: fp, H2 b = none := fun b hb => (fp3 b hb).1.1
  have k4 : ∀ b o, s3.heap.get? b = some o → (pushCells (s3.heap.push { cls := .type "dict", data := .dict #[] }) scope.names).get? b = some o := fun b o q => pushCells_keeps _ _ _ _ (Heap.get?_push_of_some _ q)
  have pg := hg s3 H2 s3.heap.objs.size (cellsFrom (s3.heap.objs.size + 1) scope.names (cloFrom X.env.cells scope.names [])) (D :: fp)
  have pk := hk s3 H2 s3.heap.objs.size (cellsFrom (s3.heap.objs.size + 1) scope.names (cloFrom X.env.cells scope.names [])) (D :: fp)
  have pv := he s3 H2 s3.heap.objs.size (cellsFrom (s3.heap.objs.size + 1) scope.names (cloFrom X.env.cells scope.names [])) (D :: fp)
  show codeAny _ _ (.compStart (.DictComp kx vx [⟨tg, iter, [], 0⟩] scope pos) 0 (.ref it) (.ref D) (compEnvC scope (cellsFrom (s3.heap.objs.size + 1) scope.names (cloFrom X.env.cells scope.names [])) s3.heap.objs.size X.env)) (compPost (model X.prog X.w) X.A X.xe none (DictAtT X pins σ Qd) (.ref D) s3.heap.objs.size) { s3 with heap := pushCells (s3.heap.push { cls := .type "dict", data := .dict #[] }) scope.names }
  generalize ece : compEnvC scope (cellsFrom (s3.heap.objs.size + 1) scope.names (cloFrom X.env.cells scope.names [])) s3.heap.objs.size X.env = ce at I4 pg pk pv ⊢
  have cL : ce.locals = s3.heap.objs.size := by subst ece; rfl
  have d4 : (pushCells (s3.heap.push { cls := .type "dict", data := .dict #[] }) scope.names).DictOfH (tupleKind (mixKind X.prog X.w)) D [] := by
    obtain ⟨o, fs, ep, q1, q2⟩ := d3
    exact ⟨o, fs, ep, k4 _ _ q1, q2.1, q2.2.1, q2.2.2.1, (fun x hx => nomatch hx), by simp⟩
  generalize es4 : ({ s3 with heap := pushCells (s3.heap.push { cls := .type "dict", data := .dict #[] }) scope.names } : Shared) = s4 at I4 ⊢
  have ts4' : tn 0 s4.heap := by rw [← es4]; exact ts4
  have d4' : s4.heap.DictOfH (tupleKind (mixKind X.prog X.w)) D (manyT (ps.take 0)) := by rw [← es4]; exact d4
  clear ts4 d4
  -- what a record of the walk may do in the block
  have stat : ∀ {pl : List (Addr × Obj)} {σ' : L2.St} {s' : Shared}, Inv (X.blk s3 H2 scope ce (D :: fp)) pl σ' H2 s' → ∀ b ∈ D :: fp, (∀ p ∈ pl, p.1 ≠ b) → FpOk (X.blk s3 H2 scope ce (D :: fp)) pl H2 b := fun {pl σ' s'} J b hb np =>
    ⟨nfp b hb, (J.ok.exf b hb).1, J.ok.exfs b hb, .inl hb, fun x c q => (J.ok.exf b hb).2 x c q, fun p hp => np p (by simpa using hp)⟩
  have noDict : ∀ {o : Obj} {fs : Array DictEntry} {ep : Nat}, o.data = .dict fs ep → ∀ v, o.data ≠ .cell v := fun q v z => by rw [q] at z; cases z
  have pinD : ∀ {σ' : L2.St} {s' : Shared} {es : List (List L2.Key × Addr × Value)}, Inv (X.blk s3 H2 scope ce (D :: fp)) [] σ' H2 s' → s'.heap.DictOfH (tupleKind (mixKind X.prog X.w)) D es → Inv (X.blk s3 H2 scope ce (D :: fp)) ([] ++ pinsAt [D] s'.heap) σ' H2 s' := fun {σ' s' es} J ⟨o, fs, ep, q1, _, q3, _⟩ =>
    J.pinned (fun b hb => stat J b (by rw [List.mem_singleton.mp hb]; exact List.mem_cons_self ..) fun p hp => nomatch hp) fun b hb => by
      rw [List.mem_singleton.mp hb]
      exact ⟨o, q1, noDict q3⟩
  have ofD : ∀ {h : Heap} {p : Addr × Obj}, p ∈ pinsAt [D] h → p.1 = D := fun {h p} hp => List.mem_singleton.mp (of_pinsAt hp).1
  have nD : D ∉ fp := fun z => Nat.lt_irrefl _ (small D z)
  have keyed : ∀ {σ' : L2.St} {s' : Shared} {i : Nat} {pl : List (Addr × Obj)}, Inv (X.blk s3 H2 scope ce (D :: fp)) pl σ' H2 s' → ∀ x ∈ manyT (ps.take i), (tupleKind (mixKind X.prog X.w)).is s'.heap x.1 x.2.1 := fun {σ' s' i pl} J x hx =>
    key_raw (X := X.blk s3 H2 scope ce (D :: fp)) J (hkey _ (List.mem_of_mem_take (manyT_from hx)))
  have loop : codeAny (model X.prog X.w) X.A (.compLoop (.DictComp kx vx [⟨tg, iter, [], 0⟩] scope pos) 0 (.ref it) (.ref D) ce) (compPost (model X.prog X.w) X.A X.xe none (DictAtT X pins σ Qd) (.ref D) s3.heap.objs.size) s4 := by
    refine compLoop_anyD (fun n s' => ∃ i, n = ps.length - i ∧ i ≤ ps.length ∧ Inv (X.blk s3 H2 scope ce (D :: fp)) [] (wipe σ (own.map (·.2))) H2 s' ∧ tn i s'.heap ∧ s'.heap.DictOfH (tupleKind (mixKind X.prog X.w)) D (manyT (ps.take i))) ?_ ps.length ⟨0, rfl, Nat.zero_le _, I4, ts4', d4'⟩
    rintro n s5 ⟨i, rfl, hi, I5, ts5, d5⟩
    have I5p := pinD I5 d5
    obtain ⟨oD, fD5, epD, gD, xD, dD, _⟩ := id d5
    have inD : (D, oD) ∈ pinsAt [D] s5.heap := mem_pinsAt (List.mem_cons_self ..) gD
    have stp : ∀ {σ' : L2.St} {s' : Shared}, Inv (X.blk s3 H2 scope ce (D :: fp)) ([] ++ pinsAt [D] s5.heap) σ' H2 s' → ∀ b ∈ fp, FpOk (X.blk s3 H2 scope ce (D :: fp)) ([] ++ pinsAt [D] s5.heap) H2 b := fun J b hb => stat J b (List.mem_cons_of_mem _ hb) fun p hp z => by
      rw [List.nil_append] at hp
      exact nD (by rw [← ofD hp, z]; exact hb)
    by_cases hlt : i < ps.length
    · obtain ⟨p, hp⟩ : ∃ p, ps[i]? = some p := ⟨_, List.getElem?_eq_getElem hlt⟩
      have hx : (ps.map fun p => V.ref p.2)[i]? = some (V.ref p.2) := by rw [List.getElem?_map, hp]; rfl
      refine thnF (T.item (X.blk s3 H2 scope ce (D :: fp)) rfl rfl rfl hc i _ s5 _ H2 (fun _ _ => False) I5p (stp I5p) ts5 ⟨_, _, hsq, hx⟩) fun r s6 ⟨u, hr, h6⟩ => ?_
      subst hr
      refine thnF h6 fun _ s7 ⟨x, H7, I7, r7, y7, ts7, n7⟩ => ?_
      obtain ⟨e7, y7⟩ := y7
      subst e7
      have ex : x = V.ref p.2 := Option.some.inj ((y7 _ hsq).symm.trans hx)
      subst ex
      have I7p := I7.pinned (stp I7) (T.obj _ _ ts7)
      refine thnF (pg.run _ s7 _ H7 _ u (fun σ' H' => σ' = (wipe σ (own.map (·.2))).set i0 (some (V.ref p.2)) ∧ H' = H7) I7p r7 ⟨rfl, rfl⟩) fun _ s8 ⟨σ8, H8, I8, e8, e8'⟩ => ?_
      subst e8 e8'
      refine wpAny_tests_nil ?_
      rw [if_pos rfl]
      have at8 : ((wipe σ (own.map (·.2))).set i0 (some (V.ref p.2)))[i0]? = some (some (V.ref p.2)) := List.getElem?_set_self (by rw [wipe_length]; exact hlen)
      refine thnF (pk.run _ s8 _ H8 (fun v H' => v = V.ref p.2 ∧ H' = H8) I8 ⟨_, at8, rfl, rfl⟩) fun z s9 ⟨yk, H9, I9, r9, e9, e9'⟩ => ?_
      subst e9 e9'
      refine thnF (pv.run _ s9 _ H9 (fun v H' => v = V.bl true ∧ H' = H9) I9 ⟨rfl, rfl⟩) fun z2 s10 ⟨yv, H10, I10, r10, e10, e10'⟩ => ?_
      subst e10 e10'
      cases r9
      cases r10
      have gD10 : s10.heap.get? D = some oD := (I10.pin (D, oD) (List.mem_append_right _ (List.mem_append_left _ (List.mem_append_right _ inD)))).1
      have d10 : s10.heap.DictOfH (tupleKind (mixKind X.prog X.w)) D (manyT (ps.take i)) := dictH_at d5 gD gD10 (keyed I10)
      have pinF : ∀ b ∈ fp, ∀ o, s7.heap.get? b = some o → s10.heap.get? b = some o := fun b hb o q => (I10.pin (b, o) (List.mem_append_right _ (List.mem_append_right _ (mem_pinsAt hb q)))).1
      have I10u : Inv (X.blk s3 H10 scope ce (D :: fp)) [] _ H10 s10 := (I10.unpinned).unpinned
      refine wpAny_dictSet_heap (k := p.1) hu (key_raw (X := X.blk s3 H10 scope ce (D :: fp)) I10 (hkey p (List.mem_of_getElem? hp))) d10 (fun h' d' sb => ?_) (Nat.le_trans (manyT_len _) (by rw [List.length_take]; omega))
      have kb : ∀ b o, b ≠ D → s10.heap.get? b = some o → h'.get? b = some o := fun b o hb q => sb.extBut b o hb q
      have fD10 := stat I10u D (List.mem_cons_self ..) fun p hp => nomatch hp
      have I11 := I10u.turned (t' := s10.toks + (tupleKind (mixKind X.prog X.w)).draws p.1) kb fD10.1 fD10.2.1 fD10.2.2.2.1 fD10.2.2.2.2.1 fD10.2.2.2.2.2
      refine ⟨ps.length - (i + 1), by omega, i + 1, rfl, hlt, I11.weak (by rw [List.length_set]) (fun j v q => ?_), ?_, ?_⟩
      · obtain ⟨q1, q2⟩ := wipe_some q
        have : i0 ≠ j := fun z => q2 (by rw [← z]; exact hi0)
        rw [List.getElem?_set_ne this]
        exact q
      · refine T.keep _ _ _ ts7 fun b hb o q => kb b o (fun z => nD (by rw [← z]; exact hb)) (pinF b hb o q)
      · rw [manyT_snoc hp]
        exact d'
    · have ei : i = ps.length := by omega
      subst ei
      refine thnF (T.done (X.blk s3 H2 scope ce (D :: fp)) rfl rfl rfl hc ps.length _ s5 _ H2 (fun _ _ => False) I5p (stp I5p) ts5 ⟨_, hsq, by rw [List.length_map]; exact Nat.le_refl _⟩) fun r s6 ⟨hr, I6⟩ => ?_
      subst hr
      have I7 : Inv X pins σ H2 s6 := I3.call' (ch := D :: fp) I6.os I6.base I6.hok I6.bare fun b hb => ⟨(fp3 b hb).1.2.2.2.1, (fp3 b hb).1.2.1, (fp3 b hb).1.2.2.2.2.1, (fp3 b hb).1.2.2.2.2.2⟩
      have gD6 : s6.heap.get? D = some oD := (I6.pin (D, oD) (List.mem_append_right _ (List.mem_append_right _ inD))).1
      have d6 : s6.heap.DictOfH (tupleKind (mixKind X.prog X.w)) D (manyT (ps.take ps.length)) := dictH_at d5 gD gD6 (keyed I6)
      rw [List.take_length] at d6
      have nC : H2 s3.heap.objs.size = none := by
        have z : H2 ce.locals = none := I6.free
        rw [cL] at z
        exact z
      obtain ⟨mm, hn, _⟩ := I6.loc
      have hn : s6.heap.Ns ce.locals mm := hn
      rw [cL] at hn
      have fC : FpOk X pins H2 s3.heap.objs.size := I3.fpOk (Nat.le_refl _) nC
      obtain ⟨f0, f1, f3, f4, f5, f6⟩ := fC
      refine ⟨mm, hn, fun h'' sb => ?_⟩
      have kC : ∀ b o, b ≠ s3.heap.objs.size → s6.heap.get? b = some o → h''.get? b = some o := fun b o hb q => (sb.2 b hb).trans q
      have I8 : Inv X pins σ H2 { s6 with heap := h'' } := I7.turned (t' := s6.toks) kC f0 f1 f4 f5 f6
      refine ⟨D, ps, H2, rfl, I8, fD, ?_, ?_, hkey, hps, hqd⟩
      · exact dictH_at d6 gD6 (kC D oD (by rw [sz3]; exact Nat.ne_of_lt (Nat.lt_succ_self _)) gD6) fun x hx => key_raw I8 (hkey _ (manyT_from hx))
      · rw [← eD]
        exact beq_eq_false_iff_ne.mpr (Ne.symm (Nat.ne_of_lt big))
  exact codeAny_compStart_dict loop (T.self X.A 0 _ _ _ ts4' loop)
end

section
variable {X : Cx}
/-- list({x: True for x in e}) -/
def tListD (K : PySem.W.Frag) (tl : TE) : TE := fun σ H Q => tKeyed K tl (fun ps H1 => ∀ q, H1 q = none → Q (.ref q) (upd H1 q (.lst ((manyT ps).map fun e => V.ref e.2.1)))) σ H
theorem vals_refs {β : Type} (f : β → Addr) : ∀ l : List β, Vals (l.map fun e => V.ref (f e)) (l.map fun e => Value.ref (f e))
  | [] => .nil
  | _ :: l => .cons rfl (vals_refs f l)
theorem pe_listDict {kx vx tg iter : Expr} {scope : Scope} {own : List (Str × Nat)} {p pos pos2 : Pos} {tl : TE} {i0 : Nat} (hc : X.calm = true) (hN : X.N.Nodup) (hu : X.A.units < cLine) (hgl : Gl X "list") (hm : X.mg "list" = none)
    (hl : PE X iter tl) (ok : BlkOk X.N X.env.scope scope own) (hi0 : i0 ∈ own.map (·.2)) (hlen : i0 < X.N.length)
    (hg : ∀ (s : Shared) (H : Hp) (C : Addr) (cl : List (Str × Addr)) (fp : List Addr), PG (X.blk s H scope (compEnvC scope cl C X.env) fp) tg (gName i0))
    (hk : ∀ (s : Shared) (H : Hp) (C : Addr) (cl : List (Str × Addr)) (fp : List Addr), PE (X.blk s H scope (compEnvC scope cl C X.env) fp) kx (tVar i0))
    (he : ∀ (s : Shared) (H : Hp) (C : Addr) (cl : List (Str × Addr)) (fp : List Addr), PE (X.blk s H scope (compEnvC scope cl C X.env) fp) vx (tC (.bl true))) (hs : ∀ x, foldedSetIterable iter X.env x = pure x := by intro _; rfl)
    (nb : starEach [.DictComp kx vx [⟨tg, iter, [], 0⟩] scope pos2] X.env = (false, eval (.DictComp kx vx [⟨tg, iter, [], 0⟩] scope pos2) X.env) :: starEach [] X.env := by rfl) :
    PE X (.Call (.Name "list" p) [.DictComp kx vx [⟨tg, iter, [], 0⟩] scope pos2] [] pos) (tListD X.K tl) := by
  refine ⟨fun pins s σ H Q I h => ?_⟩
  have hln : i0 < σ.length := by rw [I.len]; exact hlen
  refine Call_ (ld_blt I hgl hm boot_list (PyProof.Rows.callWith_type1 (args_cons (thn (dT_core hc hN hu I hl ok hi0 hln hg hk he hs h) fun x s1 ⟨D, ps, H1, ex, I1, fD, dh, lo, hkey, hz, q⟩ => args_nil ?_) nb) nb))
  subst ex
  obtain ⟨o, es, ep, g1, g2, g3, g4, g5, g6⟩ := dh
  have sz := size_of_entries g4
  refine PySem.W.kdl_call (KdlSrc.rawDict (d := D) (es := es) (ep := ep) lo) (I1.ok.hd hc) ⟨o, g1, g2, g3⟩ (by rw [sz]; exact Nat.le_trans (manyT_len ps) hz) fun h' tk acc c' kp hL hi => ?_
  have ea : acc.toList = (manyT ps).map fun e => Value.ref e.2.1 := by
    refine List.ext_getElem? fun j => ?_
    have hs1 : acc.size = es.size := hi.1
    by_cases c : j < es.size
    · have hj : acc[j]? = some acc[j] := Array.getElem?_eq_getElem (by omega)
      obtain ⟨hlt, q2⟩ := hi.2 j acc[j] hj
      have e2 := entry_at g4 j
      rw [Array.getElem?_eq_getElem hlt] at e2
      rw [Array.getElem?_toList, hj, q2, List.getElem?_map]
      cases r : (manyT ps)[j]? with
      | none => rw [r] at e2; cases e2
      | some e =>
        rw [r] at e2
        have e3 : es[j] = entryOfKey (tupleKind (mixKind X.prog X.w)) e := Option.some.inj e2
        rw [e3]
        rfl
    · rw [List.getElem?_eq_none (by simp; omega), List.getElem?_eq_none (by simp; omega)]
  refine ⟨.ref _, upd H1 _ (.lst ((manyT ps).map fun e => V.ref e.2.1)), I1.laid (t' := tk) kp (Nat.le_refl _) ⟨?_, acc.toList, c', ?_, ?_⟩, rfl, q _ (I1.hok.fresh (Nat.le_refl _))⟩
  · rw [List.length_map]
    exact Nat.le_trans (manyT_len ps) hz
  · rw [ea]
    exact vals_refs (fun e : List L2.Key × Addr × Value => e.2.1) _
  · rw [Array.toArray_toList]
    exact hL
end
section
variable {K : PySem.W.Frag} {W : WX} {δ : Sto} {ex : XP} {te : TE}
abbrev tupD (ks : List L2.Key) : PyData := .tuple (ks.map kD)
theorem dd_kD {H : Hp} {v : V} {k : L2.Key} (h : Dd K H v (kD k)) : v = kV k := by
  cases k with
  | inl i => exact dd_int h
  | inr x => exact dd_str h
theorem da_kD {H : Hp} : ∀ {vs : List V} {ks : List L2.Key}, Da K H vs (ks.map kD) → vs = ks.map kV
  | _, [], .nil => rfl
  | _, k :: ks, .cons h r => by rw [List.map_cons, ← dd_kD h, ← da_kD r]
theorem keyed_of {H : Hp} : ∀ {xs : List V} {kss : List (List L2.Key)}, Da K H xs (kss.map tupD) → ∃ ps : List (List L2.Key × Addr), ps.map (·.1) = kss ∧ xs = ps.map (fun p => V.ref p.2) ∧ KeyedL K H ps
  | _, [], .nil => ⟨[], rfl, rfl, fun _ h => nomatch h⟩
  | _, ks :: kss, .cons h r => by
    obtain ⟨ps, e1, e2, e3⟩ := keyed_of r
    obtain ⟨b, ys, rfl, hs, ry⟩ := dd_tup h
    rw [da_kD ry] at hs
    refine ⟨(ks, b) :: ps, by rw [List.map_cons, e1], by rw [List.map_cons, e2], fun p hp => ?_⟩
    rcases List.mem_cons.mp hp with rfl | hp
    · exact hs
    · exact e3 p hp
theorem da_kV {H : Hp} : ∀ ks : List L2.Key, Da K H (ks.map kV) (ks.map kD)
  | [] => .nil
  | .inl i :: ks => .cons (.int i) (da_kV ks)
  | .inr x :: ks => .cons (.str x) (da_kV ks)
theorem keyed_da {H : Hp} : ∀ (l : List (List L2.Key × Addr × Value)), (∀ e ∈ l, SqT K H e.2.1 (e.1.map kV)) → Da K H (l.map fun e => V.ref e.2.1) (l.map fun e => tupD e.1)
  | [], _ => .nil
  | e :: l, h => .cons (.tup (h e (List.mem_cons_self ..)) (da_kV _)) (keyed_da l fun f hf => h f (List.mem_cons_of_mem _ hf))
theorem fx_listD {pq : List PyData → Sto → Prop} (h : EX K W te δ (fun w δ1 => ∃ kss : List (List L2.Key), w = .d (.list (kss.map tupD)) ∧ pq ((firsts [] kss).map tupD) δ1) ex) : FX K W (tListD K te) δ pq ex :=
  fun m H σ I Q k k2 => h m H σ I _ (fun v w H1 δ1 g1 s1 I1 o1 ⟨kss, e, pp⟩ => by
    subst e
    obtain ⟨a, xs, rfl, hs, r⟩ := dd_lst o1
    obtain ⟨ps, rfl, rfl, hk⟩ := keyed_of r
    refine ⟨a, rfl, ⟨_, (Same.seq hide_same hs)⟩, a, ps, rfl, (Same.seq hide_same hs), fun p hp => Same.tup hide_same (hk p hp), fun q hq => ?_⟩
    have ee := erase_upd (o := .lst ((manyT ps).map fun e => V.ref e.2.1)) hq
    refine k q _ ((firsts [] (ps.map (·.1))).map tupD) _ δ1 (by rw [ee]; exact g1) s1 (by rw [ee]; exact I1) upd_same ?_ pp
    rw [ee, ← manyT_keys, List.map_map]
    exact keyed_da (manyT ps) fun (e : List L2.Key × Addr × Value) he => hk (e.1, e.2.1) (manyT_from he)) k2
end
end M3
/-! ### sorted(e, key=lambda x: ..) -/
namespace M3
open PySem PySem.Spec PyProof.Rows L2
variable [NmC]

/-! an expression that lays new objects at most -/
def Kp (h h' : Heap) : Prop := ∀ b o, h.get? b = some o → h'.get? b = some o
def RawE (prog : Program) (w : World) (A : Around) (env : Env) (C : Heap → Prop) (e : Expr) (U : Heap → Value → Prop) : Prop :=
  ∀ (s : Shared) (Q E : Value → Shared → Prop), C s.heap → (∀ u h' tk, Kp s.heap h' → U h' u → Q u { s with heap := h', toks := tk }) → wpAny (model prog w) A (eval e env) Q E s
section
variable {prog : Program} {w : World} {A : Around} {env : Env} {C : Heap → Prop} {a b : Expr} {pos : Pos} {x : Str}
theorem raw_local {v : Value} (hk : env.scope.kind = .function) (hl : env.kindOf x = some .local) (hC : ∀ h, C h → ∃ m, h.Ns env.locals m ∧ m x = some v) (hd : (x == ("__debug__" : Str)) = false := by decide) : RawE prog w A env C (.Name x pos) (fun _ u => u = v) := fun s Q E c k => by
  obtain ⟨m, hn, hm⟩ := hC _ c
  exact wpAny_Name (wpAny_loadName_local hk hl hn hm (k v s.heap s.toks (fun _ _ e => e) rfl)) hd
theorem raw_free {v : Value} {d : Addr} (hk : env.scope.kind = .function) (hl : env.kindOf x = some .free) (hc : env.cells.lookup x = some d) (hC : ∀ h, C h → h.IsCell d (some v)) (hd : (x == ("__debug__" : Str)) = false := by decide) (hcd : (x == ("__classdict__" : Str)) = false := by decide) :
    RawE prog w A env C (.Name x pos) (fun _ u => u = v) := fun s Q E c k =>
  wpAny_Name (wpAny_loadName_free hk hl hc (hC _ c) (k v s.heap s.toks (fun _ _ e => e) rfl) hcd) hd
theorem raw_int {i : Int} {j : Nat} : RawE prog w A env C (.Constant (.int i) j pos) (fun _ u => ∃ t, u = .int i t) := fun s Q E c k => wpAny_Constant_int (k _ s.heap _ (fun _ _ e => e) ⟨_, rfl⟩)
theorem raw_ixT {p : Addr} {xs : List V} {its : List Value} {i : Int} {y : V} (st : ∀ h h', C h → Kp h h' → C h') (ha : RawE prog w A env C a (fun _ u => u = .ref p)) (hb : RawE prog w A env C b (fun _ u => ∃ t, u = .int i t)) (hT : ∀ h, C h → IsTup h p its.toArray) (rv : Vals xs its) (hy : atI xs i = some y) (hz : xs.length ≤ sizeLine)
    (hs : ∀ o i, subscripted b false o i = operate [o, i] (getItem o i)) : RawE prog w A env C (.Subscript a b pos) (fun _ u => RelV y u) := fun s Q E c k => by
  refine Subscript_ (ha s _ E c fun u h1 tk1 k1 e1 => hb _ _ E (st _ _ c k1) fun u2 h2 tk2 k2 e2 => ?_)
  obtain ⟨t, rfl⟩ := e2
  subst e1
  have pl := hT _ (st _ _ (st _ _ c k1) k2)
  obtain ⟨j, q1, q2, q3, q4, q5⟩ := atI_get hy
  obtain ⟨u, eu, ru⟩ := rv.get q2
  have hl := rv.length
  have hn := line63
  exact subscriptTail_builtinR (x := u) pl.typeIs slot_tuple_getitem.lookup (getItem_tuple (j := j) (Q := fun r s' => r = u ∧ Q r s') pl (by omega) (by omega) (by rw [List.size_toArray, ← hl]; exact q1) (by simpa using eu) ⟨rfl, k u h2 tk2 (fun b o e => k2 b o (k1 b o e)) ru⟩) (hs _ _)
theorem raw_rel {y : V} {i : Int} (e : y = .int i) (h : RawE prog w A env C a (fun _ u => RelV y u)) : RawE prog w A env C a (fun _ u => ∃ t, u = .int i t) := fun s Q E c k => h s Q E c fun u h' tk kp r => k u h' tk kp (by subst e; exact r)
theorem raw_mul {i j : Int} (st : ∀ h h', C h → Kp h h' → C h') (ha : RawE prog w A env C a (fun _ u => ∃ t, u = .int i t)) (hb : RawE prog w A env C b (fun _ u => ∃ t, u = .int j t)) (hc : IntMulOk i j) : RawE prog w A env C (.BinOp a .Mult b pos) (fun _ u => ∃ t, u = .int (i * j) t) := fun s Q E c k => by
  refine wpAny_BinOp (ha s _ E c fun u h1 tk1 k1 e1 => hb _ _ E (st _ _ c k1) fun u2 h2 tk2 k2 e2 => ?_)
  obtain ⟨t1, rfl⟩ := e1
  obtain ⟨t2, rfl⟩ := e2
  exact mul_int (k _ h2 _ (fun b o e => k2 b o (k1 b o e)) ⟨_, rfl⟩) hc
end
section
variable {prog : Program} {w : World} {A : Around} {s : Shared} {name q : Str} {params : Arguments} {body : Expr} {scope : Scope} {clos : List (Str × Addr)} {pm ctv v : Value} {f c' : Addr} {x : Str} {key : PyData}
/-- the call of a lambda with one parameter -/
theorem lam1_call (hf : s.heap.get? f = some (PySem.W.kla_obj "<lambda>" q params body scope clos pm c' ctv)) (hrec : s.heap.CodeRec (.ref c') q) (room : A.depth < recursionLimit) (lim : s.heap.NoLimit)
    (hbind : bindArgs (PySem.W.kla_fn "<lambda>" q params body scope clos pm (.ref c') ctv) ⟨[v], []⟩ = pure [(x, v)]) (hx : scope.names.lookup x = some .local) (hco : scope.isCoroutine = false) (hgen : scope.isGenerator = false) (hkind : scope.kind = .function)
    (hcell : ∀ y ∈ scope.names, y.2 ≠ .cell)
    (hb : ∀ (B : Around) (L : Addr) (h₁ : Heap), Kp s.heap h₁ → (∃ m, h₁.Ns L m ∧ m x = some v) → ∃ C : Heap → Prop, C h₁ ∧ RawE prog w B (PySem.W.envX q scope L f (.ref c') clos) C body (fun h u => Reads h u key [])) :
    wpAny (model prog w) A (call (.ref f) [v]) (PySem.W.KeyPure key s) (fun _ _ => False) s := by
  refine wpAny_call ?_
  refine PySem.W.kla_callFunE room hf rfl hco hgen rfl hrec ?_
  rw [hbind]
  refine wpAny_pure (wpAny_newFunctionEnv hcell (fun y hy => ?_) (fun h₁ hns hsb => ⟨lim.fresh _ hsb, ?_⟩) hkind)
  · have e : y = (x, v) := by simpa using hy
    rw [e]
    exact hx
  · have kp : Kp s.heap h₁ := fun b o e => hsb.extBut b o (Nat.ne_of_lt (Heap.lt_size e)) (Heap.get?_push_of_some _ e)
    obtain ⟨C, c, hr⟩ := hb (A.deeper (PySem.W.envX q scope s.heap.objs.size f (.ref c') clos)) s.heap.objs.size h₁ kp ⟨_, hns, by simp [List.lookup_cons]⟩
    exact PySem.W.kla_codeExpr (hr _ _ _ c fun u h' tk k r => ⟨h', tk, rfl, fun b o e => k b o (kp b o e), r⟩)
end

section
variable {X : Cx} {pins : List (Addr × Obj)} {σ : L2.St} {H : Hp} {s : Shared}
/-- what the making of a lambda leaves -/
def Lam1 (H H1 : Hp) (P c' : Addr) (q : Str) : Prop := H1 c' = some (LamX.CodeO c' q) ∧ (H1 = H ∨ ∃ (ps more : Array Value), H P = some (.tbl ps) ∧ H c' = none ∧ H1 = upd (upd H P (.tbl (ps ++ more))) c' (LamX.CodeO c' q) ∧ TriplesOk (ps ++ more).toList ∧ Tells H1 (ps ++ more) q)
theorem lam_made {c P : Addr} {params : Arguments} {body : Expr} {scope : Scope} {pos : Pos} {E Q : Value → Shared → Prop} (I : Inv X pins σ H s) (TB : LamX.TabB X.base X.mg c P) (hcode : X.env.code = .ref c)
    (hlm : NmC.lm P (X.env.qual ++ "<lambda>")) (hT : Tb H P) (hdef : defaultsOf params X.env = ([], [])) (hfree : ∀ y ∈ scope.names, y.2 = .free → ∃ c, X.env.cells.lookup y.1 = some c)
    (k : ∀ (f c' : Addr) (pm ctv : Value) (H1 : Hp) (s' : Shared), Inv X pins σ H1 s' → Lam1 H H1 P c' (X.env.qual ++ "<lambda>") →
      s'.heap.get? f = some (PySem.W.kla_obj "<lambda>" (X.env.qual ++ "<lambda>") params body scope (cloFrom X.env.cells scope.names []) pm c' ctv) → Q (.ref f) s') :
    wpAny (model X.prog X.w) X.A (eval (.Lambda params body scope pos) X.env) Q E s := by
  obtain ⟨ps, hP, ht, hn⟩ := hT
  have tells := hn _ hlm
  have hPo : s.heap.get? P = some { cls := .none, data := .fields ps } := I.hok P _ hP
  have bP : s.heap.BuiltinsAt X.mg P := TB.bm.keeps I.bk
  refine PySem.W.kla_eval hdef ?_
  cases hc : codeAmong pos ps.toList with
  | some cv =>
    obtain ⟨c', rfl, e2⟩ := tells pos cv hc
    exact PySem.W.kla_makeFunctionHit (mg := X.mg) (P := P) (ps := ps) (closure_ok hfree) I.ok.glob (I.mod.glob.keeps I.bk) hcode (TB.code.keeps I.bk) hPo ht hc bP fun ctv h' tk hx _ =>
      k _ c' _ ctv H _ (I.kept fun b o e => Heap.get?_push_of_some _ (hx b o e)) ⟨e2, .inl rfl⟩ (Heap.get?_push_size _ rfl)
  | none =>
    refine PySem.W.kla_makeFunction (mg := X.mg) (P := P) (ps := ps) (closure_ok hfree) I.ok.glob (I.mod.glob.keeps I.bk) hcode (TB.code.keeps I.bk) hPo ht hc TB.gP bP fun c' ctv h' tk hx hge _ hrec htb => ?_
    obtain ⟨c2, oc, vs, t, e2, ho, hd, hv⟩ := hrec
    cases e2
    have nC : H c' = none := I.hok.fresh hge
    have nP : P ≠ c' := ne_of_none hP nC
    have grow := LamX.inv_table (t' := tk) (more := #[rawInt pos.line, rawInt pos.col, .ref c']) (h' := h'.push (PySem.W.kla_obj "<lambda>" (X.env.qual ++ "<lambda>") params body scope (cloFrom X.env.cells scope.names []) ((X.mg "__name__").getD .none) c' ctv)) I hP
      (fun b o hb e => Heap.get?_push_of_some _ (hx b o hb e)) (Heap.get?_push_of_some _ htb) hge ⟨oc, vs, t, Heap.get?_push_of_some _ ho, hd, hv⟩
    have e3 : (ps ++ #[rawInt pos.line, rawInt pos.col, Value.ref c']).toList = ps.toList ++ [rawInt pos.line, rawInt pos.col, .ref c'] := by simp
    refine k _ c' _ ctv _ _ grow ⟨upd_same, .inr ⟨ps, _, hP, nC, rfl, by rw [e3]; exact PySem.TriplesOk_snoc _ _ _ _ ht, fun p' cv hcv => ?_⟩⟩ (Heap.get?_push_size _ rfl)
    rw [e3] at hcv
    rcases LamX.among_app _ ht hcv with z | rfl
    · obtain ⟨c0, q1, q2⟩ := tells p' cv z
      refine ⟨c0, q1, ?_⟩
      rw [upd_ne (ne_of_none q2 nC), upd_ne fun z => by
        rw [z, hP] at q2
        exact LamX.codeO_ne ps (Option.some.inj q2).symm]
      exact q2
    · exact ⟨c', rfl, upd_same⟩
theorem Lam1.same {H1 : Hp} {P c' : Addr} {q : Str} (l : Lam1 H H1 P c' q) (hu : ∀ q', NmC.lm P q' → q' = q) (hT : Tb H P) : Same H H1 := fun b o e => by
  rcases l.2 with rfl | ⟨ps, more, hP, hc, rfl, ht, tl⟩
  · exact .inl e
  · have nc : b ≠ c' := ne_of_none e hc
    by_cases hb : b = P
    · subst hb
      rw [hP] at e
      cases e
      obtain ⟨ps', h1, h2, _⟩ := hT
      rw [hP] at h1
      cases h1
      exact .inr ⟨⟨ps, rfl, h2⟩, ps ++ more, by rw [upd_ne nc, upd_same], ht, fun q' hq => by rw [hu q' hq]; exact tl⟩
    · exact .inl (by rw [upd_ne nc, upd_ne hb]; exact e)
end

/-! ### the sort -/
section
variable {X : Cx}
/-- what the lambda makes of the item v, wherever the heap of its call stands -/
def LamKey (X : Cx) (scope : Scope) (x : Str) (body : Expr) (σ : L2.St) (H : Hp) (v : V) (key : PyData) : Prop :=
  ∀ (B : Around) (env : Env) (u : Value) (C : Heap → Prop), env.scope = scope → env.cells = cloFrom X.env.cells scope.names [] → RelV v u → (∀ h h', C h → Kp h h' → C h') → (∀ h, C h → ∃ m, h.Ns env.locals m ∧ m x = some u) →
    (∀ (y : Str) (i : Nat) (z : V), X.N[i]? = some y → σ[i]? = some (some z) → scope.names.lookup y = some .free → ∃ d r, env.cells.lookup y = some d ∧ (∀ h, C h → h.IsCell d (some r)) ∧ RelV z r) →
    (∀ a xs, SqT X.K H a xs → ∃ its : List Value, Vals xs its ∧ (∀ h, C h → IsTup h a its.toArray) ∧ xs.length ≤ sizeLine) → RawE X.prog X.w B env C body (fun h u => Reads h u key [])
def SortB (X : Cx) (scope : Scope) (x : Str) (body : Expr) (P : Addr) (σ : L2.St) (Q : VK) (v : V) (H1 : Hp) : Prop :=
  ∃ (a : Addr) (ps : List (V × PyData)) (kd : PyData → PyData), v = .ref a ∧ SqL X.K H1 a (ps.map (·.1)) ∧ Tb H1 P ∧ PySem.W.AllAlike (ps.map fun b => kd b.2) ∧ PySem.W.Sortable (ps.map fun b => kd b.2) ∧ (∀ b ∈ ps, (kd b.2).depth ≤ 8) ∧
    (∀ H2, Same H1 H2 → ∀ b ∈ ps, LamKey X scope x body σ H2 b.1 (kd b.2)) ∧ ∀ H2 q, Same H1 H2 → H2 q = none → Q (.ref q) (upd H2 q (.lst ((ps.mergeSort (PySem.W.dataLe false fun b => kd b.2)).map (·.1))))
def tSortLam (X : Cx) (scope : Scope) (x : Str) (body : Expr) (P : Addr) (te : TE) : TE := fun σ H Q => te σ H fun v H1 => SortB X scope x body P σ Q v H1
theorem boot_sorted : bootBuiltins "sorted" = some (.builtin "sorted") := by decide +kernel
theorem each_vals {ps : List (V × PyData)} {its : List Value} (r : Vals (ps.map (·.1)) its) : PySem.W.EachIs (fun v (b : V × PyData) => RelV b.1 v) its ps := by
  induction ps generalizing its with
  | nil => cases r; exact .nil
  | cons p ps ih =>
    rw [List.map_cons] at r
    cases r with
    | cons h r => exact .cons h (ih r)
theorem vals_each {out : List Value} {ps : List (V × PyData)} (e : PySem.W.EachIs (fun v (b : V × PyData) => RelV b.1 v) out ps) : Vals (ps.map (·.1)) out := by
  induction e with
  | nil => exact .nil
  | cons h _ ih => exact .cons h ih
theorem cell_of {pins : List (Addr × Obj)} {σ : L2.St} {H : Hp} {s : Shared} {scope : Scope} {y : Str} {i : Nat} {z : V} (I : Inv X pins σ H s) (hfr : ∀ y ∈ scope.names, y.2 = .free → X.env.scope.names.lookup y.1 = some .cell ∨ X.env.scope.names.lookup y.1 = some .free)
    (hi : X.N[i]? = some y) (hz : σ[i]? = some (some z)) (hy : scope.names.lookup y = some .free) : ∃ d r, (cloFrom X.env.cells scope.names []).lookup y = some d ∧ s.heap.IsCell d (some r) ∧ RelV z r := by
  have hm : (y, NameKind.free) ∈ scope.names := PySem.mem_of_lookup hy
  have hv := hfr _ hm rfl
  obtain ⟨m, _, hl⟩ := I.loc
  obtain ⟨r, rv, q⟩ := hl i y z hi hz (hv.elim (fun k => .inr (.inl k)) fun k => .inr (.inr k))
  rcases q with ⟨k, _⟩ | ⟨_, c, hc, hcell⟩
  · have k : X.env.scope.names.lookup y = some .local := k
    rcases hv with k2 | k2 <;> rw [show X.env.scope.names.lookup y = _ from k2] at k <;> cases k
  · obtain ⟨d, hd⟩ := mem_lookup (cloFrom_has (cells := X.env.cells) (acc := []) hm)
    refine ⟨d, r, hd, ?_, rv⟩
    rcases cloFrom_mem (PySem.mem_of_lookup hd) with w | ⟨_, e⟩
    · cases w
    · have e : d = c := by
        have hc2 : X.env.cells.lookup y = some c := hc
        rw [e, hc2]
        rfl
      rw [e]
      exact hcell
theorem cell_keep {h h' : Heap} {d : Addr} {v : Option Value} (k : Kp h h') (c : h.IsCell d v) : h'.IsCell d v := by
  obtain ⟨o, e, q⟩ := c
  exact ⟨o, k _ _ e, q⟩
theorem pe_sortedLam {e : Expr} {te : TE} {p pos lpos kpos : Pos} {params : Arguments} {body : Expr} {scope : Scope} {x : Str} {c P : Addr} {k : Nat} (hu : X.A.units + 10 < cLine) (hr : Room (k + 1) X.A) (TB : LamX.TabB X.base X.mg c P) (hcode : X.env.code = .ref c)
    (hlm : ∀ q, NmC.lm P q ↔ q = X.env.qual ++ "<lambda>") (hg : Gl X "sorted") (hm : X.mg "sorted" = none) (ha : PA X [e] (tCons te tNil)) (hdef : defaultsOf params X.env = ([], []))
    (hbind : ∀ (q : Str) (cl : List (Str × Addr)) (pm cv ctv v : Value), bindArgs (PySem.W.kla_fn "<lambda>" q params body scope cl pm cv ctv) ⟨[v], []⟩ = pure [(x, v)]) (hx : scope.names.lookup x = some .local)
    (hco : scope.isCoroutine = false) (hgen : scope.isGenerator = false) (hkind : scope.kind = .function) (hcell : ∀ y ∈ scope.names, y.2 ≠ .cell)
    (hfr : ∀ y ∈ scope.names, y.2 = .free → X.env.scope.names.lookup y.1 = some .cell ∨ X.env.scope.names.lookup y.1 = some .free)
    (hes : backTo pos (starEach [e] X.env) = (false, eval e X.env) :: backTo pos (starEach [] X.env) := by rfl) (hpl : (backTo pos (starEach [e] X.env)).any (·.1) = false := by rfl)
    (hall : (backToKw pos (keywordEach [⟨some "key", .Lambda params body scope lpos, kpos⟩] X.env)).all (·.1.isSome) = true := by rfl) (hnone : (backToKw pos (keywordEach [⟨some "key", .Lambda params body scope lpos, kpos⟩] X.env)).any (·.1.isNone) = false := by rfl)
    (hks : (backToKw pos (keywordEach [⟨some "key", .Lambda params body scope lpos, kpos⟩] X.env)).filterMap (·.1) = [Str.ofString "key"] := by rfl) :
    PE X (.Call (.Name "sorted" p) [e] [⟨some "key", .Lambda params body scope lpos, kpos⟩] pos) (tSortLam X scope x body P te) := by
  refine ⟨fun pins s σ H Q I h => ?_⟩
  refine wpAny_Call_Name_kw (ld_blt I hg hm boot_sorted ?_ (by decide) (by decide))
  refine PyProof.Rows.callWith_kw (thn (ha.run pos pins s σ H (fun vs H1 => match vs with | [v] => SortB X scope x body P σ Q v H1 | _ => False) I h) fun us s1 ⟨vs, H1, I1, r1, q1⟩ => ?_) hes hpl hall hnone
  have one : ∃ v, vs = [v] ∧ SortB X scope x body P σ Q v H1 := by
    match vs, q1 with
    | [v], q1 => exact ⟨v, rfl, q1⟩
  obtain ⟨v, rfl, a, ps, kd, rfl, hsq, hT, hal, hso, hdp, hkey, q⟩ := one
  obtain rfl := Vals.ref1 r1
  rw [hks]
  refine PyProof.Rows.kwAll_cons (lam_made I1 TB hcode ((hlm _).mpr rfl) hT hdef (fun y hy e => (hfr y hy e).elim (fun k => I1.ok.has _ (.inl k)) fun k => I1.ok.has _ (.inr k)) fun f c' pm ctv H2 s2 I2 l hf => PyProof.Rows.kwAll_nil ?_)
  have sm : Same H1 H2 := l.same (fun q' hq => (hlm q').mp hq) hT
  obtain ⟨its, rv, hl, hz⟩ := I2.list (sm.seq hsq)
  obtain ⟨⟨oc, vs, t, ho, hd, hv⟩, _, _⟩ := I2.hok c' _ l.1
  refine PySem.W.sorted_key_data (β := V × PyData) (b := false) (fun b => kd b.2) hl.isList (each_vals rv) hal hso (by rw [← List.length_map (f := fun b : V × PyData => b.1)]; exact hz) (fun b hb => ?_) (PyProof.Rows.ksk_s1 _ _) (fun _ => PyProof.Rows.ksk_l1 _ _) (fun _ => PyProof.Rows.ksk_t1 _ _)
    (fun v b hR hb h tk kp => ?_) fun out ep h' tk kp hfree hD hlen eo => ?_
  · have := hdp b hb
    omega
  · refine lam1_call (s := { s2 with heap := h, toks := tk }) (kp _ _ hf) ⟨c', oc, vs, t, rfl, kp _ _ ho, hd, hv⟩ hr.depth (I2.nolimit.keeps kp) (hbind _ _ _ _ _ _) hx hco hgen hkind hcell fun B L h₁ k1 hns => ⟨Kp h₁, fun _ _ e => e, ?_⟩
    have kk : Kp s2.heap h₁ := fun b o e => k1 b o (kp b o e)
    refine hkey H2 sm b hb B (PySem.W.envX (X.env.qual ++ "<lambda>") scope L f (.ref c') (cloFrom X.env.cells scope.names [])) v (Kp h₁) rfl rfl hR (fun h h' c k b o e => k b o (c b o e)) (fun h c => ?_) (fun y i z hi hz hy => ?_) fun a xs hs => ?_
    · obtain ⟨m, hn, hm⟩ := hns
      exact ⟨m, hn.keeps c, hm⟩
    · obtain ⟨d, r, e1, e2, e3⟩ := cell_of I2 hfr hi hz hy
      exact ⟨d, r, e1, fun h c => cell_keep c (cell_keep kk e2), e3⟩
    · obtain ⟨its, r, pt, z⟩ := I2.tuple hs
      exact ⟨its, r, fun h c => (pt.keeps kk).keeps c, z⟩
  · have hle : s2.heap.objs.size ≤ s2.heap.objs.size + 1 := Nat.le_succ _
    have zl : ((ps.mergeSort (PySem.W.dataLe false fun b => kd b.2)).map (·.1)).length ≤ sizeLine := by
      rw [List.length_map] at hz ⊢
      rw [List.length_mergeSort]
      exact hz
    exact ⟨.ref _, upd H2 _ (.lst ((ps.mergeSort (PySem.W.dataLe false fun b => kd b.2)).map (·.1))), I2.laid (t' := tk) kp hle ⟨zl, out, ep, vals_each eo, hD⟩, rfl, q H2 _ sm (I2.hok.fresh hle)⟩
end
end M3
/-! ### sorted(e, key=lambda x: ..) over stores -/
namespace M3
open PySem PySem.Spec PyProof.Rows L2
variable [NmC]
section
variable {X : Cx} {W : WX} {δ : Sto} {ex : XP} {te : TE} {scope : Scope} {x : Str} {body : Expr} {P : Addr}
theorem da_zip {K : PySem.W.Frag} {H : Hp} : ∀ {xs : List V} {ds : List PyData}, Da K H xs ds → ∀ b ∈ xs.zip ds, Dd K H b.1 b.2
  | _, _, .nil, _, h => nomatch h
  | _, _, .cons h r, b, hb => by
    rw [List.zip_cons_cons] at hb
    rcases List.mem_cons.mp hb with rfl | hb
    · exact h
    · exact da_zip r b hb
theorem da_pairs {K : PySem.W.Frag} {H : Hp} : ∀ (ps : List (V × PyData)), (∀ b ∈ ps, Dd K H b.1 b.2) → Da K H (ps.map (·.1)) (ps.map (·.2))
  | [], _ => .nil
  | b :: ps, h => .cons (h b (List.mem_cons_self ..)) (da_pairs ps fun c hc => h c (List.mem_cons_of_mem _ hc))
theorem fx_sortLam {K : PySem.W.Frag} {pq : List PyData → Sto → Prop} (hK : X.K = K) (hP : NmC.tb P) (h : EX K W te δ (fun w δ1 => ∃ (ds : List PyData) (kd : PyData → PyData), w = .d (.list ds) ∧ PySem.W.AllAlike (ds.map kd) ∧ PySem.W.Sortable (ds.map kd) ∧ (∀ d ∈ ds, (kd d).depth ≤ 8) ∧
      (∀ m H σ, Env3 K m H σ δ1 → ∀ v, ∀ d ∈ ds, Dd K (hide (hid m δ1) H) v d → LamKey X scope x body σ H v (kd d)) ∧ pq (ds.mergeSort (PySem.W.dataLe false kd)) δ1) ex) : FX K W (tSortLam X scope x body P te) δ pq ex :=
  by
  subst hK
  exact fun m H σ I Q k k2 => h m H σ I _ (fun v w H1 δ1 g1 s1 I1 o1 ⟨ds, kd, e, hal, hso, hdp, hk, pp⟩ => by
    subst e
    obtain ⟨a, xs, rfl, hs, r⟩ := dd_lst o1
    have hl := r.length
    have e1 : (xs.zip ds).map (·.1) = xs := List.map_fst_zip (Nat.le_of_eq hl)
    have e2 : (xs.zip ds).map (·.2) = ds := List.map_snd_zip (Nat.le_of_eq hl.symm)
    have e3 : (xs.zip ds).map (fun b => kd b.2) = ds.map kd := by
      have := congrArg (List.map kd) e2
      rwa [List.map_map] at this
    have mem : ∀ b ∈ xs.zip ds, b.2 ∈ ds := fun b hb => (List.of_mem_zip hb).2
    have hz := da_zip r
    refine ⟨a, xs.zip ds, kd, rfl, by rw [e1]; exact Same.seq hide_same hs, I1.tab.has P hP, by rw [e3]; exact hal, by rw [e3]; exact hso, fun b hb => hdp _ (mem b hb), fun H2 sm b hb => ?_, fun H2 q sm hq => ?_⟩
    · have I2 := I1.same sm
      exact hk m H2 σ I2 b.1 b.2 (mem b hb) ((hz b hb).mono (hide_mono (I1.lists' sm) sm))
    · have I2 := I1.same sm
      have ee := erase_upd (o := .lst (((xs.zip ds).mergeSort (PySem.W.dataLe false fun b => kd b.2)).map (·.1))) hq
      have em : ((xs.zip ds).mergeSort (PySem.W.dataLe false fun b => kd b.2)).map (·.2) = ds.mergeSort (PySem.W.dataLe false kd) := by
        exact (PySem.W.sort_maps (r := PySem.W.dataLe false fun b : V × PyData => kd b.2) (s := PySem.W.dataLe false kd) (fun b : V × PyData => b.2) fun a _ b _ => rfl).trans (by rw [e2])
      refine k q _ (ds.mergeSort (PySem.W.dataLe false kd)) _ δ1 (by rw [ee]; exact g1.trans (.of_same I1 sm)) s1 (by rw [ee]; exact I2) upd_same ?_ pp
      rw [ee, ← em]
      exact da_pairs _ fun b hb => (hz b (List.mem_mergeSort.mp hb)).mono (hide_mono (I1.lists' sm) sm)) k2
theorem lt64 {a : Nat} (h : a + 64 < cLine) : a < cLine := by omega
theorem lt64b {a : Nat} (h : a + 64 < cLine) : a + 10 < cLine := by omega
theorem hcell_by {scope : Scope} (h : (scope.names.all fun y => !decide (y.2 = .cell)) = true) : ∀ y ∈ scope.names, y.2 ≠ .cell := fun y hy => by
  have := List.all_eq_true.mp h y hy
  simpa using this
theorem hfr_by {sc scope : Scope} (h : (scope.names.all fun y => !decide (y.2 = .free) || decide (sc.names.lookup y.1 = some .cell) || decide (sc.names.lookup y.1 = some .free)) = true) :
    ∀ y ∈ scope.names, y.2 = .free → sc.names.lookup y.1 = some .cell ∨ sc.names.lookup y.1 = some .free := fun y hy e => by
  have := List.all_eq_true.mp h y hy
  simpa [e] using this
/-- x[0] * (y // x[1]), y captured -/
theorem raw_fdiv {prog : Program} {w : World} {A : Around} {env : Env} {C : Heap → Prop} {a b : Expr} {pos : Pos} {i j : Int} (st : ∀ h h', C h → Kp h h' → C h') (ha : RawE prog w A env C a (fun _ u => ∃ t, u = .int i t)) (hb : RawE prog w A env C b (fun _ u => ∃ t, u = .int j t)) (h0 : j ≠ 0) (hl : j.natAbs.log2 < 9000) :
    RawE prog w A env C (.BinOp a .FloorDiv b pos) (fun _ u => ∃ t, u = .int (i.fdiv j) t) := fun s Q E c k => by
  refine wpAny_BinOp (ha s _ E c fun u h1 tk1 k1 e1 => hb _ _ E (st _ _ c k1) fun u2 h2 tk2 k2 e2 => ?_)
  obtain ⟨t1, rfl⟩ := e1
  obtain ⟨t2, rfl⟩ := e2
  exact floordiv_int h0 (k _ h2 _ (fun b o e => k2 b o (k1 b o e)) ⟨_, rfl⟩) (.inl (PyProof.noPylong_of_log2 hl))
theorem raw_imp {prog : Program} {w : World} {A : Around} {env : Env} {C : Heap → Prop} {e : Expr} {U V : Heap → Value → Prop} (h : RawE prog w A env C e U) (q : ∀ h u, U h u → V h u) : RawE prog w A env C e V := fun s Q E c k => h s Q E c fun u h' tk kp r => k u h' tk kp (q _ _ r)
theorem key_scaled {σ : L2.St} {H : Hp} {v : V} {y : Str} {i j1 j2 : Nat} {L n m : Int} {p1 p2 p3 p4 p5 p6 p7 p8 p9 : Pos} (hk : scope.kind = .function) (hx : scope.names.lookup x = some .local) (hy : scope.names.lookup y = some .free) (hi : X.N[i]? = some y) (hL : σ[i]? = some (some (.int L)))
    (hv : ∃ b, v = .ref b ∧ SqT X.K H b [.int n, .int m]) (h0 : m ≠ 0) (hl : m.natAbs.log2 < 9000) (hm : IntMulOk n (L.fdiv m)) (dx : (x == ("__debug__" : Str)) = false) (dy : (y == ("__debug__" : Str)) = false) (dc : (y == ("__classdict__" : Str)) = false) :
    LamKey X scope x (.BinOp (.Subscript (.Name x p1) (.Constant (.int 0) j1 p2) p3) .Mult (.BinOp (.Name y p4) .FloorDiv (.Subscript (.Name x p5) (.Constant (.int 1) j2 p6) p7) p8) p9) σ H v (.int (n * L.fdiv m)) := by
  intro B env u C hs hc ru st hn hcap hT
  obtain ⟨b, rfl, hq⟩ := hv
  cases ru
  obtain ⟨its, rv, ht, hz⟩ := hT b _ hq
  obtain ⟨d, r, e1, e2, e3⟩ := hcap y i _ hi hL hy
  have kx : env.kindOf x = some .local := by unfold Env.kindOf; rw [hs]; exact hx
  have ky : env.kindOf y = some .free := by unfold Env.kindOf; rw [hs]; exact hy
  have kf : env.scope.kind = .function := by rw [hs]; exact hk
  have rx : ∀ {p : Pos}, RawE X.prog X.w B env C (.Name x p) (fun _ u => u = .ref b) := raw_local kf kx hn dx
  have r0 := raw_rel rfl (raw_ixT (i := 0) (pos := p3) st (rx (p := p1)) (raw_int (j := j1) (pos := p2)) ht rv (y := .int n) rfl hz (fun _ _ => rfl))
  have r1 := raw_rel rfl (raw_ixT (i := 1) (pos := p7) st (rx (p := p5)) (raw_int (j := j2) (pos := p6)) ht rv (y := .int m) rfl hz (fun _ _ => rfl))
  have ry : RawE X.prog X.w B env C (.Name y p4) (fun _ u => ∃ t, u = .int L t) := raw_imp (raw_free kf ky e1 e2 dy dc) fun h u e => by
    obtain ⟨t, q⟩ := e3
    exact ⟨t, e.trans q⟩
  exact raw_imp (raw_mul st r0 (raw_fdiv st ry r1 h0 hl) hm) fun h u ⟨t, e⟩ => by rw [e]; exact .int _ _
end
end M3
/-! ### the end of a law's row, what tables are asked for is said in it -/
namespace M3
open PySem PySem.Spec PyProof.Rows L2
theorem walk_law2 {l : PySem.W.OpenLaw} {k : Nat} {q : Program} {loose : List Str} {XP : (Str → Option Value) → Heap → Prop} {YP : World → Heap → Prop} {d : DefRec} {K : Params → PySem.W.Frag} {x : Str}
    (hn : l.most = some 63) (hdf : d.params.defaults = []) (hr : Room k callerA) (hY : ∀ (w : World) (h : Heap), YP w h → (K w.params).In h)
    (F : ∀ (w : World) (mg : Str → Option Value) (fa : Addr) (h : Heap), YP w h → (K w.params).In h → h.Ns mainGlobals mg → mg d.name = some (.ref fa) →
      ∃ (N : NmC) (fd : FuncData) (cs : List (Addr × Addr)), (∀ p ∈ cs, h.get? p.2 = some emptyT) ∧ (∀ p ∈ cs, (K w.params).lookup p.2 = none) ∧ (∀ p ∈ cs, PySem.W.CodeHd h p.1 p.2) ∧ (∀ Q, N.tb Q → Q ∈ cs.map (·.2)) ∧
        (∀ (s : Shared) (u : Value), BindsTo s fd ⟨[u], []⟩ [(x, u)]) ∧ ∀ base : Heap, (K w.params).In base → base.Ns mainGlobals mg → (∀ p ∈ cs, TabX base mg p.1 p.2) → FnG l.prog w (K w.params) mg base k fa fd [x] (@spScript N (K w.params))) :
    PySem.W.WalkO q loose XP YP l.row.toRowW d [] (fun f vs => PySem.call f vs) :=
  Att.attach_call hn hdf fun w s₀ s₁ mg mb fa o pm cd doc a vs ns G Y _ _ _ hmg hobj hints hlen hg => by
    have KX := hY w _ Y
    obtain ⟨N, fd, cs, t1, t2, t3, t4, hb, hF⟩ := F w mg fa _ Y KX G.T.g hmg
    letI := N
    exact run_law KX G.T.g G.T.b G.T.builtins G.T.nolimit hg t1 t2 t3 t4 G.T.bmain hobj hints hlen hr hF hb
end M3
/-! ### texts -/
namespace M3
open PySem PySem.Spec PyProof.Rows L2
variable [NmC]
section
variable {K : PySem.W.Frag} {W : WX} {δ : Sto} {ex : XP} {post : Vw → Sto → Prop} {te to ta : TE} {tl th : TO} {t : TA}
theorem rx_addS {x y : Str} (hl : x.length + y.length ≤ 1000000) (q : post (.d (.str (x ++ y))) δ) : RX K (fun x y H Q => ∃ i j, x = V.str i ∧ y = V.str j ∧ i.length + j.length ≤ sizeLine ∧ Q (V.str (i ++ j)) H) (.d (.str x)) (.d (.str y)) δ post := fun m H σ v1 v2 I o1 o2 Q k => by
  cases dd_str o1
  cases dd_str o2
  exact ⟨x, y, rfl, rfl, Nat.le_trans hl (by decide), k _ (.d (.str _)) H (.refl H) (.str _) q⟩
theorem rx_inS {c : Nat} {z : Str} (q : post (.d (.bool (decide (c ∈ z.cps.toList)))) δ) : RX K (fun x y H Q => ∃ (c : Nat) (z : Str), x = V.str ⟨#[c]⟩ ∧ y = V.str z ∧ Q (V.bl (decide (c ∈ z.cps.toList))) H) (.d (.str ⟨#[c]⟩)) (.d (.str z)) δ post := fun m H σ v1 v2 I o1 o2 Q k => by
  cases dd_str o1
  cases dd_str o2
  exact ⟨c, z, rfl, rfl, k _ (.d (.bool _)) H (.refl H) (.bl _) q⟩
theorem rx_notInS {c : Nat} {z : Str} (q : post (.d (.bool (!decide (c ∈ z.cps.toList)))) δ) : RX K (fun x y H Q => ∃ (c : Nat) (z : Str), x = V.str ⟨#[c]⟩ ∧ y = V.str z ∧ Q (V.bl (!decide (c ∈ z.cps.toList))) H) (.d (.str ⟨#[c]⟩)) (.d (.str z)) δ post := fun m H σ v1 v2 I o1 o2 Q k => by
  cases dd_str o1
  cases dd_str o2
  exact ⟨c, z, rfl, rfl, k _ (.d (.bool _)) H (.refl H) (.bl _) q⟩
theorem rx_ixS {z : Str} {i : Int} {c : Nat} (hz : z.length ≤ 1000000) (h : atI z.cps.toList i = some c) (q : post (.d (.str ⟨#[c]⟩)) δ) : RX K rIxS (.d (.str z)) (.d (.int i)) δ post := fun m H σ v1 v2 I o1 o2 Q k => by
  cases dd_str o1
  cases dd_int o2
  exact ⟨z, i, c, rfl, rfl, Nat.le_trans hz (by decide), h, k _ (.d (.str _)) H (.refl H) (.str _) q⟩
/-- z[lo:hi] -/
theorem ex_slS (h : EX K W te δ (fun w δ1 => OX K W tl δ1 (fun lo δ2 => OX K W th δ2 (fun hi δ3 => ∃ z : Str, w = .d (.str z) ∧ z.length ≤ 1000000 ∧ post (.d (.str (Txt.slice z lo hi))) δ3) ex) ex) ex) : EX K W (tSl rSlS te tl th) δ post ex :=
  fun m H σ I Q k k2 => h m H σ I _ (fun v1 w1 H1 δ1 g1 s1 I1 o1 hb => hb m H1 σ I1 _ (fun lo H2 δ2 g2 s2 I2 hc => hc m H2 σ I2 _ (fun hi H3 δ3 g3 s3 I3 ⟨z, e, hz, q⟩ => by
      subst e
      cases dd_str o1
      refine ⟨z, rfl, Nat.le_trans hz (by decide), ?_⟩
      rw [← C8.cutS_slice] at q
      exact k _ (.d (.str _)) H3 δ3 ((g1.trans g2).trans g3) ((s1.trans s2).trans s3) I3 (.str _) q)
    (fun C H' δ' g J e => k2 C H' δ' ((g1.trans g2).trans g) J e))
    (fun C H' δ' g J e => k2 C H' δ' (g1.trans g) J e)) k2
/-- a method of a text with one text -/
theorem ex_m1 {r : V → List V → Hp → VK → Prop} (h : EX K W to δ (fun w δ1 => ∃ a : Str, w = .d (.str a) ∧ EX K W te δ1 (fun w2 δ2 => ∃ b : Str, w2 = .d (.str b) ∧
      ∀ (m : Addr → Prop) (H : Hp) (σ : L2.St), Env3 K m H σ δ2 → ∀ Q : VK, (∀ v w H', Same H H' → VwOk K m H' δ2 v w → post w δ2 → Q v H') → r (.str a) [.str b] H Q) ex) ex) : EX K W (tM1 r to te) δ post ex :=
  fun m H σ I Q k k2 => h m H σ I _ (fun v w H1 δ1 g1 s1 I1 o1 ⟨a, e, hb⟩ => by
    subst e
    cases dd_str o1
    refine ⟨⟨a, rfl⟩, hb m H1 σ I1 _ (fun v2 w2 H2 δ2 g2 s2 I2 o2 ⟨b, e2, q⟩ => ?_) fun C H' δ' g J e => k2 C H' δ' (g1.trans g) J e⟩
    subst e2
    cases dd_str o2
    exact q m H2 σ I2 Q fun v w H' sm o p => k v w H' δ2 ((g1.trans g2).trans (.of_same I2 sm)) (s1.trans s2) (I2.same sm) o p) k2
theorem ex_starts (h : EX K W to δ (fun w δ1 => ∃ a : Str, w = .d (.str a) ∧ EX K W te δ1 (fun w2 δ2 => ∃ b : Str, w2 = .d (.str b) ∧ post (.d (.bool (Txt.startswith a b))) δ2) ex) ex) :
    EX K W (tM1 (fun x xs H Q => ∃ a b, x = V.str a ∧ xs = [V.str b] ∧ Q (V.bl (Txt.startswith a b)) H) to te) δ post ex :=
  ex_m1 (h.imp (fun w δ1 ⟨a, e, hb⟩ => ⟨a, e, hb.imp (fun w2 δ2 ⟨b, e2, q⟩ => ⟨b, e2, fun m H σ I Q k => ⟨a, b, rfl, rfl, k _ (.d (.bool _)) H (.refl H) (.bl _) q⟩⟩) fun _ _ e => e⟩) fun _ _ e => e)
theorem ex_partition (h : EX K W to δ (fun w δ1 => ∃ a : Str, w = .d (.str a) ∧ EX K W te δ1 (fun w2 δ2 => ∃ b : Str, w2 = .d (.str b) ∧ (b.length == 0) = false ∧ a.length ≤ 1000000 ∧ post (.d (.tuple [.str (Txt.partition a b).1, .str (Txt.partition a b).2.1, .str (Txt.partition a b).2.2])) δ2) ex) ex) :
    EX K W (tM1 (fun x xs H Q => ∃ a b, x = V.str a ∧ xs = [V.str b] ∧ (b.length == 0) = false ∧ a.length ≤ sizeLine ∧
      ∀ p, H p = none → Q (.ref p) (upd H p (.tup [.str (Txt.partition a b).1, .str (Txt.partition a b).2.1, .str (Txt.partition a b).2.2]))) to te) δ post ex :=
  ex_m1 (h.imp (fun w δ1 ⟨a, e, hb⟩ => ⟨a, e, hb.imp (fun w2 δ2 ⟨b, e2, hl, hz, q⟩ => ⟨b, e2, fun m H σ I Q k => ⟨a, b, rfl, rfl, hl, Nat.le_trans hz (by decide), fun p hp => by
    have sm := same_upd (o := .tup [.str (Txt.partition a b).1, .str (Txt.partition a b).2.1, .str (Txt.partition a b).2.2]) hp
    refine k (.ref p) (.d (.tuple _)) _ sm ?_ q
    exact .tup (.inl (.inl (hide_some (not_hid I hp) upd_same))) (.cons (.str _) (.cons (.str _) (.cons (.str _) .nil)))⟩⟩) fun _ _ e => e⟩) fun _ _ e => e)
theorem da_strs {H : Hp} : ∀ ys : List Str, Da K H (ys.map V.str) (ys.map PyData.str)
  | [] => .nil
  | y :: ys => .cons (.str y) (da_strs ys)
theorem strs_da {H : Hp} : ∀ {vs : List V} {ys : List Str}, Da K H vs (ys.map PyData.str) → vs = ys.map V.str
  | _, [], .nil => rfl
  | _, y :: ys, .cons h r => by rw [List.map_cons, dd_str h, strs_da r]
theorem fx_split {pq : List PyData → Sto → Prop} (h : EX K W to δ (fun w δ1 => ∃ a : Str, w = .d (.str a) ∧ EX K W te δ1 (fun w2 δ2 => ∃ b : Str, w2 = .d (.str b) ∧ (b.length == 0) = false ∧ a.length ≤ 1000000 ∧ pq ((Txt.split a b).map PyData.str) δ2) ex) ex) :
    FX K W (tM1 (fun x xs H Q => ∃ a b, x = V.str a ∧ xs = [V.str b] ∧ (b.length == 0) = false ∧ a.length + 2 ≤ sizeLine ∧ rNewStrs (Txt.split a b) H Q) to te) δ pq ex :=
  fun m H σ I Q k k2 => h m H σ I _ (fun v w H1 δ1 g1 s1 I1 o1 ⟨a, e, hb⟩ => by
    subst e
    cases dd_str o1
    refine ⟨⟨a, rfl⟩, hb m H1 σ I1 _ (fun v2 w2 H2 δ2 g2 s2 I2 o2 ⟨b, e2, hl, hz, q⟩ => ?_) fun C H' δ' g J e => k2 C H' δ' (g1.trans g) J e⟩
    subst e2
    cases dd_str o2
    refine ⟨a, b, rfl, rfl, hl, Nat.le_trans (Nat.add_le_add_right hz 2) (by decide), fun p hp => ?_⟩
    have ee := erase_upd (o := .lst ((Txt.split a b).map V.str)) hp
    exact k p _ _ _ δ2 (by rw [ee]; exact g1.trans g2) (s1.trans s2) (by rw [ee]; exact I2) upd_same (by rw [ee]; exact da_strs _) q) k2
/-- a.join(list of texts) -/
theorem ex_join (h : EX K W to δ (fun w δ1 => ∃ a : Str, w = .d (.str a) ∧ EX K W te δ1 (fun w2 δ2 => ∃ ys : List Str, w2 = .d (.list (ys.map PyData.str)) ∧ (ys.map (·.length)).sum + ys.length * a.length ≤ 1000000 ∧ post (.d (.str (Txt.join a ys))) δ2) ex) ex) :
    EX K W (tM1 (fun x xs H Q => ∃ a p, ∃ ys : List Str, x = V.str a ∧ xs = [V.ref p] ∧ (SqL K H p (ys.map V.str) ∨ SqT K H p (ys.map V.str)) ∧ (ys.map (·.length)).sum + ys.length * a.length ≤ 16777216 ∧ Q (.str (Txt.join a ys)) H) to te) δ post ex :=
  fun m H σ I Q k k2 => h m H σ I _ (fun v w H1 δ1 g1 s1 I1 o1 ⟨a, e, hb⟩ => by
    subst e
    cases dd_str o1
    refine ⟨⟨a, rfl⟩, hb m H1 σ I1 _ (fun v2 w2 H2 δ2 g2 s2 I2 o2 ⟨ys, e2, hz, q⟩ => ?_) fun C H' δ' g J e => k2 C H' δ' (g1.trans g) J e⟩
    subst e2
    obtain ⟨b, xs, rfl, hs, r⟩ := dd_lst o2
    rw [strs_da r] at hs
    exact ⟨a, b, ys, rfl, rfl, .inl (Same.seq hide_same hs), by omega, k _ (.d (.str _)) H2 δ2 (g1.trans g2) (s1.trans s2) I2 (.str _) q⟩) k2
/-- e[::-1] -/
theorem fx_revL {pq : List PyData → Sto → Prop} (h : EX K W te δ (fun w δ1 => ∃ ds, pq ds.reverse δ1 ∧ (w = .d (.list ds) ∨ ∃ i q, w = .m i ∧ δ1[i]? = some (.ml q ds))) ex) : FX K W (tRevL K te) δ pq ex :=
  fun m H σ I Q k k2 => h m H σ I _ (fun v w H1 δ1 g1 s1 I1 o1 ⟨ds, pp, hw⟩ => by
    have fin : ∀ l xs, v = .ref l → SqL K H1 l xs → Da K (hide (hid m δ1) H1) xs ds → ∃ a xs, v = .ref a ∧ SqL K H1 a xs ∧ ∀ p, H1 p = none → Q (.ref p) (upd H1 p (.lst xs.reverse)) := fun l xs e hs r => by
      refine ⟨l, xs, e, hs, fun q hq => ?_⟩
      have ee := erase_upd (o := .lst xs.reverse) hq
      exact k q xs.reverse ds.reverse _ δ1 (by rw [ee]; exact g1) s1 (by rw [ee]; exact I1) upd_same (by rw [ee]; exact da_rev r) pp
    rcases hw with e | ⟨i, q, e, hi⟩
    · subst e
      obtain ⟨a, xs, rfl, hs, r⟩ := dd_lst o1
      exact fin a xs rfl (Same.seq hide_same hs) r
    · subst e
      obtain ⟨q', ds', e2, e3⟩ := o1
      rw [hi] at e2
      cases e2
      obtain ⟨_, _, xs, hx, r⟩ := I1.ml i q ds hi
      exact fin q xs e3 (.inl (.inl hx)) r) k2
theorem vx_strI {i : Int} (hz : i.natAbs.log2 < 1920) (q : post (.d (.str (toString i))) δ) : VX K (fun xs H Q => ∃ i, xs = [V.int i] ∧ i.natAbs.log2 < 1920 ∧ Q (V.str (toString i)) H) [.d (.int i)] δ post := fun m H σ vs I o Q k => by
  obtain ⟨v, rfl, h1⟩ := vw1 o
  cases dd_int h1
  exact ⟨i, rfl, hz, k _ (.d (.str _)) H (.refl H) (.str _) q⟩
theorem vx_intS {a : Str} {n : Int} (hn : PySem.intText? a = some n) (hl : a.length ≤ 640) (q : post (.d (.int n)) δ) : VX K (fun xs H Q => ∃ a n, xs = [V.str a] ∧ PySem.intText? a = some n ∧ a.length ≤ 640 ∧ Q (V.int n) H) [.d (.str a)] δ post := fun m H σ vs I o Q k => by
  obtain ⟨v, rfl, h1⟩ := vw1 o
  cases dd_str h1
  exact ⟨a, n, rfl, hn, hl, k _ (.d (.int _)) H (.refl H) (.int _) q⟩
theorem vx_lenS {a : Str} (hl : a.length ≤ 1000000) (q : post (.d (.int a.length)) δ) : VX K (fun xs H Q => ∃ z, xs = [V.str z] ∧ z.length ≤ sizeLine ∧ Q (V.int z.length) H) [.d (.str a)] δ post := fun m H σ vs I o Q k => by
  obtain ⟨v, rfl, h1⟩ := vw1 o
  cases dd_str h1
  exact ⟨a, rfl, Nat.le_trans hl (by decide), k _ (.d (.int _)) H (.refl H) (.int _) q⟩
end
section
variable {K : PySem.W.Frag} {W : WX} {δ : Sto} {ex : XP} {tl : TE} {tt : TT} {te : TE} {g : TG} {vs : List Nat} {ok : PyData → Prop} {f : Sto → PyData → Sto}
theorem lc_str {z : Str} {g : TG} {tt : TT} {te : TE} {vs : List Nat} {σ : L2.St} {H1 : Hp} {D : Addr} {Qd : Hp → Prop} (Pv : Nat → Hp → Prop) (h0 : Pv 0 (upd H1 D (.lst [])))
    (hs : ∀ i (c : Nat) H, z.cps[i]? = some c → Pv i H → g (.str ⟨#[c]⟩) (wipe σ vs) H fun σ2 H2 => wipe σ2 vs = wipe σ vs ∧ tt σ2 H2 fun b H3 =>
      if b = true then te σ2 H3 fun y H4 => ∃ acc, H4 D = some (.lst acc) ∧ acc.length < sizeLine ∧ Pv (i + 1) (upd H4 D (.lst (acc ++ [y]))) else Pv (i + 1) H3) (hd : ∀ H, Pv z.cps.size H → Qd H) :
    ∃ W : Nat → Nat → Hp → Prop, (∃ m, W 0 m (upd H1 D (.lst []))) ∧ ∀ i m H, W i m H →
      ((Its z).stop i H ∧ Qd H) ∨ ((Its z).go i H ∧ ∃ Nx : Hp → Prop, (∀ H', Nx H' → ∃ m', m' < m ∧ W (i + 1) m' H') ∧ ∀ x H', (Its z).yld i H x H' → g x (wipe σ vs) H' fun σ2 H2 => wipe σ2 vs = wipe σ vs ∧ tt σ2 H2 fun b H3 =>
        if b = true then te σ2 H3 fun y H4 => ∃ acc, H4 D = some (.lst acc) ∧ acc.length < sizeLine ∧ Nx (upd H4 D (.lst (acc ++ [y]))) else Nx H3) := by
  refine ⟨fun i n H => n = z.cps.size - i ∧ i ≤ z.cps.size ∧ Pv i H, ⟨z.cps.size, by simp, Nat.zero_le _, h0⟩, ?_⟩
  rintro i n H ⟨rfl, hi, pv⟩
  by_cases hlt : i < z.cps.size
  · refine .inr ⟨hlt, Pv (i + 1), fun H' p' => ⟨z.cps.size - (i + 1), by omega, rfl, hlt, p'⟩, ?_⟩
    rintro x H' ⟨rfl, c, hc, rfl⟩
    exact hs i c _ hc pv
  · have e : i = z.cps.size := by omega
    subst e
    exact .inl ⟨Nat.le_refl _, hd H pv⟩
theorem fx_lcS {p : List PyData → Sto → Prop} (tg : TgC K g vs ok f) (Inv : Str → Nat → List PyData → Sto → Prop)
    (h : EX K W tl δ (fun w δ1 => ∃ z : Str, w = .d (.str z) ∧ NoMl δ1 vs ∧ Inv z 0 [] (wipeD δ1 vs) ∧ LcI K tt te vs ok f (z.cps.toList.map fun c => PyData.str ⟨#[c]⟩) (Inv z) ∧ ∀ acc δ', Inv z z.cps.size acc δ' → p acc δ') ex) : FX K W (tLc (iStr tl) g tt te vs) δ p ex :=
  fun m H σ I Q k k2 => h m H σ I _ (fun v w H1 δ1 g1 s1 I1 o1 ⟨z, e, nv, i0, turn, fin⟩ => by
    subst e
    cases dd_str o1
    refine ⟨z, rfl, fun D hD => ?_⟩
    have nD : ¬ m D := fun y => I1.got D y hD
    refine lc_str (z := z) (fun k H' => ∃ δ' acc, LcS K m D vs σ δ1 H1 (Inv z k) H' δ' acc) ⟨_, _, lc_start I1 hD nv i0⟩ ?_ ?_
    · rintro k c H' hx ⟨δ', acc, S⟩
      have hd : (z.cps.toList.map fun c => PyData.str ⟨#[c]⟩)[k]? = some (.str ⟨#[c]⟩) := by rw [List.getElem?_map, Array.getElem?_toList, hx]; rfl
      obtain ⟨hok, hb⟩ := turn k _ acc δ' hd S.inv
      exact lc_turn tg nD S (.str _) hok hb fun H2 δ2 acc2 S2 => ⟨δ2, acc2, S2⟩
    · rintro H' ⟨δ', acc, S⟩
      exact lc_end nD g1 s1 S (fin acc δ' S.inv) k) k2
/-- a, b = e, e a list -/
theorem sx_unpackL {K : PySem.W.Frag} {W : WX} {δ : Sto} {R : Ends3} {te : TE} {n : Nat} {is : List Nat} (h : EX K W te δ (fun w δ' => ∃ ds, w = .d (.list ds) ∧ ds.length = n ∧ R.nx (setAll δ' is ds)) R.ex) (hn : is.length = n) : SX K W (tAsg te (gLst K n (gNames is))) δ R := fun m H σ I D k1 k2 k3 k4 k5 =>
  h m H σ I _ (fun v w H' δ' g s J o ⟨ds, e, hl, q⟩ => by
    subst e
    obtain ⟨a, xs, rfl, hs, r⟩ := dd_lst o
    refine ⟨a, xs, rfl, Same.seq hide_same hs, by rw [r.length, hl], ?_⟩
    exact names_go is ds xs m H' σ δ' J r (by rw [hl, hn]) fun σ' g' J' => k1 σ' H' _ (g.trans g') J' q) (fun C H' δ' g J e => k5 C σ H' δ' g J e)
end
end M3
/-! ### all(test for x in text), the test any expression that lays new objects at most and reads globals -/
namespace M3
open PySem PySem.Spec PyProof.Rows L2
variable [NmC]
section
variable {X : Cx} {pins : List (Addr × Obj)} {σ : L2.St} {H : Hp} {s : Shared}
/-- the test's answer for each sign -/
def SignE (X : Cx) (scope : Scope) (x : Str) (elt : Expr) (pb : Nat → Bool) : Prop :=
  ∀ (cenv : Env) (B : Around) (c : Nat) (t : Tok) (C : Heap → Prop), cenv.scope = scope → cenv.globals = mainGlobals → (∀ h h', C h → Kp h h' → C h') → (∀ h, C h → ∃ m, h.Ns cenv.locals m ∧ m x = some (.str ⟨#[c]⟩ t)) → (∀ h, C h → h.Ns mainGlobals X.mg) →
    RawE X.prog X.w B cenv C elt (fun _ y => y = .bool (pb c))
/-- a namespace object that stands under a later heap -/
theorem ns_under {h h' : Heap} {b : Addr} {m : Str → Option Value} (n : h.Ns b m) (k : ∀ o, h.get? b = some o → h'.get? b = some o) : h'.Ns b m := by
  obtain ⟨o, es, ep, e, r⟩ := n
  exact ⟨o, es, ep, k o e, r⟩
/-- what the walk gives back, told of the abstract heap -/
theorem signs_back {P it : Addr} {ps qs : Array Value} {hp hh : Heap} {t1 : Nat} {gs : GenState} {s' : Shared} (I : Inv X pins σ H s) (hP : H P = some (.tbl ps)) (grown : ∃ more, qs = ps ++ more) (trip : TriplesOk qs.toList) (bare : gs.bare = true)
    (at3 : hp.get? P = some { cls := .none, data := .fields qs }) (kept : ∀ b u, b ≠ P → s.heap.get? b = some u → hp.get? b = some u) (kh : ∀ b u, hp.get? b = some u → hh.get? b = some u) (lit : s.heap.objs.size ≤ it) (big : s.heap.objs.size ≤ hp.objs.size)
    (mv : Moved (hp.objs.size :: [it]) (GenOnlyQ s.gens.size) { s with heap := hh, gens := s.gens.push gs, toks := t1 } s') : ∃ H2, GxR.Tabbed P H H2 ∧ Inv X pins σ H2 s' := by
  obtain ⟨more, rfl⟩ := grown
  have young : ∀ b u, s.heap.get? b = some u → b ∉ hp.objs.size :: [it] := fun b u e z => by
    have lt := Heap.lt_size e
    rcases List.mem_cons.mp z with z | z
    · rw [z] at lt
      exact Nat.lt_irrefl _ (Nat.lt_of_lt_of_le lt big)
    · rw [List.mem_singleton.mp z] at lt
      exact Nat.lt_irrefl _ (Nat.lt_of_lt_of_le lt lit)
  have oP : s.heap.get? P = some { cls := .none, data := .fields ps } := I.hok P _ hP
  have r := GxR.inv_tab (more := more) (h' := s'.heap) (g' := s'.gens) (d' := s'.drawn) (t' := s'.toks) I hP (fun b u nb e => mv.heap b u (young b u e) (kh b u (kept b u nb e))) (mv.heap P _ (young P _ oP) (kh P _ at3)) (AllBare.movedS (I.bare.push bare) mv)
  rw [GxR.sh_eta s s' mv.os] at r
  exact ⟨_, ⟨⟨_, upd_same, trip⟩, fun b nb => upd_ne nb⟩, r⟩
/-- the code object of a generator expression, found or made -/
theorem code_any {prog : Program} {w : World} {A : Around} {E : Value → Shared → Prop} {env : Env} {c P : Addr} {ps : Array Value} {pos : Pos} {q : Str} {scope : Scope} {Q : Value → Shared → Prop} {s : Shared}
    (hcode : env.code = .ref c) (cd : PySem.W.CodeHd s.heap c P) (oP : s.heap.get? P = some { cls := .none, data := .fields ps }) (ht : TriplesOk ps.toList)
    (k : ∀ (cv : Value) (hp : Heap) (tk : Nat) (qs : Array Value), Heap.ExtBut P s.heap hp → s.heap.objs.size ≤ hp.objs.size → hp.get? P = some { cls := .none, data := .fields qs } → (∃ more, qs = ps ++ more) → TriplesOk qs.toList → Q cv { s with heap := hp, toks := tk }) :
    wpAny (model prog w) A (genexprCode env pos q scope) Q E s := by
  cases hf : codeAmong pos ps.toList with
  | some cv => exact wpAny_genexprCode_hit hcode (cd.code oP ht) hf (k cv s.heap s.toks ps (Heap.ExtBut.refl _ _) (Nat.le_refl _) oP ⟨#[], by simp⟩ ht)
  | none =>
    refine wpAny_genexprCodeX hcode (cd.code oP ht) (cd.tab oP) hf fun c' h' tk0 hx hge hlt hco _ htab _ => ?_
    obtain ⟨_, _, _, _, _, _, _, _, _, _, _, _, _, _, _, _, _, _, _, trip, _⟩ := hco
    exact k (.ref c') h' tk0 _ hx (Nat.le_trans hge (Nat.le_of_lt hlt)) htab.2 ⟨_, rfl⟩ trip
theorem signs_gen {c P : Addr} {elt iter : Expr} {x : Str} {px gpos : Pos} {scope : Scope} {pb : Nat → Bool} {te : TE} {k : Nat} {Q' : Value → Shared → Prop} {R : Str → Hp → Prop}
    (hr : Room k X.A) (TB : LamX.TabB X.base X.mg c P) (hcode : X.env.code = .ref c) (S : GxR.GenS X.env scope x) (hi : PE X iter te) (hel : SignE X scope x elt pb) (hs : ∀ v, genFold iter X.env v = pure v)
    (I : Inv X pins σ H s) (h : te σ H fun v H1 => ∃ a : Str, v = .str a ∧ GxR.TabG H1 P ∧ R a H1) (fin : ∀ a H1 g s5, R a H1 → GxR.Ready X pins σ H1 P a pb g s5 → Q' (.ref g) s5) :
    wpAny (model X.prog X.w) X.A (eval (.GeneratorExp elt [⟨.Name x px, iter, [], 0⟩] scope gpos) X.env) Q' X.xe s := by
  refine wpAny_GeneratorExp_walksQ hr.hd S.co (closure_ok S.free) S.cell S.dot S.loc S.kind (by have := hr.dp; omega) (thn (hi.run pins s σ H _ I h) fun xv s1 ⟨v, H1, I1, r1, a, ev, ⟨ps, hP, ht⟩, post⟩ => ?_) hs
  subst ev
  obtain ⟨t, rfl⟩ := id r1
  refine wpAny_pyIter_str fun o St Wk st0 => ⟨I1.nolimit.push o, ?_⟩
  have lim := I1.nolimit.push o
  have oP : s1.heap.get? P = some { cls := .none, data := .fields ps } := I1.hok P _ hP
  have oP2 : (s1.heap.push o).get? P = some { cls := .none, data := .fields ps } := Heap.get?_push_of_some _ oP
  have cd : PySem.W.CodeHd (s1.heap.push o) c P := TB.code.keeps fun b u e => Heap.get?_push_of_some _ (I1.bk b u e)
  have nS : cStatics ≠ P := fun e => by
    obtain ⟨_, ⟨_, _, _, g, d, _⟩, _⟩ := I1.nolimit
    rw [e, oP] at g
    cases g
    cases d
  have ltS : cStatics < s1.heap.objs.size := by
    obtain ⟨_, n, _⟩ := I1.nolimit
    exact n.lt
  refine code_any hcode cd oP2 ht fun cv hp tk0 qs ext big at3 more trip => ?_
  have glob3 : Heap.Ns hp mainGlobals X.mg := ((I1.mod.glob.keeps I1.bk).push o).extBut ext TB.gP
  have kept : ∀ b u, b ≠ P → s1.heap.get? b = some u → Heap.get? hp b = some u := fun b u nb e => ext b u nb (Heap.get?_push_of_some _ e)
  have ltP := Heap.lt_size oP
  obtain ⟨bm, ob, b1, b2, b3, b4, b5, b6, b7, b8⟩ := id TB.bm
  refine wpAny_builtinsFor (m := X.mg) (by rw [I1.ok.glob]; exact glob3) b1 b2 (kept _ _ b4 (I1.bk _ _ b5)) b6 b7 b8 ?_
  refine ⟨s1.heap.objs.size, [s1.heap.objs.size], [s1.heap.objs.size], a.cps.size, SignAt a, St, fun _ => true, fun i y => ∃ c, a.cps[i]? = some c ∧ y = .bool (pb c), rfl, Wk, ?_, fun b hb => ?_, lim.extBut ext nS, fun z => ?_, fun hq khq => ⟨fun B E i v r m hB hv hn hm hk => ?_, fun B E i v r m hB hv _ hn hm hk => ?_⟩, fun ga hh tk gs bare _ _ kh wk at0 => ?_⟩
  · refine (Wk X.A hr.hd).frame _ _ _ st0 fun b hb u e => ext b u (fun z => ?_) e
    rw [List.mem_singleton.mp hb] at z
    rw [z] at ltP
    exact Nat.lt_irrefl _ ltP
  · rw [List.mem_singleton.mp hb]
    exact Nat.lt_of_lt_of_le (by rw [Heap.size_push]; exact Nat.lt_succ_self _) big
  · rw [List.mem_singleton.mp z] at ltS
    exact Nat.lt_irrefl _ ltS
  · rw [List.forIn_nil]
    exact wpAny_pure ⟨rfl, GxR.keeps_refl _⟩
  · obtain ⟨c, t, hc, rfl⟩ := hv
    have gl : r.heap.Ns mainGlobals X.mg := ns_under glob3 fun u e => hk mainGlobals (List.mem_range.mpr (Heap.lt_size e)) (fun z => by
      obtain ⟨g0, _, _, ge, _⟩ := I1.mod.glob.keeps I1.bk
      have lg := Heap.lt_size ge
      rw [List.mem_singleton.mp z] at lg
      exact Nat.lt_irrefl _ lg) u (khq _ _ e)
    exact hel (genEnv scope (cloFrom X.env.cells scope.names []) _ cv _ X.env) B c t (Kp r.heap) rfl I1.ok.glob (fun h h' c k b u e => k b u (c b u e)) (fun h k => ⟨m, hn.keeps k, hm⟩) (fun h k => gl.keeps k) r _ E (fun _ _ e => e) fun y h' tk k e => ⟨⟨c, hc, e⟩, h', tk, rfl, k⟩
  · simp only [GxR.passing_true, List.length_range] at wk
    refine fin a H1 ga _ post ⟨_, _, _, _, _, wk.in4_1, at0, fun j y sj Qj Ej hy hQj => ?_, fun s' mv => signs_back I1 hP more trip bare at3 kept kh (Nat.le_refl _) (Nat.le_trans (by rw [Heap.size_push]; exact Nat.le_succ _) big) mv⟩
    obtain ⟨i, hi, c, hc, rfl⟩ := hy
    obtain ⟨_, ei⟩ := List.getElem?_eq_some_iff.mp hi
    rw [List.getElem_range] at ei
    subst ei
    have hQ2 : Qj (GxR.trF pb a.cps.toList j) sj := hQj
    rw [GxR.trF_some (by rw [Array.getElem?_toList]; exact hc)] at hQ2
    exact wpAny_truthy_bool hQ2
theorem boot_all : bootBuiltins "all" = some (.builtin "all") := by decide +kernel
theorem pe_allG {c P : Addr} {elt iter : Expr} {x : Str} {px p pos gpos : Pos} {scope : Scope} {pb : Nat → Bool} {te : TE} {k : Nat}
    (hr : Room k X.A) (hg : Gl X "all") (hm : X.mg "all" = none) (TB : LamX.TabB X.base X.mg c P) (hcode : X.env.code = .ref c) (S : GxR.GenS X.env scope x) (hi : PE X iter te) (hel : SignE X scope x elt pb) (hs : ∀ v, genFold iter X.env v = pure v)
    (he : starEach [.GeneratorExp elt [⟨.Name x px, iter, [], 0⟩] scope gpos] X.env = (false, eval (.GeneratorExp elt [⟨.Name x px, iter, [], 0⟩] scope gpos) X.env) :: starEach [] X.env := by rfl) :
    PE X (.Call (.Name "all" p) [.GeneratorExp elt [⟨.Name x px, iter, [], 0⟩] scope gpos] [] pos) (GxR.tAllS P pb te) := by
  refine ⟨fun pins s σ H Q I h => wpAny_Call_Name_kw (ld_blt I hg hm boot_all (PyProof.Rows.callWith_builtin1 ?_ he (by rfl)))⟩
  rw [he]
  show wpAny _ _ (spliced ((false, eval (.GeneratorExp elt [⟨.Name x px, iter, [], 0⟩] scope gpos) X.env) :: backTo pos (starEach [] X.env))) _ _ s
  refine Calls.spliced_cons (signs_gen (R := fun a H1 => ∀ H2, GxR.Tabbed P H1 H2 → Q (.bl (a.cps.toList.all pb)) H2) hr TB hcode S hi hel hs I h fun a H1 g s5 hR hG => ?_)
  obtain ⟨fp, wr, G, F, St, W, st, tr, back⟩ := hG
  refine Calls.spliced_nil (call_all_walkS (W.self 0 _ _ _ st ⟨g, fp, wr, G, _, F, St, _, rfl, W, st, tr, fun s' mv => ?_⟩))
  obtain ⟨H2, hT, J⟩ := back s' mv
  refine ⟨.bl _, H2, J, rfl, ?_⟩
  rw [GxR.all_signs a pb]
  exact hR H2 hT
end
end M3
/-! ### texts, more: a text times an int, two except clauses, tests of a sign with a text of the top -/
namespace M3
open PySem PySem.Spec PyProof.Rows L2
variable [NmC]
section
variable {X : Cx}
theorem iteT' {c : Prop} [Decidable c] {a b : Prop} (h : c) (ha : a) : (if c then a else b) := by rw [if_pos h]; exact ha
theorem iteF' {c : Prop} [Decidable c] {a b : Prop} (h : ¬ c) (hb : b) : (if c then a else b) := by rw [if_neg h]; exact hb
def timesS (x : Str) (n : Nat) : Str := ⟨(List.replicate n x.cps).foldl (· ++ ·) #[]⟩
theorem fold_cat (b : Array Nat) : ∀ (n : Nat) (acc : Array Nat), ((List.replicate n b).foldl (· ++ ·) acc).toList = acc.toList ++ (List.replicate n b.toList).flatten
  | 0, acc => by simp
  | n + 1, acc => by
    rw [List.replicate_succ, List.foldl_cons, fold_cat b n, List.replicate_succ, List.flatten_cons, Array.toList_append, List.append_assoc]
theorem timesS_tl (x : Str) (n : Nat) : (timesS x n).cps.toList = (List.replicate n x.cps.toList).flatten := by
  have := fold_cat x.cps n #[]
  simpa [timesS] using this
theorem timesS_len (x : Str) (n : Nat) : (timesS x n).length = n * x.length := by
  have e : (timesS x n).length = (timesS x n).cps.toList.length := (Array.length_toList ..).symm
  rw [e, timesS_tl]
  simp [Str.length]
theorem op_mul_str : OpR X (binaryOp .Mult) (fun x y H Q => ∃ (a : Str) (n : Nat), x = .str a ∧ y = .int n ∧ 2 ≤ n ∧ n ≤ 1000 ∧ 1 ≤ a.length ∧ a.length ≤ 1000 ∧ Q (.str (timesS a n)) H) := by
  intro pins s σ H x y v u Q I rx ry h
  obtain ⟨a, n, rfl, rfl, h2, h3, h4, h5, q⟩ := h
  obtain ⟨t, rfl⟩ := rx
  obtain ⟨t', rfl⟩ := ry
  have n1 : ¬ (n : Int) < 1 := by omega
  have n2 : ((n : Int) == 1 || a.length == 0) = false := by
    rw [Bool.or_eq_false_iff, beq_eq_false_iff_ne, beq_eq_false_iff_ne]
    omega
  have small : a.length * n ≤ 1000000 := Nat.le_trans (Nat.mul_le_mul h5 h3) (by decide)
  refine PySem.P.mul_str ?_ (fun _ _ => ?_) (fun _ _ => ?_) ?_
  · rw [decide_eq_false (by omega), decide_eq_false (by omega)]; rfl
  · have : (1000 : Int) ≤ (2 ^ 63 - 1) / (n : Int) := by
      rw [Int.le_ediv_iff_mul_le (by omega)]
      omega
    omega
  · rw [Int.toNat_natCast]
    have hz : (1000000 : Nat) ≤ sizeLine := by decide
    unfold Builtin.Str.tooLong
    exact decide_eq_false (by omega)
  · rw [if_neg n1, n2, Int.toNat_natCast]
    refine ⟨?_, ?_⟩
    · have hz : (1000000 : Nat) ≤ sizeLine := by decide
      have := timesS_len a n
      rw [Nat.mul_comm] at this
      show (timesS a n).length ≤ sizeLine
      omega
    · exact ⟨.str _, H, I.tok _, ⟨_, rfl⟩, q⟩
end
section
variable {K : PySem.W.Frag} {W : WX} {δ : Sto} {ex : XP} {post : Vw → Sto → Prop} {te to ta : TE} {R : Ends3}
theorem rx_mulS {a : Str} {n : Nat} (h2 : 2 ≤ n) (h3 : n ≤ 1000) (h4 : 1 ≤ a.length) (h5 : a.length ≤ 1000) (q : post (.d (.str (timesS a n))) δ) :
    RX K (fun x y H Q => ∃ (a : Str) (n : Nat), x = V.str a ∧ y = V.int n ∧ 2 ≤ n ∧ n ≤ 1000 ∧ 1 ≤ a.length ∧ a.length ≤ 1000 ∧ Q (V.str (timesS a n)) H) (.d (.str a)) (.d (.int n)) δ post := fun m H σ v1 v2 I o1 o2 Q k => by
  cases dd_str o1
  cases dd_int o2
  exact ⟨a, n, rfl, rfl, h2, h3, h4, h5, k _ (.d (.str _)) H (.refl H) (.str _) q⟩
theorem rx_isnB {a b : Bool} (q : post (.d (.bool (!decide (a = b)))) δ) : RX K (fun x y H Q => ∃ a b, x = V.bl a ∧ y = V.bl b ∧ Q (V.bl (!decide (a = b))) H) (.d (.bool a)) (.d (.bool b)) δ post := fun m H σ v1 v2 I o1 o2 Q k => by
  cases o1
  cases o2
  exact ⟨a, b, rfl, rfl, k _ (.d (.bool _)) H (.refl H) (.bl _) q⟩
/-- a chain of two comparisons of ints -/
theorem ex_chainI {f g : Int → Int → Bool} {tb tc : TE} (h : EX K W ta δ (fun w δ1 => ∃ i : Int, w = .d (.int i) ∧ EX K W tb δ1 (fun w2 δ2 => ∃ j : Int, w2 = .d (.int j) ∧ (f i j = true → EX K W tc δ2 (fun w3 δ3 => ∃ k : Int, w3 = .d (.int k) ∧ post (.d (.bool (g j k))) δ3) ex) ∧ (f i j = false → post (.d (.bool false)) δ2)) ex) ex) :
    EX K W (tChain (rI0 fun a b => .bl (f a b)) (rI0 fun a b => .bl (g a b)) ta tb tc) δ post ex :=
  fun m H σ I Q k k2 => h m H σ I _ (fun v1 w1 H1 δ1 g1 s1 I1 o1 ⟨i, e1, hb⟩ => by
    subst e1
    cases dd_int o1
    exact hb m H1 σ I1 _ (fun v2 w2 H2 δ2 g2 s2 I2 o2 ⟨j, e2, q1, q2⟩ => by
      subst e2
      cases dd_int o2
      refine ⟨i, j, rfl, rfl, f i j, rfl, ?_⟩
      by_cases hc : f i j = true
      · exact iteT' hc (q1 hc m H2 σ I2 _ (fun v3 w3 H3 δ3 g3 s3 I3 o3 ⟨k', e3, q⟩ => by
          subst e3
          cases dd_int o3
          exact ⟨j, k', rfl, rfl, k _ (.d (.bool _)) H3 δ3 ((g1.trans g2).trans g3) ((s1.trans s2).trans s3) I3 (.bl _) q⟩) fun C H' δ' g J e => k2 C H' δ' ((g1.trans g2).trans g) J e)
      · exact iteF' hc (k _ (.d (.bool false)) H2 δ2 (g1.trans g2) (s1.trans s2) I2 (.bl false) (q2 (Bool.eq_false_iff.mpr hc)))) fun C H' δ' g J e => k2 C H' δ' (g1.trans g) J e) k2
theorem ex_listL {t : TA} (h : AX K W t δ (fun ws δ' => ∃ ds : List PyData, ws = ds.map .d ∧ ds.length ≤ 100000 ∧ post (.d (.list ds)) δ') ex) : EX K W (tLst t) δ post ex := ex_F (p := fun ds δ' => post (.d (.list ds)) δ') (fx_lst h) fun ds δ' h => h
theorem ex_callF {t : TA} {n : Nat} {α : Type} {enc : α → List PyData} {pre : α → Prop} {postF : α → List PyData → Prop} {E : L2.St → XK} (h : AX K W t δ (fun ws δ' => ∃ (ds : List PyData) (a : α), ws = ds.map .d ∧ enc a = ds ∧ (enc a).length = n ∧ pre a ∧ ∀ es, postF a es → post (.d (.list es)) δ') ex) :
    EX K W (tCallG (spF K n enc pre postF) [] E t) δ post ex := ex_F (fx_call (pq := fun es δ' => post (.d (.list es)) δ') h) fun ds δ' h => h
theorem da_rep {H : Hp} {xs : List V} {ds : List PyData} (r : Da K H xs ds) : ∀ n : Nat, Da K H (List.replicate n xs).flatten (List.replicate n ds).flatten
  | 0 => .nil
  | n + 1 => by
    rw [List.replicate_succ, List.replicate_succ, List.flatten_cons, List.flatten_cons]
    exact r.append (da_rep r n)
/-- a fresh list times a number -/
theorem fx_repC {n : Nat} {pq : List PyData → Sto → Prop} (h : FX K W te δ (fun ds δ1 => ds.length * n ≤ 100000 ∧ n ≤ 100000 ∧ pq (List.replicate n ds).flatten δ1) ex) : FX K W (tOp rRep te (tC (.int n))) δ pq ex :=
  fun m H σ I Q k k2 => h m H σ I _ (fun p xs ds H' δ' g s J e r ⟨h1, h2, q⟩ => by
    have hl := r.length
    refine ⟨p, n, xs, rfl, rfl, e, by omega, by omega, ?_, fun p2 hp2 => ?_⟩
    · rw [Int.toNat_natCast, hl]
      exact Nat.le_trans h1 (by decide)
    · rw [Int.toNat_natCast]
      have ee := erase_upd (o := .lst (List.replicate n xs).flatten) hp2
      exact k p2 _ _ _ δ' (by rw [ee]; exact gw_erase g J) s (by rw [ee]; exact J.same erase_same) upd_same (by rw [ee]; exact da_rep (r.mono (hide_mono (J.lists' erase_same) erase_same)) n) q) k2
/-- try with two clauses -/
theorem sx_try2 {c1 c2 : Value} {tb : WX → TS} {t1 t2 : Addr → Value → Option Addr → TS}
    (h : ∀ W', SX K W' (tb W') δ (R.catch fun C δ' => PySem.W.exmOne K C c1 = some true ∧ ∀ a, SX K W (t1 a C none) δ' R)) :
    SX K W (fun D σ H => tb (wMany K W D [(c1, t1), (c2, t2)]) D σ H) δ R := fun m H σ I D k1 k2 k3 k4 k5 =>
  h (wMany K W D [(c1, t1), (c2, t2)]) m H σ I D k1 k2 k3 k4 fun C σ' H' δ' g J ⟨e, q1⟩ => ⟨true, e, fun hb a ha => q1 a m H' σ' J D (fun σ2 H2 δ2 g2 J2 q => k1 σ2 H2 δ2 (g.trans g2) J2 q) (fun v w σ2 H2 δ2 g2 J2 o q => k2 v w σ2 H2 δ2 (g.trans g2) J2 o q)
      (fun σ2 H2 δ2 g2 J2 q => k3 σ2 H2 δ2 (g.trans g2) J2 q) (fun σ2 H2 δ2 g2 J2 q => k4 σ2 H2 δ2 (g.trans g2) J2 q) (fun C σ2 H2 δ2 g2 J2 q => k5 C σ2 H2 δ2 (g.trans g2) J2 q),
    fun hb => nomatch hb⟩
end
section
variable {X : Cx}
/-- x in G, G a text of the top -/
theorem el_inG {scope : Scope} {x n : Str} {z : Str} {tz : Tok} {p1 p2 p3 : Pos} (hg : X.mg n = some (.str z tz)) (hk : scope.kind = .function) (hx : scope.names.lookup x = some .local) (hn : scope.names.lookup n = some .globalImplicit) (hd : (x == ("__debug__" : Str)) = false := by decide) (hd2 : (n == ("__debug__" : Str)) = false := by decide) :
    SignE X scope x (.Compare (.Name x p1) [.In] [.Name n p2] p3) (fun c => decide (c ∈ z.cps.toList)) := by
  intro cenv B c t C es eg st hl hG s Q E hc k
  obtain ⟨m, hm, hx2⟩ := hl _ hc
  refine wpAny_Compare1 ?_
  refine wpAny_Name (wpAny_loadName_local (by rw [es]; exact hk) (show cenv.scope.names.lookup x = some .local by rw [es]; exact hx) hm hx2 ?_) hd
  refine Calls.Name_function_global (by rw [es]; exact hk) (show cenv.scope.names.lookup n = some .globalImplicit by rw [es]; exact hn) (Calls.loadGlobal_global (by rw [eg]; exact hG _ hc) hg ?_) hd2
  refine in_str ?_
  have e := StrLaws.found_one z c
  exact k _ s.heap s.toks (fun _ _ z => z) (congrArg Value.bool e)
theorem gens_by {env : Env} {scope : Scope} {x : Str} (h : (decide (scope.kind = .function) && !scope.isCoroutine && scope.names.all (fun y => !decide (y.2 = .cell) && !decide (y.2 = .free)) && decide (scope.names.lookup (".0" : Str) = some .local) && decide (scope.names.lookup x = some .local)) = true) : GxR.GenS env scope x := by
  simp only [Bool.and_eq_true, Bool.not_eq_true', decide_eq_true_eq, List.all_eq_true, decide_eq_false_iff_not] at h
  obtain ⟨⟨⟨⟨h1, h2⟩, h3⟩, h4⟩, h5⟩ := h
  exact ⟨h1, h2, fun y hy => (h3 y hy).1, h4, h5, fun y hy e => absurd e (h3 y hy).2⟩
end
end M3
/-! ### the end of a law's row, the tables of defs with a generator expression from the ground -/
namespace M3
open PySem PySem.Spec PyProof.Rows L2
/-- the table of a code object -/
def tabAt (K : PySem.W.Frag) (c : Addr) : Addr := match K.lookup c with
  | some ⟨_, _, .fields vs, _⟩ => (match (vs[11]? : Option Value) with | some (.ref P) => P | _ => 0)
  | _ => 0
/-- the defs' tables are empty -/
def OwnTabs (K : PySem.W.Frag) (q : Program) (mg : Str → Option Value) (h : Heap) : Prop := ∀ (x : Str) (f : Addr), ((recsOf q).any fun e => e.name == x) = true → mg x = some (.ref f) → LamX.OwnTab K f h
theorem own_get {K : PySem.W.Frag} {h : Heap} {f c P : Addr} {oc : Value} {od : Option Addr} {fd : FuncData} {sl : Array (Option Value)} (own : LamX.OwnTab K f h) (l : K.lookup f = some ⟨oc, od, .func fd, sl⟩) (e : fd.code = .ref c) (hC : PySem.W.codeHdIn K c P = true) : h.get? P = some emptyT := by
  unfold PySem.W.codeHdIn at hC
  split at hC
  · rename_i vs _ hk
    simp only [Bool.and_eq_true] at hC
    obtain ⟨⟨⟨⟨⟨e1, _⟩, _⟩, _⟩, _⟩, _⟩ := hC
    split at e1
    · rename_i P' h11
      have hP : P' = P := beq_iff_eq.mp e1
      subst hP
      exact own c _ _ _ _ _ _ _ l rfl e hk h11
    · cases e1
  · cases hC
theorem walk_law3 {l : PySem.W.OpenLaw} {k : Nat} {q : Program} {loose : List Str} {XP : (Str → Option Value) → Heap → Prop} {YP : World → Heap → Prop} {d : DefRec} {K : Params → PySem.W.Frag} {x : Str}
    (hn : l.most = some 63) (hdf : d.params.defaults = []) (hr : Room k callerA) (hY : ∀ (w : World) (h : Heap), YP w h → (K w.params).In h)
    (F : ∀ (w : World) (mg : Str → Option Value) (fa : Addr) (h : Heap), YP w h → (K w.params).In h → h.Ns mainGlobals mg → mg d.name = some (.ref fa) → OwnTabs (K w.params) q mg h →
      ∃ (N : NmC) (fd : FuncData) (cs : List (Addr × Addr)), (∀ p ∈ cs, h.get? p.2 = some emptyT) ∧ (∀ p ∈ cs, (K w.params).lookup p.2 = none) ∧ (∀ p ∈ cs, PySem.W.CodeHd h p.1 p.2) ∧ (∀ Q, N.tb Q → Q ∈ cs.map (·.2)) ∧
        (∀ (s : Shared) (u : Value), BindsTo s fd ⟨[u], []⟩ [(x, u)]) ∧ ∀ base : Heap, (K w.params).In base → base.Ns mainGlobals mg → (∀ p ∈ cs, TabX base mg p.1 p.2) → FnG l.prog w (K w.params) mg base k fa fd [x] (@spScript N (K w.params))) :
    PySem.W.WalkO q loose XP YP l.row.toRowW d [] (fun f vs => PySem.call f vs) :=
  Att.attach_call hn hdf fun w s₀ s₁ mg mb fa o pm cd doc a vs ns G Y _ _ _ hmg hobj hints hlen hg => by
    have KX := hY w _ Y
    have own : OwnTabs (K w.params) q mg s₁.heap := by
      intro nm f isRec atF c P ob fn ec od vals slots lF eFn eC lC eP
      obtain ⟨rc, inR, same⟩ := List.any_eq_true.mp isRec
      have atF' : mg rc.name = some (.ref f) := (congrArg mg (eq_of_beq same)).trans atF
      obtain ⟨u, obU, fnU, cU, PU, n1, n2, n3, n4, n5, ⟨codeO, codeV, r1, r2, r3, r4⟩, empty⟩ := G.T.tab rc inR
      have eu : u = f := by injection (Option.some.inj (n1.symm.trans atF'))
      subst eu
      have eo : obU = ob := Option.some.inj (n2.symm.trans (KX u ob lF))
      subst eo
      have efn : fnU = fn := by injection (n3.symm.trans eFn)
      subst efn
      have ec : cU = c := by injection (n4.symm.trans eC)
      subst ec
      have eco := Option.some.inj (r1.symm.trans (KX cU _ lC))
      subst eco
      have ev : vals = codeV := by injection r3
      subst ev
      have ep : P = PU := by injection (Option.some.inj (eP.symm.trans r4))
      subst ep
      exact empty
    obtain ⟨N, fd, cs, t1, t2, t3, t4, hb, hF⟩ := F w mg fa _ Y KX G.T.g hmg own
    letI := N
    exact run_law KX G.T.g G.T.b G.T.builtins G.T.nolimit hg t1 t2 t3 t4 G.T.bmain hobj hints hlen hr hF hb
end M3
/-! ### raw tests: or, and; a sign in one of two texts of the top -/
namespace M3
open PySem PySem.Spec PyProof.Rows L2
variable [NmC]
section
variable {prog : Program} {w : World} {A : Around} {env : Env} {C : Heap → Prop} {a b : Expr} {rest : List Expr} {pos : Pos} {p q : Bool}
theorem raw_one {op : BoolOp} {U : Heap → Value → Prop} (h : RawE prog w A env C a U) : RawE prog w A env C (.BoolOp op [a] pos) U := fun s Q E c k => BoolOp_one (h s Q E c k)
theorem raw_or (st : ∀ h h', C h → Kp h h' → C h') (ha : RawE prog w A env C a (fun _ y => y = .bool p)) (hb : RawE prog w A env C (.BoolOp .Or (b :: rest) pos) (fun _ y => y = .bool q)) : RawE prog w A env C (.BoolOp .Or (a :: b :: rest) pos) (fun _ y => y = .bool (p || q)) := fun s Q E c k => by
  refine BoolOp_or (ha s _ E c fun u h1 tk1 k1 e1 => ?_)
  subst e1
  refine wpAny_truthy_bool ?_
  cases p with
  | true => exact k _ h1 tk1 k1 rfl
  | false => exact hb _ Q E (st _ _ c k1) fun u2 h2 tk2 k2 e2 => k u2 h2 tk2 (fun b o e => k2 b o (k1 b o e)) e2
end
section
variable {X : Cx}
theorem el_orG {scope : Scope} {x : Str} {e1 e2 : Expr} {pos : Pos} {p q : Nat → Bool} (h1 : SignE X scope x e1 p) (h2 : SignE X scope x e2 q) : SignE X scope x (.BoolOp .Or [e1, e2] pos) (fun c => p c || q c) :=
  fun cenv B c t C es eg st hl hG => raw_or st (h1 cenv B c t C es eg st hl hG) (raw_one (h2 cenv B c t C es eg st hl hG))
end
/-! ### defs that call themselves: the promise by depth -/
section
variable {P : Program} {w : World} {K : PySem.W.Frag} {mg : Str → Option Value} {base : Heap} {f : Addr} {fd : FuncData} {ps : List Str}
theorem fn_void {k : Nat} {α : Type} {n : Nat} {enc : α → List PyData} {pre : α → Prop} {post : α → PyData → Prop} {exn : α → Value → Prop} (no : ∀ a, ¬ pre a) : FnG P w K mg base k f fd ps (spD K n enc pre post exn) :=
  ⟨fun _ _ _ _ ⟨_, a, _, _, _, _, h, _⟩ => absurd h (no a), fun _ _ _ _ _ _ _ _ _ _ _ _ _ _ ⟨_, a, _, _, _, _, h, _⟩ => absurd h (no a)⟩
theorem fn_voidM {k : Nat} {α : Type} {n : Nat} {enc : α → List PyData} {pre : List PyData → α → Prop} {post : List PyData → α → PyData → List PyData → Prop} (no : ∀ es a, ¬ pre es a) : FnG P w K mg base k f fd ps (spM K n enc pre post) :=
  ⟨fun _ _ _ _ ⟨_, _, _, _, es, a, _, _, _, _, _, _, _, _, h, _⟩ => absurd h (no es a), fun _ _ _ _ _ _ _ _ _ _ _ _ _ _ ⟨_, _, _, _, es, a, _, _, _, _, _, _, _, _, h, _⟩ => absurd h (no es a)⟩
end
/-! ### in and not in, a tuple of any data -/
def rMemT (K : PySem.W.Frag) (neg : Bool) : R2 := fun x y H Q => ∃ d ds, Dp K H x d ∧ Dp K H y (.tuple ds) ∧ SeqAt.shaped d = true ∧ SeqAt.shaped (.tuple ds) = true ∧ Q (.bl (neg != ds.any fun z => PyData.eqv z d)) H
section
variable {X : Cx}
theorem op_memT (hu : X.A.units + 65 < cLine) : OpR X (compareOp .In) (rMemT X.K false) := by
  intro pins s σ H x y v u Q I rx ry ⟨d, ds, pd, pt, okd, okt, q⟩
  obtain ⟨as, rd⟩ := Dp.reads I d x v pd rx
  obtain ⟨bs, rt⟩ := Dp.reads I (.tuple ds) y u pt ry
  rw [Bool.false_bne] at q
  exact SeqAt.in_tuple_reads rt rd (SeqAt.canLay_of_shaped okt) (SeqAt.canLay_of_shaped okd) (room_in_shaped okd hu) ⟨.bl _, H, I, rfl, q⟩
theorem op_notMemT (hu : X.A.units + 65 < cLine) : OpR X (compareOp .NotIn) (rMemT X.K true) := by
  intro pins s σ H x y v u Q I rx ry ⟨d, ds, pd, pt, okd, okt, q⟩
  obtain ⟨as, rd⟩ := Dp.reads I d x v pd rx
  obtain ⟨bs, rt⟩ := Dp.reads I (.tuple ds) y u pt ry
  rw [Bool.true_bne] at q
  exact SeqAt.notIn_tuple_reads rt rd (SeqAt.canLay_of_shaped okt) (SeqAt.canLay_of_shaped okd) (room_in_shaped okd hu) ⟨.bl _, H, I, rfl, q⟩
end
section
variable {K : PySem.W.Frag} {δ : Sto} {post : Vw → Sto → Prop}
theorem rx_memT {neg : Bool} {d : PyData} {ds : List PyData} (h1 : SeqAt.shaped d = true) (h2 : SeqAt.shaped (.tuple ds) = true) (q : post (.d (.bool (neg != ds.any fun z => PyData.eqv z d))) δ) : RX K (rMemT K neg) (.d d) (.d (.tuple ds)) δ post := fun m H σ v1 v2 I o1 o2 Q k =>
  ⟨d, ds, dp_of (Dd.mono hide_same o1) (SeqAt.canLay_of_shaped h1), dp_of (Dd.mono hide_same o2) (SeqAt.canLay_of_shaped h2), h1, h2, k _ (.d (.bool _)) H (.refl H) (.bl _) q⟩
end
end M3
/-! ### dicts as data, keys ints and texts: they are read, not changed -/
namespace M3
open PySem PySem.Spec PyProof.Rows L2
variable [NmC]
abbrev dcD (kvs : DL) : PyData := .dict (pyK kvs)
def lkD : DL → Key → Option PyData
  | [], _ => none
  | (k, d) :: r, x => if k = x then some d else lkD r x
theorem kD_inj {a b : Key} (h : kD a = kD b) : a = b := by
  cases a <;> cases b <;> simp only [kD] at h <;> cases h <;> rfl
section
variable {K : PySem.W.Frag} {H : Hp}
theorem dk_look : ∀ {xs : List (Key × V)} {kvs : DL}, Dk K H xs (pyK kvs) → ∀ x : Key, (valV xs x = none ∧ lkD kvs x = none) ∨ ∃ v d, valV xs x = some v ∧ lkD kvs x = some d ∧ Dd K H v d
  | _, [], .nil, x => .inl ⟨rfl, rfl⟩
  | _, (k, d) :: kvs, r, x => by
    generalize e : pyK ((k, d) :: kvs) = es at r
    cases r with
    | nil => cases e
    | @cons k' v vs d' ds hd r =>
      have e : (kD k, d) :: pyK kvs = (kD k', d') :: ds := e
      have e1 := List.head_eq_of_cons_eq e
      have e2 := List.tail_eq_of_cons_eq e
      have ek : k = k' := kD_inj (congrArg Prod.fst e1)
      have ed : d = d' := congrArg Prod.snd e1
      subst ek ed e2
      by_cases c : k = x
      · subst c
        exact .inr ⟨v, d, by simp [valV], by simp [lkD], hd⟩
      · rcases dk_look r x with ⟨h1, h2⟩ | ⟨v2, d2, h1, h2, h3⟩
        · exact .inl ⟨by simp [valV, c] at h1 ⊢; exact h1, by simp [lkD, c, h2]⟩
        · exact .inr ⟨v2, d2, by simp [valV, c] at h1 ⊢; exact h1, by simp [lkD, c, h2], h3⟩
theorem dd_dc0 {v : V} {kvs : DL} (h : Dd K H v (dcD kvs)) : ∃ a o xs, v = .ref a ∧ H a = some (.frz o (.dK xs)) ∧ Dk K H xs (pyK kvs) := by
  unfold dcD at h
  generalize e : (pyK kvs) = ds at h
  cases h with
  | dK h r => exact ⟨_, _, _, rfl, h, r⟩
  | dT h ne r =>
    exfalso
    cases r with
    | nil => exact ne rfl
    | cons hd r =>
      cases kvs with
      | nil => cases e
      | cons p kvs =>
        have e1 := congrArg Prod.fst (List.head_eq_of_cons_eq (show (kD p.1, p.2) :: pyK kvs = _ from e))
        obtain ⟨k, d⟩ := p
        cases k <;> cases e1
end
section
variable {K : PySem.W.Frag} {W : WX} {δ : Sto} {ex : XP} {post : Vw → Sto → Prop} {td ty : TE}
theorem dd_key {H : Hp} {v : V} {k : Key} (h : Dd K H v (kD k)) : v = kV k := by
  cases k with
  | inl i => exact dd_int h
  | inr s => exact dd_str h
/-- seen as a dict whose keys are ints and texts: data, or of one's own -/
inductive DV (δ : Sto) : Vw → DL → Prop
  | d (kvs : DL) : DV δ (.d (dcD kvs)) kvs
  | m {i : Nat} {p : Addr} {kvs : DL} (h : δ[i]? = some (.md p kvs)) : DV δ (.m i) kvs
theorem dv_at {m : Addr → Prop} {H : Hp} {σ : L2.St} {v : V} {w : Vw} {kvs : DL} (I : Env3 K m H σ δ) (o : VwOk K m H δ v w) (h : DV δ w kvs) : ∃ a xs, v = .ref a ∧ Rd H a (.dK xs) ∧ Dk K (hide (hid m δ) H) xs (pyK kvs) := by
  cases h with
  | d kvs =>
    obtain ⟨a, ob, xs, e, ha, r⟩ := dd_dc0 o
    exact ⟨a, xs, e, .inr ⟨ob, (hide_in ha).2⟩, r⟩
  | @m i p kvs h =>
    obtain ⟨p', c', e1, rfl⟩ := o
    rw [h] at e1
    cases e1
    obtain ⟨_, _, u, hp, k⟩ := I.ow i p _ h
    cases k with
    | dK r => exact ⟨p, _, rfl, .inl hp, r⟩
/-- d[k] -/
theorem ex_dgetV (h : EX K W td δ (fun w δ1 => EX K W ty δ1 (fun w2 δ2 => ∃ kvs k d, DV δ2 w kvs ∧ w2 = .d (kD k) ∧ lkD kvs k = some d ∧ post (.d d) δ2) ex) ex) : EX K W (tDGet td ty) δ post ex :=
  fun m H σ I Q k k2 => h m H σ I _ (fun v1 w1 H1 δ1 g1 s1 I1 o1 hb =>
    hb m H1 σ I1 _ (fun v2 w2 H2 δ2 g2 s2 I2 o2 ⟨kvs, x, d, dv, e2, hl, q⟩ => by
      subst e2
      obtain ⟨a, xs, rfl, ha, r⟩ := dv_at I2 (o1.go g2 s2) dv
      cases dd_key o2
      rcases dk_look r x with ⟨_, z⟩ | ⟨v, d', z1, z2, z3⟩
      · rw [hl] at z; cases z
      · rw [hl] at z2
        cases z2
        exact ⟨a, v, rfl, .inl ⟨xs, x, ha, rfl, z1.symm⟩, k v (.d d) H2 δ2 (g1.trans g2) (s1.trans s2) I2 z3 q⟩) fun C H' δ' g J e => k2 C H' δ' (g1.trans g) J e) k2
theorem ex_dget {kvs : DL} (hne : kvs ≠ []) (h : EX K W td δ (fun w δ1 => w = .d (dcD kvs) ∧ EX K W ty δ1 (fun w2 δ2 => ∃ k d, w2 = .d (kD k) ∧ lkD kvs k = some d ∧ post (.d d) δ2) ex) ex) : EX K W (tDGet td ty) δ post ex :=
  ex_dgetV (h.imp (fun w δ' ⟨e, z⟩ => z.imp (fun w2 δ2 ⟨k, d, e2, hl, q⟩ => ⟨kvs, k, d, by rw [e]; exact .d kvs, e2, hl, q⟩) fun _ _ e => e) fun _ _ e => e)
theorem look_some {H : Hp} {xs : List (Key × V)} {kvs : DL} (r : Dk K H xs (pyK kvs)) (x : Key) : (valV xs x).isSome = (lkD kvs x).isSome := by
  rcases dk_look r x with ⟨z1, z2⟩ | ⟨v, d', z1, z2, z3⟩ <;> rw [z1, z2] <;> rfl
/-- k in d -/
theorem ex_dinV (h : EX K W ty δ (fun w δ1 => ∃ k, w = .d (kD k) ∧ EX K W td δ1 (fun w2 δ2 => ∃ kvs, DV δ2 w2 kvs ∧ post (.d (.bool (lkD kvs k).isSome)) δ2) ex) ex) : EX K W (tDIn ty td) δ post ex :=
  fun m H σ I Q k k2 => h m H σ I _ (fun v1 w1 H1 δ1 g1 s1 I1 o1 ⟨x, e1, hb⟩ => by
    subst e1
    cases dd_key o1
    exact hb m H1 σ I1 _ (fun v2 w2 H2 δ2 g2 s2 I2 o2 ⟨kvs, dv, q⟩ => by
      obtain ⟨a, xs, rfl, ha, r⟩ := dv_at I2 o2 dv
      refine ⟨a, valV xs x, rfl, .inl ⟨xs, x, ha, rfl, rfl⟩, ?_⟩
      rw [look_some r]
      exact k _ (.d (.bool _)) H2 δ2 (g1.trans g2) (s1.trans s2) I2 (.bl _) q) fun C H' δ' g J e => k2 C H' δ' (g1.trans g) J e) k2
theorem ex_dnotinV (h : EX K W ty δ (fun w δ1 => ∃ k, w = .d (kD k) ∧ EX K W td δ1 (fun w2 δ2 => ∃ kvs, DV δ2 w2 kvs ∧ post (.d (.bool (!(lkD kvs k).isSome))) δ2) ex) ex) : EX K W (tDNotIn ty td) δ post ex :=
  fun m H σ I Q k k2 => h m H σ I _ (fun v1 w1 H1 δ1 g1 s1 I1 o1 ⟨x, e1, hb⟩ => by
    subst e1
    cases dd_key o1
    exact hb m H1 σ I1 _ (fun v2 w2 H2 δ2 g2 s2 I2 o2 ⟨kvs, dv, q⟩ => by
      obtain ⟨a, xs, rfl, ha, r⟩ := dv_at I2 o2 dv
      refine ⟨a, valV xs x, rfl, .inl ⟨xs, x, ha, rfl, rfl⟩, ?_⟩
      rw [look_some r]
      exact k _ (.d (.bool _)) H2 δ2 (g1.trans g2) (s1.trans s2) I2 (.bl _) q) fun C H' δ' g J e => k2 C H' δ' (g1.trans g) J e) k2
theorem ex_din {kvs : DL} (hne : kvs ≠ []) (h : EX K W ty δ (fun w δ1 => ∃ k, w = .d (kD k) ∧ EX K W td δ1 (fun w2 δ2 => w2 = .d (dcD kvs) ∧ post (.d (.bool (lkD kvs k).isSome)) δ2) ex) ex) : EX K W (tDIn ty td) δ post ex :=
  ex_dinV (h.imp (fun w δ' ⟨k, e, z⟩ => ⟨k, e, z.imp (fun w2 δ2 ⟨e2, q⟩ => ⟨kvs, by rw [e2]; exact .d kvs, q⟩) fun _ _ e => e⟩) fun _ _ e => e)
theorem ex_dnotin {kvs : DL} (hne : kvs ≠ []) (h : EX K W ty δ (fun w δ1 => ∃ k, w = .d (kD k) ∧ EX K W td δ1 (fun w2 δ2 => w2 = .d (dcD kvs) ∧ post (.d (.bool (!(lkD kvs k).isSome))) δ2) ex) ex) : EX K W (tDNotIn ty td) δ post ex :=
  ex_dnotinV (h.imp (fun w δ' ⟨k, e, z⟩ => ⟨k, e, z.imp (fun w2 δ2 ⟨e2, q⟩ => ⟨kvs, by rw [e2]; exact .d kvs, q⟩) fun _ _ e => e⟩) fun _ _ e => e)
end
/-- isinstance in a comprehension's block -/
theorem call_isiB {X : Cx} {K : PySem.W.Frag} (h : X.K = K) : CallR X (.builtin "isinstance") (rIsiD K) := call_isiD h
/-! e[lo:hi], e a tuple, not the whole of it -/
section
variable {K : PySem.W.Frag} {W : WX} {δ : Sto} {ex : XP} {post : Vw → Sto → Prop} {te : TE}
theorem ex_slT {tl th : TO} (h : EX K W te δ (fun w δ1 => OX K W tl δ1 (fun lo δ2 => OX K W th δ2 (fun hi δ3 => ∃ ds, w = .d (.tuple ds) ∧ ¬ (HT.sIx ds.length 0 lo = 0 ∧ HT.sIx ds.length ds.length hi = ds.length) ∧ post (.d (.tuple (cutD ds lo hi))) δ3) ex) ex) ex) : EX K W (tSl (rSlT K) te tl th) δ post ex :=
  fun m H σ I Q k k2 => h m H σ I _ (fun v1 w1 H1 δ1 g1 s1 I1 o1 hb => hb m H1 σ I1 _ (fun lo H2 δ2 g2 s2 I2 hc => hc m H2 σ I2 _ (fun hi H3 δ3 g3 s3 I3 ⟨ds, e, hw, q⟩ => by
      subst e
      have o := Dd.mono (g2.trans g3).same o1
      obtain ⟨a, xs, rfl, hs, r⟩ := dd_tup o
      have hl := r.length
      refine ⟨a, xs, rfl, Same.tup hide_same hs, by rw [hl]; exact hw, fun p hp => ?_⟩
      have sm := same_upd (o := .tup (cutV xs lo hi)) hp
      refine k (.ref p) (.d (.tuple _)) _ δ3 (((g1.trans g2).trans g3).trans (.of_same I3 sm)) ((s1.trans s2).trans s3) (I3.same sm) ?_ q
      have rc : Da K (hide (hid m δ3) H3) (cutV xs lo hi) (cutD ds lo hi) := by
        unfold cutV cutD
        rw [hl]
        exact da_take _ (da_drop _ r)
      exact .tup (.inl (.inl (hide_some (not_hid I3 hp) upd_same))) (rc.mono (hide_mono (I3.lists' sm) sm)))
    (fun C H' δ' g J e => k2 C H' δ' ((g1.trans g2).trans g) J e))
    (fun C H' δ' g J e => k2 C H' δ' (g1.trans g) J e)) k2
end
end M3
/-! ### lists of one's own: list(e), tuple(e), xs[k] = v, xs.pop(k) -/
namespace M3
open PySem PySem.Spec PyProof.Rows L2
variable [NmC]
section
variable {K : PySem.W.Frag} {δ : Sto}
/-- an own list gets other items -/
theorem chg_core {m : Addr → Prop} {H : Hp} {σ : L2.St} {i : Nat} {p : Addr} {ds es : List PyData} {xs : List V} (I : Env3 K m H σ δ) (hi : δ[i]? = some (.ml p ds)) (r : Da K (hide (hid m δ) H) xs es) :
    Gw m δ H (δ.set i (.ml p es)) (upd H p (.lst xs)) ∧ Env3 K m (upd H p (.lst xs)) σ (δ.set i (.ml p es)) := by
  obtain ⟨_, np, _⟩ := I.ml i p ds hi
  have gone : erase p (upd H p (.lst xs)) = erase p H := by
    funext a
    by_cases c : a = p
    · rw [c, erase_at, erase_at]
    · rw [erase_ne c, erase_ne c, upd_ne c]
  have sm : Same (erase p H) (erase p (upd H p (.lst xs))) := by
    rw [gone]
    exact .refl _
  have r2 : Da K (hide (hid m δ) (erase p (upd H p (.lst xs)))) xs es := by
    rw [gone, hide_erase hi]
    exact r
  exact ⟨.chg I hi sm fun a ha => upd_ne fun z => np (z ▸ ha), I.chg hi sm upd_same r2⟩
theorem da_set {H : Hp} {v : V} {d : PyData} (h : Dd K H v d) : ∀ {xs : List V} {ds : List PyData} (j : Nat), Da K H xs ds → Da K H (xs.set j v) (ds.set j d)
  | _, _, _, .nil => .nil
  | _, _, 0, .cons _ r => .cons h r
  | _, _, j + 1, .cons g r => .cons g (da_set h j r)
theorem da_eraseIdx {H : Hp} : ∀ {xs : List V} {ds : List PyData} (j : Nat), Da K H xs ds → Da K H (xs.eraseIdx j) (ds.eraseIdx j)
  | _, _, _, .nil => .nil
  | _, _, 0, .cons _ r => r
  | _, _, j + 1, .cons g r => .cons g (da_eraseIdx j r)
end
section
variable {K : PySem.W.Frag} {W : WX} {δ : Sto} {ex : XP} {post : Vw → Sto → Prop} {te tk : TE} {R : Ends3}
/-- list(e), e a list or a tuple of data -/
theorem fx_listOf {pq : List PyData → Sto → Prop} (h : EX K W te δ (fun w δ1 => ∃ ds, (w = .d (.list ds) ∨ w = .d (.tuple ds)) ∧ pq ds δ1) ex) :
    FX K W (tCB (fun xs H Q => ∃ p ys, xs = [V.ref p] ∧ (SqL K H p ys ∨ SqT K H p ys) ∧ ∀ l, H l = none → Q (.ref l) (upd H l (.lst ys))) (tCons te tNil)) δ pq ex :=
  fun m H σ I Q k k2 => h m H σ I _ (fun v w H1 δ1 g1 s1 I1 o1 ⟨ds, hw, q⟩ => by
    have fin : ∀ a xs, v = .ref a → (SqL K H1 a xs ∨ SqT K H1 a xs) → Da K (hide (hid m δ1) H1) xs ds → ∃ p ys, [v] = [V.ref p] ∧ (SqL K H1 p ys ∨ SqT K H1 p ys) ∧ ∀ l, H1 l = none → Q (.ref l) (upd H1 l (.lst ys)) := fun a xs e hs r => by
      refine ⟨a, xs, by rw [e], hs, fun l hl => ?_⟩
      have ee := erase_upd (o := .lst xs) hl
      exact k l xs ds _ δ1 (by rw [ee]; exact g1) s1 (by rw [ee]; exact I1) upd_same (by rw [ee]; exact r) q
    rcases hw with e | e
    · subst e
      obtain ⟨a, xs, rfl, hs, r⟩ := dd_lst o1
      exact fin a xs rfl (.inl (Same.seq hide_same hs)) r
    · subst e
      obtain ⟨a, xs, rfl, hs, r⟩ := dd_tup o1
      exact fin a xs rfl (.inr (Same.tup hide_same hs)) r) k2
/-- tuple(xs), xs a list of one's own -/
theorem ex_tupOf {i : Nat} {p : Addr} {ds : List PyData} (hi : δ[i]? = some (.ml p ds)) (q : post (.d (.tuple ds)) δ) :
    EX K W (tCB (fun xs H Q => ∃ p ys, xs = [V.ref p] ∧ ((SqL K H p ys ∧ ∀ l, H l = none → Q (.ref l) (upd H l (.tup ys))) ∨ (SqT K H p ys ∧ Q (.ref p) H))) (tCons (tVar i) tNil)) δ post ex := fun m H σ I Q k k2 => by
  obtain ⟨hσ, np, xs, hx, r⟩ := I.ml i p ds hi
  refine ⟨.ref p, hσ, p, xs, rfl, .inl ⟨.inl (.inl hx), fun l hl => ?_⟩⟩
  have sm := same_upd (o := .tup xs) hl
  refine k (.ref l) (.d (.tuple ds)) _ δ (.of_same I sm) (.refl δ) (I.same sm) ?_ q
  exact .tup (.inl (.inl (hide_some (not_hid I hl) upd_same))) (r.mono (hide_mono (I.lists' sm) sm))
/-- xs.pop(k) -/
theorem ex_popI {i : Nat} {p0 : Addr} {ds0 : List PyData} (h0 : δ[i]? = some (.ml p0 ds0)) (h : EX K W tk δ (fun w δ1 => ∃ (k : Int) (j : Nat) (d : PyData) (ds : List PyData), w = .d (.int k) ∧ δ1[i]? = some (.ml p0 ds) ∧ -(2 ^ 63) ≤ k ∧ k < 2 ^ 63 ∧ seqIndex? k ds.length = some j ∧ ds[j]? = some d ∧ post (.d d) (δ1.set i (.ml p0 (ds.eraseIdx j)))) ex) :
    EX K W (tBM K "list" rPopAt (tVar i) (tCons tk tNil)) δ post ex := fun m H σ I Q k k2 => by
  obtain ⟨hσ, _, xs0, hx0, _⟩ := I.ml i p0 ds0 h0
  refine ⟨.ref p0, hσ, .inl ⟨rfl, xs0, .inl (.inl hx0)⟩, ?_⟩
  refine h m H σ I _ (fun v w H1 δ1 g1 s1 I1 o1 ⟨n, j, d, ds, e, h1, b1, b2, hj, hd, q⟩ => ?_) k2
  subst e
  cases dd_int o1
  obtain ⟨_, np, xs, hp, r⟩ := I1.ml i p0 ds h1
  obtain ⟨y, hy, ry⟩ := Da.get r hd
  obtain ⟨g2, I2⟩ := chg_core I1 h1 (da_eraseIdx j r)
  exact ⟨p0, xs, n, j, y, rfl, rfl, hp, b1, b2, by rw [r.length]; exact hj, hy, k y (.d d) _ _ (g1.trans g2) (s1.trans (.chg h1)) I2 (Dd.mono g2.same ry) q⟩
/-- xs[k] = v -/
theorem sx_setI {i : Nat} {p0 : Addr} {ds0 : List PyData} (h0 : δ[i]? = some (.ml p0 ds0)) (h : EX K W te δ (fun w δ1 => ∃ d, w = .d d ∧ EX K W tk δ1 (fun w2 δ2 => ∃ (k : Int) (j : Nat) (ds : List PyData), w2 = .d (.int k) ∧ δ2[i]? = some (.ml p0 ds) ∧ ixN ds.length k = some j ∧ R.nx (δ2.set i (.ml p0 (ds.set j d)))) R.ex) R.ex) :
    SX K W (tAsg te (gSub (tVar i) tk rSetL)) δ R := fun m H σ I D k1 k2 k3 k4 k5 =>
  h m H σ I _ (fun v w H1 δ1 g1 s1 I1 o1 ⟨d, e, hk⟩ => by
    subst e
    obtain ⟨es, h1⟩ := s1 i p0 _ h0
    obtain ⟨hσ, _, _⟩ := I1.ow i p0 es h1
    refine ⟨.ref p0, hσ, ?_⟩
    refine hk m H1 σ I1 _ (fun v2 w2 H2 δ2 g2 s2 I2 o2 ⟨n, j, ds, e2, h2, hj, q⟩ => ?_) fun C H' δ' g J e => k5 C σ H' δ' (g1.trans g) J e
    subst e2
    cases dd_int o2
    obtain ⟨_, np, xs, hp, r⟩ := I2.ml i p0 ds h2
    obtain ⟨g3, I3⟩ := chg_core I2 h2 (da_set (show Dd K _ v d from o1.go g2 s2) j r)
    exact ⟨p0, xs, n, j, rfl, rfl, hp, by rw [r.length]; exact hj, k1 σ _ _ ((g1.trans g2).trans g3) I3 q⟩) (fun C H' δ' g J e => k5 C σ H' δ' g J e)
end
end M3
/-! ### new objects of any content; dicts of one's own: made, copied, changed; frozen for ever -/
namespace M3
open PySem PySem.Spec PyProof.Rows L2
variable [NmC]
section
variable {K : PySem.W.Frag} {W : WX} {δ : Sto} {ex : XP} {post : Vw → Sto → Prop} {pn : Cn → Sto → Prop} {te td ty tv : TE} {R : Ends3} {t : TS}
/-- e hands out a new object that nobody else has -/
def NX (K : PySem.W.Frag) (W : WX) (te : TE) (δ : Sto) (post : Cn → Sto → Prop) (ex : XP) : Prop :=
  ∀ (m : Addr → Prop) (H : Hp) (σ : L2.St), Env3 K m H σ δ → ∀ Q : VK,
    (∀ p o c H' δ', Gw m δ H δ' (erase p H') → Stay δ δ' → Env3 K m (erase p H') σ δ' → H' p = some o → CnOk K (hide (hid m δ') (erase p H')) c o → post c δ' → Q (.ref p) H') →
    (∀ C H' δ', Gw m δ H δ' H' → Env3 K m H' σ δ' → ex C δ' → W C none σ H') → te σ H Q
theorem nx_F {p : List PyData → Sto → Prop} (h : FX K W te δ p ex) (q : ∀ ds δ', p ds δ' → pn (.l ds) δ') : NX K W te δ pn ex :=
  fun m H σ I Q k k2 => h m H σ I Q (fun p xs ds H' δ' g s J e r z => k p _ (.l ds) H' δ' g s J e (.l r) (q _ _ z)) k2
theorem NX.imp {q : Cn → Sto → Prop} {e f : XP} (h : NX K W te δ pn e) (a : ∀ w δ', pn w δ' → q w δ') (b : ∀ C δ', e C δ' → f C δ') : NX K W te δ q f :=
  fun m H σ I Q k k2 => h m H σ I Q (fun p o c H' δ' g s J e r z => k p o c H' δ' g s J e r (a _ _ z)) fun C H' δ' g J e => k2 C H' δ' g J (b _ _ e)
theorem sx_asgN {i : Nat} (h : NX K W te δ (fun c δ' => ∀ p, R.nx (δ'.set i (.ow p c))) R.ex) : SX K W (tAsg te (gName i)) δ R := fun m H σ I D k1 k2 k3 k4 k5 =>
  h m H σ I _ (fun p o c H' δ' g s J e r q => k1 _ _ _ (g.trans (.set_ow J)) (J.set_ow e r) (q p)) (fun C H' δ' g J e => k5 C σ H' δ' g J e)
theorem nx_dnewK (q : pn (.d []) δ) : NX K W tDNewK δ pn ex := fun m H σ I Q k k2 p hp => by
  have ee := erase_upd (o := .dK []) hp
  exact k p (.dK []) (.d []) _ δ (by rw [ee]; exact .refl) (.refl δ) (by rw [ee]; exact I) upd_same (.dK .nil) q
theorem nx_dnewT (q : pn (.t []) δ) : NX K W tDNewT δ pn ex := fun m H σ I Q k k2 p hp => by
  have ee := erase_upd (o := .dT []) hp
  exact k p (.dT []) (.t []) _ δ (by rw [ee]; exact .refl) (.refl δ) (by rw [ee]; exact I) upd_same (.dT .nil) q
end
/-! ### frozen for ever: a ghost step -/
/-- the dict that e hands out is locked for ever -/
def tFrz (t : TE) : TE := fun σ H Q => t σ H fun v H1 => ∃ d u, v = .ref d ∧ H1 d = some u ∧ Mut (some u) ∧ ∀ od, Q v (upd H1 d (.frz od u))
/-- ahead of the statement a dict may be locked for ever -/
def tFrzS (t : TS) : TS := fun D σ H => t D σ H ∨ ∃ d u, H d = some u ∧ Mut (some u) ∧ ∀ od, t D σ (upd H d (.frz od u))
section
variable {X : Cx}
theorem pe_frz {e : Expr} {t : TE} (h : PE X e t) : PE X e (tFrz t) := ⟨fun pins s σ H Q I hw => thn (h.run pins s σ H _ I hw) fun v s1 ⟨x, H1, I1, r, d, u, e, hd, mu, q⟩ => by
  obtain ⟨od, I2⟩ := I1.lock hd mu
  exact ⟨x, _, I2, r, q od⟩⟩
theorem ps_frz {st : Stmt} {t : TS} (h : PS X st t) : PS X st (tFrzS t) := ⟨fun pins s σ H D I hw => by
  rcases hw with hw | ⟨d, u, hd, mu, hw⟩
  · exact h.run pins s σ H D I hw
  · obtain ⟨od, I2⟩ := I.lock hd mu
    exact h.run pins s σ _ D I2 (hw od)⟩
end
section
variable {K : PySem.W.Frag} {W : WX} {δ : Sto} {ex : XP} {post : Vw → Sto → Prop} {pn : Cn → Sto → Prop} {te td ty tv : TE} {R : Ends3} {t : TS}
theorem same_frz {H : Hp} {p : Addr} {o : HO} : Same (erase p H) (upd H p o) := .of fun a u z => by
  have ne : a ≠ p := fun y => by rw [y, erase_at] at z; cases z
  rw [erase_ne ne] at z
  rw [upd_ne ne]
  exact z
theorem ex_frzN (h : NX K W te δ (fun c δ' => ∃ kvs, c = .d kvs ∧ post (.d (dcD kvs)) δ') ex) : EX K W (tFrz te) δ post ex := fun m H σ I Q k k2 =>
  h m H σ I _ (fun p o c H' δ' g s J e r ⟨kvs, ec, q⟩ => by
    subst ec
    cases r with
    | @dK xs _ r =>
      refine ⟨p, _, rfl, e, True.intro, fun od => ?_⟩
      have sm := same_frz (H := H') (p := p) (o := .frz od (.dK xs))
      exact k (.ref p) (.d (dcD kvs)) _ δ' (g.trans (.of_same J sm)) s (J.same sm) (.dK (hide_some (not_hid J erase_at) upd_same) (r.mono (hide_mono (J.lists' sm) sm))) q) k2
theorem sx_frz1 (h : SX K W t δ R) : SX K W (tFrzS t) δ R := fun m H σ I D k1 k2 k3 k4 k5 => .inl (h m H σ I D k1 k2 k3 k4 k5)
theorem set_none_self {i : Nat} {p : Addr} {σ : L2.St} (h : σ[i]? = some (some (.ref p))) : σ.set i (some (.ref p)) = σ := by
  obtain ⟨hl, e⟩ := List.getElem?_eq_some_iff.mp h
  rw [← e]
  exact List.set_getElem_self hl
/-- a dict of one's own, in the slot i, is data from here on -/
theorem sx_frzD {i : Nat} {p : Addr} {kvs : DL} (hi : δ[i]? = some (.md p kvs)) (h : SX K W t (δ.set i (.dat (dcD kvs))) R) : SX K W (tFrzS t) δ R := fun m H σ I D k1 k2 k3 k4 k5 => by
  obtain ⟨hσ, np, u, hp, kk⟩ := I.ow i p _ hi
  cases kk with
  | @dK xs _ r =>
    refine .inr ⟨p, _, hp, True.intro, fun od => ?_⟩
    have hl : i < δ.length := (List.getElem?_eq_some_iff.mp hi).1
    have nhid : ¬ hid m (δ.set i (.dat (dcD kvs))) p := fun z => by
      rcases z with z | ⟨j, es, z⟩
      · exact np z
      · rcases set_get z with ⟨_, e1, _⟩ | ⟨ne, z⟩
        · cases e1
        · exact ne (I.one i j p _ es hi z)
    have sm : Same (hide (hid m δ) H) (hide (hid m (δ.set i (.dat (dcD kvs)))) (upd H p (.frz od (.dK xs)))) := .of fun a o z => by
      obtain ⟨c, z⟩ := hide_in z
      have ne : a ≠ p := fun y => c (.inr ⟨i, _, by rw [y]; exact hi⟩)
      refine hide_some (fun y => c (hid_set (s := .dat (dcD kvs)) (fun _ _ q => nomatch q) y)) ?_
      rw [upd_ne ne]
      exact z
    have kp : ∀ a, m a → upd H p (.frz od (.dK xs)) a = H a := fun a ha => upd_ne fun y => np (y ▸ ha)
    have J : Env3 K m (upd H p (.frz od (.dK xs))) σ (δ.set i (.dat (dcD kvs))) := by
      refine ⟨by rw [List.length_set, I.len], fun j e hj => ?_, fun j q es hj => ?_, fun j k q es fs hj hk => ?_, fun a ha => by rw [kp a ha]; exact I.got a ha, ⟨fun a o ha e => by rw [kp a ha] at e; exact I.tab.ls a o ha e, fun P hP => ?_⟩⟩
      · rcases set_get hj with ⟨rfl, e1, _⟩ | ⟨ne, hj⟩
        · cases e1
          exact ⟨_, hσ, .dK (hide_some nhid upd_same) (r.mono sm)⟩
        · obtain ⟨v, g1, g2⟩ := I.dat j e hj
          exact ⟨v, g1, g2.mono sm⟩
      · rcases set_get hj with ⟨_, e1, _⟩ | ⟨ne, hj⟩
        · cases e1
        · obtain ⟨g1, g2, ys, g3, g4⟩ := I.ow j q es hj
          refine ⟨g1, g2, ys, ?_, g4.mono sm⟩
          rw [upd_ne fun y => ne (I.one i j p _ es hi (by rw [← y]; exact hj))]
          exact g3
      · rcases set_get hj with ⟨_, e1, _⟩ | ⟨ne, hj⟩
        · cases e1
        · rcases set_get hk with ⟨_, e1, _⟩ | ⟨ne2, hk⟩
          · cases e1
          · exact I.one j k q es fs hj hk
      · exact same_frz.tb ((I.tab.has P hP).eraseO hp ob_dK)
    have g0 : Gw m δ H (δ.set i (.dat (dcD kvs))) (upd H p (.frz od (.dK xs))) := ⟨sm, kp⟩
    exact h m _ σ J D (fun σ2 H2 δ2 g2 J2 q => k1 σ2 H2 δ2 (g0.trans g2) J2 q) (fun v w σ2 H2 δ2 g2 J2 o q => k2 v w σ2 H2 δ2 (g0.trans g2) J2 o q)
      (fun σ2 H2 δ2 g2 J2 q => k3 σ2 H2 δ2 (g0.trans g2) J2 q) (fun σ2 H2 δ2 g2 J2 q => k4 σ2 H2 δ2 (g0.trans g2) J2 q) (fun C σ2 H2 δ2 g2 J2 q => k5 C σ2 H2 δ2 (g0.trans g2) J2 q)
end
/-! ### tables: put, merged, without -/
section
variable {κ : Type} [DecidableEq κ]
def putD (kvs : List (κ × PyData)) (k : κ) (d : PyData) : List (κ × PyData) :=
  if (kvs.any fun kv => decide (kv.1 = k)) = true then kvs.map (fun kv => if kv.1 = k then (kv.1, d) else kv) else kvs ++ [(k, d)]
def mergeD (kvs more : List (κ × PyData)) : List (κ × PyData) := more.foldl (fun acc kv => putD acc kv.1 kv.2) kvs
def dropD (kvs : List (κ × PyData)) (k : κ) : List (κ × PyData) := kvs.filter fun kv => decide (kv.1 ≠ k)
end
section
variable {K : PySem.W.Frag} {H : Hp}
theorem dk_keys : ∀ {xs : List (Key × V)} {kvs : DL}, Dk K H xs (pyK kvs) → xs.map (·.1) = kvs.map (·.1)
  | _, [], .nil => rfl
  | _, (k, d) :: kvs, r => by
    generalize e : pyK ((k, d) :: kvs) = es at r
    cases r with
    | nil => cases e
    | @cons k' v vs d' ds hd r =>
      have e : (kD k, d) :: pyK kvs = (kD k', d') :: ds := e
      have ek : k = k' := kD_inj (congrArg Prod.fst (List.head_eq_of_cons_eq e))
      have e2 := List.tail_eq_of_cons_eq e
      subst ek e2
      rw [List.map_cons, List.map_cons, dk_keys r]
theorem dk_cons {k : Key} {d : PyData} {xs : List (Key × V)} {kvs : DL} (r : Dk K H xs (pyK ((k, d) :: kvs))) : ∃ v ys, xs = (k, v) :: ys ∧ Dd K H v d ∧ Dk K H ys (pyK kvs) := by
  generalize e : pyK ((k, d) :: kvs) = es at r
  cases r with
  | nil => cases e
  | @cons k' v vs d' ds hd r =>
    have e : (kD k, d) :: pyK kvs = (kD k', d') :: ds := e
    have ek : k = k' := kD_inj (congrArg Prod.fst (List.head_eq_of_cons_eq e))
    have ed : d = d' := congrArg Prod.snd (List.head_eq_of_cons_eq e)
    have e2 := List.tail_eq_of_cons_eq e
    subst ek ed e2
    exact ⟨v, vs, rfl, hd, r⟩
theorem dk_len {xs : List (Key × V)} {kvs : DL} (r : Dk K H xs (pyK kvs)) : xs.length = kvs.length := by
  have := congrArg List.length (dk_keys r)
  simpa using this
theorem dk_snoc {k : Key} {v : V} {d : PyData} (h : Dd K H v d) : ∀ {xs : List (Key × V)} {kvs : DL}, Dk K H xs (pyK kvs) → Dk K H (xs ++ [(k, v)]) (pyK (kvs ++ [(k, d)]))
  | _, [], .nil => .cons h .nil
  | _, (k', d') :: kvs, r => by
    obtain ⟨v', ys, rfl, hd, r⟩ := dk_cons r
    exact .cons hd (dk_snoc h r)
theorem dk_repl {k : Key} {v : V} {d : PyData} (h : Dd K H v d) : ∀ {xs : List (Key × V)} {kvs : DL}, Dk K H xs (pyK kvs) →
    Dk K H (xs.map fun kv => if kv.1 = k then (kv.1, v) else kv) (pyK (kvs.map fun kv => if kv.1 = k then (kv.1, d) else kv))
  | _, [], .nil => .nil
  | _, (k', d') :: kvs, r => by
    obtain ⟨v', ys, rfl, hd, r⟩ := dk_cons r
    by_cases c : k' = k
    · rw [List.map_cons, List.map_cons, if_pos c, if_pos c]
      exact .cons h (dk_repl h r)
    · rw [List.map_cons, List.map_cons, if_neg c, if_neg c]
      exact .cons hd (dk_repl h r)
theorem any_keys {κ α β : Type} [DecidableEq κ] {xs : List (κ × α)} {ys : List (κ × β)} (h : xs.map (·.1) = ys.map (·.1)) (k : κ) : (xs.any fun kv => decide (kv.1 = k)) = ys.any fun kv => decide (kv.1 = k) := by
  have e1 : (xs.any fun kv => decide (kv.1 = k)) = (xs.map (·.1)).any fun x => decide (x = k) := by rw [List.any_map]; rfl
  have e2 : (ys.any fun kv => decide (kv.1 = k)) = (ys.map (·.1)).any fun x => decide (x = k) := by rw [List.any_map]; rfl
  rw [e1, e2, h]
theorem dk_put {k : Key} {v : V} {d : PyData} {xs : List (Key × V)} {kvs : DL} (r : Dk K H xs (pyK kvs)) (h : Dd K H v d) : Dk K H (putK xs k v) (pyK (putD kvs k d)) := by
  unfold putK putD
  rw [any_keys (dk_keys r) k]
  split
  · exact dk_repl h r
  · exact dk_snoc h r
theorem dk_drop {k : Key} : ∀ {xs : List (Key × V)} {kvs : DL}, Dk K H xs (pyK kvs) → Dk K H (dropK xs k) (pyK (dropD kvs k))
  | _, [], .nil => .nil
  | _, (k', d') :: kvs, r => by
    obtain ⟨v', ys, rfl, hd, r⟩ := dk_cons r
    unfold dropK dropD
    by_cases c : k' = k
    · rw [List.filter_cons_of_neg (by simp [c]), List.filter_cons_of_neg (by simp [c])]
      exact dk_drop r
    · rw [List.filter_cons_of_pos (by simp [c]), List.filter_cons_of_pos (by simp [c])]
      exact .cons hd (dk_drop r)
theorem dk_merge : ∀ {more : DL} {ms xs : List (Key × V)} {kvs : DL}, Dk K H xs (pyK kvs) → Dk K H ms (pyK more) → Dk K H (mergeK xs ms) (pyK (mergeD kvs more))
  | [], _, xs, kvs, r, .nil => r
  | (k, d) :: more, _, xs, kvs, r, q => by
    obtain ⟨v, ys, rfl, hd, q⟩ := dk_cons q
    exact (show Dk K H (mergeK (putK xs k v) ys) (pyK (mergeD (putD kvs k d) more)) from dk_merge (dk_put r hd) q)
end
theorem lkD_map (k j : Key) (d : PyData) : ∀ kvs : DL, lkD (kvs.map fun kv => if kv.1 = k then (kv.1, d) else kv) j = (lkD kvs j).map fun x => if j = k then d else x
  | [] => rfl
  | (k', d') :: r => by
    have ih := lkD_map k j d r
    rw [List.map_cons]
    by_cases c : k' = k
    · rw [if_pos c]
      by_cases e : k' = j
      · simp [lkD, e, ← c]
      · simp only [lkD, if_neg e]
        exact ih
    · rw [if_neg c]
      by_cases e : k' = j
      · have : j ≠ k := fun z => c (e.trans z)
        simp [lkD, e, this]
      · simp only [lkD, if_neg e]
        exact ih
theorem lkD_any (k : Key) : ∀ kvs : DL, (kvs.any fun kv => decide (kv.1 = k)) = (lkD kvs k).isSome
  | [] => rfl
  | (k', d') :: r => by
    rw [List.any_cons]
    by_cases e : k' = k
    · simp [lkD, e]
    · simp only [lkD, if_neg e, decide_eq_false e, Bool.false_or]
      exact lkD_any k r
theorem lkD_snoc (k j : Key) (d : PyData) : ∀ kvs : DL, lkD kvs k = none → lkD (kvs ++ [(k, d)]) j = if j = k then some d else lkD kvs j
  | [], _ => by
    by_cases e : k = j
    · simp [lkD, e]
    · have : ¬ j = k := fun z => e z.symm
      simp [lkD, e, this]
  | (k', d') :: r, hn => by
    have hk : ¬ k' = k := fun z => by simp [lkD, z] at hn
    simp only [lkD, if_neg hk] at hn
    have ih := lkD_snoc k j d r hn
    rw [List.cons_append]
    by_cases e : k' = j
    · have : ¬ j = k := fun z => hk (e.trans z)
      simp [lkD, e, this]
    · simp only [lkD, if_neg e]
      exact ih
theorem lkD_put (kvs : DL) (k j : Key) (d : PyData) : lkD (putD kvs k d) j = if j = k then some d else lkD kvs j := by
  unfold putD
  rw [lkD_any]
  cases q : lkD kvs k with
  | none => simpa using lkD_snoc k j d kvs q
  | some x =>
    simp only [Option.isSome_some, if_true]
    rw [lkD_map]
    by_cases e : j = k
    · rw [if_pos e, e, q]
      simp
    · rw [if_neg e]
      cases lkD kvs j <;> simp [e]
theorem putD_length_le {κ : Type} [DecidableEq κ] (kvs : List (κ × PyData)) (k : κ) (d : PyData) : (putD kvs k d).length ≤ kvs.length + 1 := by
  unfold putD
  split
  · rw [List.length_map]; omega
  · rw [List.length_append]; simp
theorem mergeD_length_le {κ : Type} [DecidableEq κ] : ∀ (more kvs : List (κ × PyData)), (mergeD kvs more).length ≤ kvs.length + more.length
  | [], kvs => Nat.le_refl _
  | p :: r, kvs => by
    have h1 := mergeD_length_le r (putD kvs p.1 p.2)
    have h2 := putD_length_le kvs p.1 p.2
    show (mergeD (putD kvs p.1 p.2) r).length ≤ _
    rw [List.length_cons]; omega
theorem paired_imp {α β : Type} {R S : α → β → Prop} : ∀ {xs : List α} {ys : List β}, Paired R xs ys → (∀ x y, R x y → S x y) → Paired S xs ys
  | _, _, .nil, _ => .nil
  | _, _, .cons h r, f => .cons (f _ _ h) (paired_imp r f)
/-! ### displays, copies, pairs -/
section
variable {K : PySem.W.Frag} {W : WX} {δ : Sto} {ex : XP} {post : Vw → Sto → Prop} {pn : Cn → Sto → Prop} {te td ty tk tv : TE} {R : Ends3} {t : TS} {trs : List (TE × TE)}
/-- the pairs of a display -/
def PX (K : PySem.W.Frag) (W : WX) (trs : List (TE × TE)) (δ : Sto) (post : DL → Sto → Prop) (ex : XP) : Prop :=
  ∀ (m : Addr → Prop) (H : Hp) (σ : L2.St), Env3 K m H σ δ → ∀ Q : List (V × V) → Hp → Prop,
    (∀ (kvs : DL) (xs : List (Key × V)) H' δ', Gw m δ H δ' H' → Stay δ δ' → Env3 K m H' σ δ' → Dk K (hide (hid m δ') H') xs (pyK kvs) → post kvs δ' → Q (xs.map fun kv => (kV kv.1, kv.2)) H') →
    (∀ C H' δ', Gw m δ H δ' H' → Env3 K m H' σ δ' → ex C δ' → W C none σ H') → tPairs trs σ H Q
theorem px_nil {p : DL → Sto → Prop} (q : p [] δ) : PX K W [] δ p ex := fun m H σ I Q k _ => k [] [] H δ .refl (.refl δ) I .nil q
theorem px_cons {p : DL → Sto → Prop} (h : EX K W tk δ (fun w δ1 => ∃ k, w = .d (kD k) ∧ EX K W tv δ1 (fun w2 δ2 => ∃ d, w2 = .d d ∧ PX K W trs δ2 (fun kvs δ3 => p ((k, d) :: kvs) δ3) ex) ex) ex) : PX K W ((tk, tv) :: trs) δ p ex :=
  fun m H σ I Q k k2 => h m H σ I _ (fun v1 w1 H1 δ1 g1 s1 I1 o1 ⟨x, e1, hb⟩ => by
    subst e1
    cases dd_key o1
    exact hb m H1 σ I1 _ (fun v2 w2 H2 δ2 g2 s2 I2 o2 ⟨d, e2, hr⟩ => by
      subst e2
      exact hr m H2 σ I2 _ (fun kvs xs H3 δ3 g3 s3 I3 r q => k ((x, d) :: kvs) ((x, v2) :: xs) H3 δ3 ((g1.trans g2).trans g3) ((s1.trans s2).trans s3) I3 (.cons (o2.mono g3.same) r) q)
        (fun C H' δ' g J e => k2 C H' δ' ((g1.trans g2).trans g) J e)) fun C H' δ' g J e => k2 C H' δ' (g1.trans g) J e) k2
theorem erase_updA {H : Hp} {p : Addr} {o : HO} : erase p (upd H p o) = erase p H := by
  funext a
  by_cases c : a = p
  · rw [c, erase_at, erase_at]
  · rw [erase_ne c, erase_ne c, upd_ne c]
theorem nx_disp (h : PX K W trs δ (fun kvs δ' => kvs.length ≤ 15 ∧ pn (.d (mergeD [] kvs)) δ') XF) : NX K W (tDisp trs) δ pn ex := fun m H σ I Q k k2 p hp => by
  have nD : ¬ m p := fun z => I.got p z hp
  have ee := erase_upd (o := .dK []) hp
  have I' : Env3 K (fun a => m a ∨ a = p) (upd H p (.dK [])) σ δ := (show Env3 K m (erase p (upd H p (.dK []))) σ δ by rw [ee]; exact I).onD ⟨_, upd_same, ob_dK⟩
  refine h _ _ σ I' _ (fun kvs xs H' δ' g s J r ⟨hl, q⟩ => ?_) fun C H' δ' g J e => e.elim
  have hD : H' p = some (.dK []) := by rw [g.keep p (.inr rfl)]; exact upd_same
  refine ⟨hD, xs, rfl, by rw [dk_len r]; exact hl, ?_⟩
  have J1 := J.unD nD
  rw [hid_D] at r
  have sm := g.same
  rw [hid_D, hid_D, ee] at sm
  refine k p _ (.d (mergeD [] kvs)) _ δ' ⟨by rw [erase_updA]; exact sm, fun a ha => ?_⟩ s (by rw [erase_updA]; exact J1) upd_same (.dK (by rw [erase_updA]; exact dk_merge .nil r)) q
  have ne : a ≠ p := fun z => nD (z ▸ ha)
  rw [erase_updA, erase_ne ne, g.keep a (.inl ha), upd_ne ne]
/-- dict(d) -/
abbrev rDictC (K : PySem.W.Frag) : List V → Hp → VK → Prop := fun xs H Q => ∃ a kvs, xs = [.ref a] ∧ Rd H a (.dK kvs) ∧ ∀ p, H p = none → Q (.ref p) (upd H p (.dK kvs))
theorem call_dictC {X : Cx} : CallR X (.type "dict") (rDictC K) := fun pins s σ H xs us Q I r ⟨a, kvs, e, ha, q⟩ => by
  subst e
  obtain ⟨u, eu, ru⟩ := vals1 r
  subst eu
  cases (show u = Value.ref a from ru)
  exact d_copyOf I ha fun p s' hp I' => ⟨.ref p, _, I', rfl, q p hp⟩
theorem nx_copy (h : EX K W te δ (fun w δ1 => ∃ kvs, DV δ1 w kvs ∧ pn (.d kvs) δ1) ex) : NX K W (tCB (rDictC K) (tCons te tNil)) δ pn ex := fun m H σ I Q k k2 =>
  h m H σ I _ (fun v w H1 δ1 g1 s1 I1 o1 ⟨kvs, dv, q⟩ => by
    obtain ⟨a, xs, rfl, ha, r⟩ := dv_at I1 o1 dv
    refine ⟨a, xs, rfl, ha, fun p hp => ?_⟩
    have ee := erase_upd (o := .dK xs) hp
    exact k p _ (.d kvs) _ δ1 (by rw [ee]; exact g1) s1 (by rw [ee]; exact I1) upd_same (.dK (by rw [ee]; exact r)) q) k2
abbrev rDictP (K : PySem.W.Frag) : List V → Hp → VK → Prop := fun xs H Q => ∃ (a : Addr) (ps : List Addr) (kvs : List (Key × V)), xs = [.ref a] ∧ SqL K H a (ps.map V.ref) ∧ Paired (fun p kv => SqT K H p [kV kv.1, kv.2]) ps kvs ∧ ∀ p, H p = none → Q (.ref p) (upd H p (.dK (mergeK [] kvs)))
theorem da_kpairs {H : Hp} : ∀ {kvs : DL} {xs : List V}, Da K H xs (kvs.map fun p => .tuple [kD p.1, p.2]) → ∃ (ps : List Addr) (ys : List (Key × V)), xs = ps.map V.ref ∧ Paired (fun p kv => SqT K H p [kV kv.1, kv.2]) ps ys ∧ Dk K H ys (pyK kvs)
  | [], _, .nil => ⟨[], [], rfl, .nil, .nil⟩
  | (k, d) :: kvs, _, .cons h r => by
    obtain ⟨ps, ys, e, hp, hd⟩ := da_kpairs r
    obtain ⟨a, vs, rfl, hs, rv⟩ := dd_tup h
    cases rv with
    | cons h1 rv =>
      cases rv with
      | cons h2 rv =>
        cases rv
        cases dd_key h1
        exact ⟨a :: ps, (k, _) :: ys, by rw [e]; rfl, .cons hs hp, .cons h2 hd⟩
/-- dict(a list of pairs) -/
theorem nx_pairs (h : EX K W te δ (fun w δ1 => ∃ kvs : DL, w = .d (.list (kvs.map fun p => .tuple [kD p.1, p.2])) ∧ pn (.d (mergeD [] kvs)) δ1) ex) : NX K W (tCB (rDictP K) (tCons te tNil)) δ pn ex := fun m H σ I Q k k2 =>
  h m H σ I _ (fun v w H1 δ1 g1 s1 I1 o1 ⟨kvs, e, q⟩ => by
    subst e
    obtain ⟨a, xs, rfl, hs, r⟩ := dd_lst o1
    obtain ⟨ps, ys, rfl, hp, hd⟩ := da_kpairs r
    refine ⟨a, ps, ys, rfl, Same.seq hide_same hs, paired_imp hp fun p kv z => Same.tup hide_same z, fun p hp => ?_⟩
    have ee := erase_upd (o := .dK (mergeK [] ys)) hp
    exact k p _ (.d (mergeD [] kvs)) _ δ1 (by rw [ee]; exact g1) s1 (by rw [ee]; exact I1) upd_same (.dK (by rw [ee]; exact dk_merge .nil hd)) q) k2
/-! ### a dict of one's own is changed -/
theorem chg_coreC {m : Addr → Prop} {H : Hp} {σ : L2.St} {i : Nat} {p : Addr} {c e : Cn} {o : HO} (I : Env3 K m H σ δ) (hi : δ[i]? = some (.ow p c)) (r : CnOk K (hide (hid m δ) H) e o) :
    Gw m δ H (δ.set i (.ow p e)) (upd H p o) ∧ Env3 K m (upd H p o) σ (δ.set i (.ow p e)) := by
  obtain ⟨_, np, _⟩ := I.ow i p c hi
  have sm : Same (erase p H) (erase p (upd H p o)) := by
    rw [erase_updA]
    exact .refl _
  exact ⟨.chgO I hi sm fun a ha => upd_ne fun z => np (z ▸ ha), I.chgO hi sm upd_same (by rw [erase_updA, hide_erase hi]; exact r)⟩
theorem md_at {m : Addr → Prop} {H : Hp} {σ : L2.St} {i : Nat} {p : Addr} {kvs : DL} (I : Env3 K m H σ δ) (hi : δ[i]? = some (.md p kvs)) : σ[i]? = some (some (.ref p)) ∧ ∃ xs, H p = some (.dK xs) ∧ Dk K (hide (hid m δ) H) xs (pyK kvs) := by
  obtain ⟨hσ, _, o, hp, k⟩ := I.ow i p _ hi
  cases k with
  | dK r => exact ⟨hσ, _, hp, r⟩
/-- d[k] = v -/
theorem sx_dput {i : Nat} {p0 : Addr} {c0 : Cn} (h0 : δ[i]? = some (.ow p0 c0)) (h : EX K W tv δ (fun w δ1 => ∃ d, w = .d d ∧ EX K W ty δ1 (fun w2 δ2 => ∃ (k : Key) (kvs : DL), w2 = .d (kD k) ∧ δ2[i]? = some (.md p0 kvs) ∧ kvs.length < 1000000 ∧ R.nx (δ2.set i (.md p0 (putD kvs k d)))) R.ex) R.ex) :
    SX K W (sDPut (tVar i) ty tv) δ R := fun m H σ I D k1 k2 k3 k4 k5 =>
  h m H σ I _ (fun v w H1 δ1 g1 s1 I1 o1 ⟨d, e, hk⟩ => by
    subst e
    obtain ⟨es, h1⟩ := s1 i p0 _ h0
    obtain ⟨hσ, _, _⟩ := I1.ow i p0 es h1
    refine ⟨.ref p0, hσ, ?_⟩
    refine hk m H1 σ I1 _ (fun v2 w2 H2 δ2 g2 s2 I2 o2 ⟨x, kvs, e2, h2, hl, q⟩ => ?_) fun C H' δ' g J e => k5 C σ H' δ' (g1.trans g) J e
    subst e2
    cases dd_key o2
    obtain ⟨_, xs, hp, r⟩ := md_at I2 h2
    obtain ⟨g3, I3⟩ := chg_coreC I2 h2 (e := .d (putD kvs x d)) (.dK (dk_put r (show Dd K _ v d from o1.go g2 s2)))
    refine ⟨p0, _, rfl, DPut.k hp ?_, k1 σ _ _ ((g1.trans g2).trans g3) I3 q⟩
    rw [dk_len r]
    exact Nat.lt_of_lt_of_le hl (by decide)) (fun C H' δ' g J e => k5 C σ H' δ' g J e)
end
end M3
/-! ### walks over anything, by what it yields -/
namespace M3
open PySem PySem.Spec PyProof.Rows L2
variable [NmC]
/-- J walks over the items ds, wherever the data that Hd holds still stand -/
structure Yd (K : PySem.W.Frag) (J : It) (Hd : Hp) (ds : List PyData) : Prop where
  go : ∀ i H2, Same Hd H2 → i < ds.length → J.go i H2
  stop : ∀ i H2, Same Hd H2 → ds.length ≤ i → J.stop i H2
  yld : ∀ (h : Addr → Prop) i H2 x H3 d, (∀ a, h a → H2 a ≠ none) → (∀ a o, h a → H2 a = some o → Ob o) → Same Hd (hide h H2) → ds[i]? = some d → J.yld i H2 x H3 → Same H2 H3 ∧ Dd K (hide h H3) x d
def IX (K : PySem.W.Frag) (W : WX) (wi : TI) (δ : Sto) (post : List PyData → Sto → Prop) (ex : XP) : Prop :=
  ∀ (m : Addr → Prop) (H : Hp) (σ : L2.St), Env3 K m H σ δ → ∀ R : It → Hp → Prop,
    (∀ J ds H' δ', Gw m δ H δ' H' → Stay δ δ' → Env3 K m H' σ δ' → Yd K J (hide (hid m δ') H') ds → post ds δ' → R J H') →
    (∀ C H' δ', Gw m δ H δ' H' → Env3 K m H' σ δ' → ex C δ' → W C none σ H') → wi σ H R
section
variable {K : PySem.W.Frag} {W : WX} {δ : Sto} {ex : XP} {pi : List PyData → Sto → Prop} {te : TE} {R : Ends3} {t : TS} {wi : TI} {g : TG} {ok : PyData → Prop} {f : Sto → PyData → Sto}
theorem IX.imp {q : List PyData → Sto → Prop} {e f : XP} (h : IX K W wi δ pi e) (a : ∀ w δ', pi w δ' → q w δ') (b : ∀ C δ', e C δ' → f C δ') : IX K W wi δ q f :=
  fun m H σ I Q k k2 => h m H σ I Q (fun J ds H' δ' g s I2 y z => k J ds H' δ' g s I2 y (a _ _ z)) fun C H' δ' g J e => k2 C H' δ' g J (b _ _ e)
/-! ### what is walked -/
theorem ix_L (h : EX K W te δ (fun w δ' => ∃ ds, w = .d (.list ds) ∧ pi ds δ') ex) : IX K W (iList K te) δ pi ex := fun m H σ I Q k k2 =>
  h m H σ I _ (fun v w H' δ' g s J o ⟨ds, e, q⟩ => by
    subst e
    obtain ⟨a, xs, rfl, hs, r⟩ := dd_lst o
    refine ⟨a, rfl, ⟨xs, Same.seq hide_same hs⟩, k _ ds H' δ' g s J ⟨fun i H2 sm hi => ⟨xs, xs[i]'(by rw [r.length]; exact hi), Same.seq sm hs, List.getElem?_eq_getElem _⟩, fun i H2 sm hi => ⟨xs, Same.seq sm hs, by rw [r.length]; exact hi⟩, ?_⟩ q⟩
    rintro h i H2 x H3 d _ _ sm hd ⟨e, hy⟩
    subst e
    have hx := hy xs (Same.seq hide_same (Same.seq sm hs))
    obtain ⟨d', h1, h2⟩ := r.get' hx
    rw [hd] at h1
    cases h1
    exact ⟨.refl _, h2.mono sm⟩) k2
theorem ix_T (h : EX K W te δ (fun w δ' => ∃ ds, w = .d (.tuple ds) ∧ pi ds δ') ex) : IX K W (iTup K te) δ pi ex := fun m H σ I Q k k2 =>
  h m H σ I _ (fun v w H' δ' g s J o ⟨ds, e, q⟩ => by
    subst e
    obtain ⟨a, xs, rfl, hs, r⟩ := dd_tup o
    refine ⟨a, rfl, ⟨xs, Same.tup hide_same hs⟩, k _ ds H' δ' g s J ⟨fun i H2 sm hi => ⟨xs, xs[i]'(by rw [r.length]; exact hi), Same.tup sm hs, List.getElem?_eq_getElem _⟩, fun i H2 sm hi => ⟨xs, Same.tup sm hs, by rw [r.length]; exact hi⟩, ?_⟩ q⟩
    rintro h i H2 x H3 d _ _ sm hd ⟨e, hy⟩
    subst e
    have hx := hy xs (Same.tup hide_same (Same.tup sm hs))
    obtain ⟨d', h1, h2⟩ := r.get' hx
    rw [hd] at h1
    cases h1
    exact ⟨.refl _, h2.mono sm⟩) k2
theorem yd_range {Hd : Hp} (lo : Int) (n : Nat) : Yd K (Itr lo n) Hd (rangeD lo n) where
  go := fun i H2 _ hi => (show i < n by simpa [rangeD] using hi)
  stop := fun i H2 _ hi => (show n ≤ i by simpa [rangeD] using hi)
  yld := fun h i H2 x H3 d _ _ sm hd ⟨e, ex⟩ => by
    subst e ex
    have hi : i < n := by
      have := (List.getElem?_eq_some_iff.mp hd).1
      simpa [rangeD] using this
    rw [rangeD_get hi] at hd
    cases hd
    exact ⟨.refl _, .int _⟩
theorem ix_R1 {ta : TA} (h : AX K W ta δ (fun ws δ' => ∃ n : Int, ws = [.d (.int n)] ∧ (-1000000000 ≤ n ∧ n ≤ 1000000000) ∧ pi (rangeD 0 n.toNat) δ') ex) : IX K W (iRng1 ta) δ pi ex := fun m H σ I Q k k2 =>
  h m H σ I _ (fun v w H' δ' g s J o ⟨n, e, hb, q⟩ => by
    subst e
    obtain ⟨v, rfl, hv⟩ := vw1 o
    cases dd_int hv
    exact ⟨n, rfl, by omega, by omega, k _ _ H' δ' g s J (yd_range 0 n.toNat) q⟩) k2
theorem ix_R2 {ta : TA} (h : AX K W ta δ (fun ws δ' => ∃ lo n : Int, ws = [.d (.int lo), .d (.int n)] ∧ (-1000000000 ≤ lo ∧ lo ≤ 1000000000 ∧ -1000000000 ≤ n ∧ n ≤ 1000000000) ∧ pi (rangeD lo (n - lo).toNat) δ') ex) : IX K W (iRng2 ta) δ pi ex := fun m H σ I Q k k2 =>
  h m H σ I _ (fun v w H' δ' g s J o ⟨lo, n, e, hb, q⟩ => by
    subst e
    obtain ⟨v, u, rfl, hv, hu⟩ := vw2 o
    cases dd_int hv
    cases dd_int hu
    exact ⟨lo, n, rfl, by omega, k _ _ H' δ' g s J (yd_range lo (n - lo).toNat) q⟩) k2
theorem ix_S (h : EX K W te δ (fun w δ' => ∃ z : Str, w = .d (.str z) ∧ pi (z.cps.toList.map fun c => PyData.str ⟨#[c]⟩) δ') ex) : IX K W (iStr te) δ pi ex := fun m H σ I Q k k2 =>
  h m H σ I _ (fun v w H' δ' g s J o ⟨z, e, q⟩ => by
    subst e
    cases dd_str o
    refine ⟨z, rfl, k _ _ H' δ' g s J ⟨fun i H2 _ hi => ?_, fun i H2 _ hi => ?_, ?_⟩ q⟩
    · exact (show i < z.cps.size by simpa using hi)
    · exact (show z.cps.size ≤ i by simpa using hi)
    rintro h i H2 x H3 d _ _ sm hd ⟨e, c, hc, ex⟩
    subst e ex
    rw [List.getElem?_map, Array.getElem?_toList, hc] at hd
    cases hd
    exact ⟨.refl _, .str _⟩) k2
/-- the keys of a dict of data -/
theorem ix_K (h : EX K W te δ (fun w δ' => ∃ kvs : DL, w = .d (dcD kvs) ∧ pi (kvs.map fun p => kD p.1) δ') ex) : IX K W (iKeys te) δ pi ex := fun m H σ I Q k k2 =>
  h m H σ I _ (fun v w H' δ' g s J o ⟨kvs, e, q⟩ => by
    subst e
    obtain ⟨a, ob, xs, rfl, ha, r⟩ := dd_dc0 o
    refine ⟨a, ob, rfl, .inl ⟨xs, (hide_in ha).2, k _ _ H' δ' g s J ⟨fun i H2 sm hi => ⟨sm.at ha nt_frz, ?_⟩, fun i H2 sm hi => ⟨sm.at ha nt_frz, ?_⟩, ?_⟩ q⟩⟩
    · rw [dk_len r]; simpa using hi
    · rw [dk_len r]; simpa using hi
    rintro h i H2 x H3 d _ _ sm hd ⟨e, k, v, hk, ex⟩
    subst e ex
    have ks := dk_keys r
    have e2 : (xs.map (·.1))[i]? = some k := by rw [List.getElem?_map, hk]; rfl
    rw [ks, List.getElem?_map] at e2
    rw [List.getElem?_map] at hd
    cases hi : kvs[i]? with
    | none => rw [hi] at e2; cases e2
    | some p =>
      rw [hi] at e2 hd
      have e3 : p.1 = k := Option.some.inj e2
      have e4 : kD p.1 = d := Option.some.inj hd
      rw [← e4, e3]
      refine ⟨.refl _, ?_⟩
      cases k with
      | inl i => exact .int i
      | inr s => exact .str s) k2
theorem dk_get {H : Hp} : ∀ {kvs : DL} {xs : List (Key × V)} {i : Nat} {k : Key} {v : V}, Dk K H xs (pyK kvs) → xs[i]? = some (k, v) → ∃ d, kvs[i]? = some (k, d) ∧ Dd K H v d
  | [], _, i, k, v, .nil, e => by simp at e
  | (k', d') :: kvs, xs, i, k, v, r, e => by
    obtain ⟨v', ys, rfl, hd, r⟩ := dk_cons r
    cases i with
    | zero =>
      simp only [List.getElem?_cons_zero, Option.some.injEq, Prod.mk.injEq] at e
      obtain ⟨rfl, rfl⟩ := e
      exact ⟨d', rfl, hd⟩
    | succ i =>
      obtain ⟨d, h1, h2⟩ := dk_get (i := i) r (by simpa using e)
      exact ⟨d, by simpa using h1, h2⟩
theorem dd_keyV {H : Hp} (k : Key) : Dd K H (kV k) (kD k) := by
  cases k with
  | inl i => exact .int i
  | inr s => exact .str s
/-- the values -/
theorem ix_V (h : EX K W te δ (fun w δ' => ∃ kvs : DL, w = .d (dcD kvs) ∧ pi (kvs.map fun p => p.2) δ') ex) : IX K W (iVals te) δ pi ex := fun m H σ I Q k k2 =>
  h m H σ I _ (fun v w H' δ' g s J o ⟨kvs, e, q⟩ => by
    subst e
    obtain ⟨a, ob, xs, rfl, ha, r⟩ := dd_dc0 o
    refine ⟨a, ob, xs, rfl, (hide_in ha).2, k _ _ H' δ' g s J ⟨fun i H2 sm hi => ⟨sm.at ha nt_frz, ?_⟩, fun i H2 sm hi => ⟨sm.at ha nt_frz, ?_⟩, ?_⟩ q⟩
    · rw [dk_len r]; simpa using hi
    · rw [dk_len r]; simpa using hi
    rintro h i H2 x H3 d _ _ sm hd ⟨e, k, hk⟩
    subst e
    obtain ⟨d', h1, h2⟩ := dk_get r hk
    rw [List.getElem?_map, h1] at hd
    cases hd
    exact ⟨.refl _, h2.mono sm⟩) k2
theorem fresh_tup {m : Addr → Prop} {h : Addr → Prop} {H2 : Hp} {T : Addr} {vs : List V} {ds : List PyData} (got : ∀ a, h a → H2 a ≠ none) (obs : ∀ a o, h a → H2 a = some o → Ob o) (hT : H2 T = none) (r : Da K (hide h H2) vs ds) :
    Same H2 (upd H2 T (.tup vs)) ∧ Dd K (hide h (upd H2 T (.tup vs))) (.ref T) (.tuple ds) := by
  have sm := same_upd (o := .tup vs) hT
  have nh : ¬ h T := fun z => got T z hT
  refine ⟨sm, .tup (.inl (.inl (hide_some nh upd_same))) (r.mono (hide_mono (fun a o z e => ?_) sm))⟩
  have ne : a ≠ T := fun y => nh (y ▸ z)
  rw [upd_ne ne] at e
  exact obs a o z e
/-- the pairs -/
theorem ix_I (h : EX K W te δ (fun w δ' => ∃ kvs : DL, w = .d (dcD kvs) ∧ pi (kvs.map fun p => .tuple [kD p.1, p.2]) δ') ex) : IX K W (iItems te) δ pi ex := fun m H σ I Q k k2 =>
  h m H σ I _ (fun v w H' δ' g s J o ⟨kvs, e, q⟩ => by
    subst e
    obtain ⟨a, ob, xs, rfl, ha, r⟩ := dd_dc0 o
    refine ⟨a, ob, xs, rfl, (hide_in ha).2, k _ _ H' δ' g s J ⟨fun i H2 sm hi => ⟨sm.at ha nt_frz, ?_⟩, fun i H2 sm hi => ⟨sm.at ha nt_frz, ?_⟩, ?_⟩ q⟩
    · rw [dk_len r]; simpa using hi
    · rw [dk_len r]; simpa using hi
    rintro h i H2 x H3 d got obs sm hd ⟨T, k, v, hk, rfl, hT, rfl⟩
    obtain ⟨d', h1, h2⟩ := dk_get r hk
    rw [List.getElem?_map, h1] at hd
    cases hd
    exact fresh_tup (m := fun _ => False) got obs hT (.cons (dd_keyV k) (.cons (h2.mono sm) .nil))) k2
/-- enumerate(list of data) -/
theorem ix_E {ta : TA} (h : AX K W ta δ (fun ws δ' => ∃ ds : List PyData, ws = [.d (.list ds)] ∧ pi (ds.mapIdx fun i d => .tuple [.int (i : Nat), d]) δ') ex) : IX K W (iEnum K ta) δ pi ex := fun m H σ I Q k k2 =>
  h m H σ I _ (fun v w H' δ' g s J o ⟨ds, e, q⟩ => by
    subst e
    obtain ⟨v, rfl, hv⟩ := vw1 o
    obtain ⟨a, xs, rfl, hs, r⟩ := dd_lst hv
    refine ⟨a, xs, rfl, Same.seq hide_same hs, k _ _ H' δ' g s J ⟨fun i H2 sm hi => ?_, fun i H2 sm hi => ⟨xs, Same.seq sm hs, by rw [r.length]; simpa using hi⟩, ?_⟩ q⟩
    · have hi : i < xs.length := by rw [r.length]; simpa using hi
      exact ⟨xs, xs[i], Same.seq sm hs, List.getElem?_eq_getElem _⟩
    rintro h i H2 x H3 d got obs sm hd ⟨T, y, rfl, hT, rfl, hy⟩
    have hx := hy xs (Same.seq hide_same (Same.seq sm hs))
    obtain ⟨d', h1, h2⟩ := r.get' hx
    rw [List.getElem?_mapIdx, h1] at hd
    cases hd
    exact fresh_tup (m := fun _ => False) got obs hT (.cons (.int _) (.cons (h2.mono sm) .nil))) k2
def zipD (ds es : List PyData) : List PyData := List.zipWith (fun d e => .tuple [d, e]) ds es
/-- zip of two lists of data, or of two tuples -/
theorem ix_Z {ta : TA} (h : AX K W ta δ (fun ws δ' => ∃ ds es : List PyData, (ws = [.d (.list ds), .d (.list es)] ∨ ws = [.d (.tuple ds), .d (.tuple es)]) ∧ pi (zipD ds es) δ') ex) : IX K W (RZ.iZipA K ta) δ pi ex := fun m H σ I Q k k2 =>
  h m H σ I _ (fun v w H' δ' g s J o ⟨ds, es, e, q⟩ => by
    rcases e with e | e
    · subst e
      obtain ⟨v, u, rfl, hv, hu⟩ := vw2 o
      obtain ⟨a, xs, rfl, hs, r⟩ := dd_lst hv
      obtain ⟨b, ys, rfl, hs2, r2⟩ := dd_lst hu
      refine ⟨a, b, xs, ys, rfl, .inl ⟨Same.seq hide_same hs, Same.seq hide_same hs2, k _ _ H' δ' g s J ⟨fun i H2 sm hi => ?_, fun i H2 sm hi => ?_, ?_⟩ q⟩⟩
      · unfold zipD at hi
        rw [List.length_zipWith] at hi
        have h1 : i < xs.length := by rw [r.length]; omega
        have h2 : i < ys.length := by rw [r2.length]; omega
        exact ⟨xs, ys, xs[i], ys[i], Same.seq sm hs, Same.seq sm hs2, List.getElem?_eq_getElem _, List.getElem?_eq_getElem _⟩
      · unfold zipD at hi
        rw [List.length_zipWith] at hi
        exact ⟨xs, ys, Same.seq sm hs, Same.seq sm hs2, by rw [r.length, r2.length]; omega⟩
      rintro h i H2 x H3 d got obs sm hd ⟨T, y, z, rfl, hT, rfl, hy, hz⟩
      have hx := hy xs (Same.seq hide_same (Same.seq sm hs))
      have hx2 := hz ys (Same.seq hide_same (Same.seq sm hs2))
      obtain ⟨d', h1, h2⟩ := r.get' hx
      obtain ⟨d2, h3, h4⟩ := r2.get' hx2
      unfold zipD at hd
      rw [List.getElem?_zipWith, h1, h3] at hd
      cases hd
      exact fresh_tup (m := fun _ => False) got obs hT (.cons (h2.mono sm) (.cons (h4.mono sm) .nil))
    · subst e
      obtain ⟨v, u, rfl, hv, hu⟩ := vw2 o
      obtain ⟨a, xs, rfl, hs, r⟩ := dd_tup hv
      obtain ⟨b, ys, rfl, hs2, r2⟩ := dd_tup hu
      refine ⟨a, b, xs, ys, rfl, .inr ⟨Same.tup hide_same hs, Same.tup hide_same hs2, k _ _ H' δ' g s J ⟨fun i H2 sm hi => ?_, fun i H2 sm hi => ?_, ?_⟩ q⟩⟩
      · unfold zipD at hi
        rw [List.length_zipWith] at hi
        have h1 : i < xs.length := by rw [r.length]; omega
        have h2 : i < ys.length := by rw [r2.length]; omega
        exact ⟨xs, ys, xs[i], ys[i], Same.tup sm hs, Same.tup sm hs2, List.getElem?_eq_getElem _, List.getElem?_eq_getElem _⟩
      · unfold zipD at hi
        rw [List.length_zipWith] at hi
        exact ⟨xs, ys, Same.tup sm hs, Same.tup sm hs2, by rw [r.length, r2.length]; omega⟩
      rintro h i H2 x H3 d got obs sm hd ⟨T, y, z, rfl, hT, rfl, hy, hz⟩
      have hx := hy xs (Same.tup hide_same (Same.tup sm hs))
      have hx2 := hz ys (Same.tup hide_same (Same.tup sm hs2))
      obtain ⟨d', h1, h2⟩ := r.get' hx
      obtain ⟨d2, h3, h4⟩ := r2.get' hx2
      unfold zipD at hd
      rw [List.getElem?_zipWith, h1, h3] at hd
      cases hd
      exact fresh_tup (m := fun _ => False) got obs hT (.cons (h2.mono sm) (.cons (h4.mono sm) .nil))) k2
/-! ### for, comprehensions -/
theorem sx_forY (tg : TgOk K g ok f) (Inv : List PyData → Nat → Sto → Prop) (h : IX K W wi δ (fun ds δ1 => Inv ds 0 δ1 ∧ ForI K W t R ok f ds (Inv ds)) R.ex) : SX K W (tFor wi g t) δ R :=
  fun m H σ I D k1 k2 k3 k4 k5 => h m H σ I _ (fun J ds H1 δ1 g1 s1 I1 Y ⟨i0, turn, fin⟩ => by
    refine ⟨fun i n σ' H' => n = ds.length - i ∧ i ≤ ds.length ∧ ∃ δ', Gw m δ1 H1 δ' H' ∧ Env3 K m H' σ' δ' ∧ Inv ds i δ', ⟨ds.length, rfl, Nat.zero_le _, δ1, .refl, I1, i0⟩, ?_⟩
    rintro i n σ' H' ⟨rfl, hi, δ', g2, J', iv⟩
    by_cases hlt : i < ds.length
    · refine .inr ⟨Y.go i H' (g2.same.trans hide_same) hlt, fun σ2 H2 => ∃ δ2, Gw m δ1 H1 δ2 H2 ∧ Env3 K m H2 σ2 δ2 ∧ Inv ds (i + 1) δ2, fun σ2 H2 ⟨δ2, a, b, c⟩ => ⟨ds.length - (i + 1), by omega, rfl, hlt, δ2, a, b, c⟩, ?_⟩
      intro x H'' hy
      have hd : ds[i]? = some ds[i] := List.getElem?_eq_getElem hlt
      obtain ⟨sm, dd⟩ := Y.yld (hid m δ') i H' x H'' _ (got_hid J') J'.lists g2.same hd hy
      obtain ⟨hok, hb⟩ := turn i _ δ' hd iv
      exact turn_go tg g1 (g2.trans (.of_same J' sm)) (J'.same sm) dd hok hb (fun σ2 H2 δ2 g3 J2 q => ⟨δ2, g3, J2, q⟩) k1 k2 k5
    · have e : i = ds.length := by omega
      subst e
      exact .inl ⟨Y.stop _ H' (g2.same.trans hide_same) (Nat.le_refl _), k1 σ' H' δ' (g1.trans g2) J' (fin δ' iv)⟩) (fun C H' δ' g J e => k5 C σ H' δ' g J e)
theorem LcS.go {m : Addr → Prop} {D : Addr} {vs : List Nat} {σ : L2.St} {δ0 δ' : Sto} {H0 H H2 : Hp} {Inv : List PyData → Sto → Prop} {acc : List PyData} (S : LcS K m D vs σ δ0 H0 Inv H δ' acc) (sm : Same H H2) : LcS K m D vs σ δ0 H0 Inv H2 δ' acc := by
  have hs : Same (hide (hid m δ') (erase D H)) (hide (hid m δ') (erase D H2)) := by
    rw [← hid_D, ← hid_D]
    exact hide_mono (S.env.lists' sm) sm
  obtain ⟨xs, hx, r⟩ := S.lst
  refine ⟨S.same.trans hs, fun a ha => ?_, S.env.same sm, ⟨xs, sm.at hx nt_lst, r.mono hs⟩, S.stay, S.noml, S.inv⟩
  cases q : H a with
  | none => exact absurd q (S.env.got a (.inl ha))
  | some o =>
    rw [sm.at q (S.env.tab.no a o (.inl ha) q), ← S.keep a ha, q]
theorem fx_lcY {tt : TT} {vs : List Nat} {p : List PyData → Sto → Prop} (tg : TgC K g vs ok f) (Inv : List PyData → Nat → List PyData → Sto → Prop)
    (h : IX K W wi δ (fun ds δ1 => NoMl δ1 vs ∧ Inv ds 0 [] (wipeD δ1 vs) ∧ LcI K tt te vs ok f ds (Inv ds) ∧ ∀ acc δ', Inv ds ds.length acc δ' → p acc δ') ex) : FX K W (tLc wi g tt te vs) δ p ex :=
  fun m H σ I Q k k2 => h m H σ I _ (fun J ds H1 δ1 g1 s1 I1 Y ⟨nv, i0, turn, fin⟩ D hD => by
    have nD : ¬ m D := fun z => I1.got D z hD
    have start := lc_start (σ := σ) (Inv := Inv ds 0) I1 hD nv i0
    refine ⟨fun i n H' => n = ds.length - i ∧ i ≤ ds.length ∧ ∃ δ' acc, LcS K m D vs σ δ1 H1 (Inv ds i) H' δ' acc, ⟨ds.length, rfl, Nat.zero_le _, _, _, start⟩, ?_⟩
    rintro i n H' ⟨rfl, hi, δ', acc, S⟩
    have sy : Same (hide (hid m δ1) H1) H' := S.same.trans (hide_same.trans erase_same)
    by_cases hlt : i < ds.length
    · refine .inr ⟨Y.go i H' sy hlt, fun H2 => ∃ δ2 acc2, LcS K m D vs σ δ1 H1 (Inv ds (i + 1)) H2 δ2 acc2, fun H2 ⟨δ2, acc2, c⟩ => ⟨ds.length - (i + 1), by omega, rfl, hlt, δ2, acc2, c⟩, ?_⟩
      intro x H'' hy
      have hd : ds[i]? = some ds[i] := List.getElem?_eq_getElem hlt
      obtain ⟨sm, dd⟩ := Y.yld (hid (fun a => m a ∨ a = D) δ') i H' x H'' _ (got_hid S.env) S.env.lists (by rw [hid_D]; exact S.same) hd hy
      obtain ⟨hok, hb⟩ := turn i _ acc δ' hd S.inv
      rw [hid_D] at dd
      exact lc_turn tg nD (S.go sm) dd hok hb fun H2 δ2 acc2 S2 => ⟨δ2, acc2, S2⟩
    · have e : i = ds.length := by omega
      subst e
      exact .inl ⟨Y.stop _ H' sy (Nat.le_refl _), lc_end nD g1 s1 S (fin acc δ' S.inv) k⟩) k2
end
end M3
/-! ### sorted(set(..)) of texts; a def picked out of a list -/
namespace M3
open PySem PySem.Spec PyProof.Rows L2
variable [NmC]
/-- ss are the texts ks, each once, in their order -/
def SortOf (ss ks : List Str) : Prop := sortedS ss = true ∧ ss.Nodup ∧ ∀ x, x ∈ ss ↔ x ∈ ks
theorem setL_str : ∀ (ks L : List Str), ∃ M : List Str, (ks.map Sum.inr).foldl addL (L.map Sum.inr) = M.map (Sum.inr : Str → Key) ∧ (L.Nodup → M.Nodup) ∧ ∀ x, x ∈ M ↔ x ∈ L ∨ x ∈ ks
  | [], L => ⟨L, rfl, fun n => n, fun x => by simp⟩
  | k :: ks, L => by
    have mi : (Sum.inr k : Key) ∈ L.map (Sum.inr : Str → Key) ↔ k ∈ L := by simp
    by_cases c : k ∈ L
    · obtain ⟨M, e, n, q⟩ := setL_str ks L
      refine ⟨M, ?_, n, fun x => ?_⟩
      · rw [List.map_cons, List.foldl_cons]
        unfold addL
        rw [if_pos (mi.mpr c)]
        exact e
      · rw [q x, List.mem_cons]
        constructor
        · rintro (h | h)
          · exact .inl h
          · exact .inr (.inr h)
        · rintro (h | rfl | h)
          · exact .inl h
          · exact .inl c
          · exact .inr h
    · obtain ⟨M, e, n, q⟩ := setL_str ks (k :: L)
      refine ⟨M, ?_, fun nd => n (List.nodup_cons.mpr ⟨c, nd⟩), fun x => ?_⟩
      · rw [List.map_cons, List.foldl_cons]
        unfold addL
        rw [if_neg (fun z => c (mi.mp z))]
        exact e
      · rw [q x, List.mem_cons, List.mem_cons]
        constructor
        · rintro ((h | h) | h)
          · exact .inr (.inl h)
          · exact .inl h
          · exact .inr (.inr h)
        · rintro (h | h | h)
          · exact .inl (.inr h)
          · exact .inl (.inl h)
          · exact .inr h
theorem le_of_rising : ∀ (r : List Str) (p : Str), risingS p r = true → (p :: r).Pairwise (fun a b => a.cps.toList ≤ b.cps.toList)
  | [], p, _ => List.pairwise_singleton _ _
  | x :: r, p, h => by
    have h : (!ltCps x.cps.toList p.cps.toList && risingS x r) = true := h
    rw [Bool.and_eq_true, Bool.not_eq_true', ltCps_eq] at h
    have h1 : p.cps.toList ≤ x.cps.toList := List.not_lt.mp (of_decide_eq_false h.1)
    have again := le_of_rising r x h.2
    refine List.pairwise_cons.mpr ⟨fun y hy => ?_, again⟩
    rcases List.mem_cons.mp hy with rfl | hy
    · exact h1
    · exact List.le_trans h1 ((List.pairwise_cons.mp again).1 y hy)
theorem le_of_sorted {ss : List Str} (h : sortedS ss = true) : ss.Pairwise (fun a b => a.cps.toList ≤ b.cps.toList) := by
  cases ss with
  | nil => exact List.Pairwise.nil
  | cons p r => exact le_of_rising r p h
theorem str_of_list {a b : Str} (h : a.cps.toList = b.cps.toList) : a = b := by
  cases a; cases b
  exact congrArg Str.mk (Array.toList_inj.mp h)
theorem SortOf.once {ss ts ks : List Str} (a : SortOf ss ks) (b : SortOf ts ks) : ss = ts := by
  have pm : ss.Perm ts := (List.perm_ext_iff_of_nodup a.2.1 b.2.1).mpr fun x => (a.2.2 x).trans (b.2.2 x).symm
  exact pm.eq_of_pairwise (fun x y _ _ h1 h2 => str_of_list (List.le_antisymm h1 h2)) (le_of_sorted a.1) (le_of_sorted b.1)
/-- sorted(set(e)), e a list or a tuple of texts -/
def tSortSet (K : PySem.W.Frag) (te : TE) : TE := fun σ H Q => te σ H fun v H1 => ∃ (l : Addr) (ks : List Str), v = .ref l ∧ (SqL K H1 l (ks.map V.str) ∨ SqT K H1 l (ks.map V.str)) ∧ ks.length < scanBound ∧
  ∀ p o q ss, H1 p = none → q ≠ p → H1 q = none → SortOf ss ks → Q (.ref q) (upd (upd H1 p o) q (.lst (ss.map V.str)))
theorem pe_of {X : Cx} {e : Expr} {t u : TE} (h : PE X e t) (k : ∀ σ H Q, u σ H Q → t σ H Q) : PE X e u := ⟨fun pins s σ H Q I q => h.run pins s σ H Q I (k σ H Q q)⟩
def tUp (te : TE) : TE := fun σ H Q => ∃ R : VK, te σ H R ∧ ∀ v H1, R v H1 → Q v H1
theorem pe_up {X : Cx} {e : Expr} {t : TE} (h : PE X e t) : PE X e (tUp t) := ⟨fun pins s σ H Q I ⟨R, q, k⟩ => thn (h.run pins s σ H R I q) fun u s1 ⟨x, H1, I1, r, z⟩ => ⟨x, H1, I1, r, k _ _ z⟩⟩
theorem kV_map (ks : List Str) : (ks.map (Sum.inr : Str → Key)).map kV = ks.map V.str := by
  rw [List.map_map]; rfl
theorem pe_sortset {X : Cx} {a b : Pos} {pa' pb : Pos} {e : Expr} {te : TE} (calm : X.calm = true) (g1 : Gl X "sorted") (m1 : X.mg "sorted" = none) (g2 : Gl X "set") (m2 : X.mg "set" = none) (he : PE X e te)
    (s1 : starEach [e] X.env = (false, eval e X.env) :: starEach [] X.env := by rfl) (s2 : ∀ x y : Pos, starEach [.Call (.Name "set" x) [e] [] y] X.env = (false, eval (.Call (.Name "set" x) [e] [] y) X.env) :: starEach [] X.env := by intros; rfl) :
    PE X (.Call (.Name "sorted" a) [.Call (.Name "set" b) [e] [] pb] [] pa') (tSortSet X.K te) := by
  refine pe_of (pe_callB (call_sortSet (w := X.w) rfl calm) g1 m1 (by decide +kernel) (pa_cons (pe_callTy (call_setOf (K := X.K) (w := X.w) rfl rfl calm) g2 m2 (by decide +kernel) (pa_cons (pe_up he) pa_nil s1) (he := s1)) pa_nil)) fun σ H Q q => ?_
  refine ⟨_, q, fun v H1 ⟨l, ks, e, hl, few, q⟩ => ?_⟩
  subst e
  refine ⟨l, ks.map Sum.inr, rfl, by rw [kV_map]; exact hl, by rw [List.length_map]; exact few, fun p hp => ?_⟩
  obtain ⟨M, eM, nd, mem⟩ := setL_str ks []
  refine ⟨p, rfl, .inl ⟨M, by rw [← eM]; exact upd_same, fun ss q' pm so hq => ?_⟩⟩
  have ne : q' ≠ p := fun z => by rw [z, upd_same] at hq; cases hq
  rw [upd_ne ne] at hq
  exact q p _ q' ss hp ne hq ⟨so, pm.nodup_iff.mpr (nd List.nodup_nil), fun x => pm.mem_iff.trans ((mem x).trans (by simp))⟩
theorem same_new {H : Hp} {p : Addr} {o : HO} (h : H p = none) : Same H (upd H p o) := .of fun a u z => by
  have ne : a ≠ p := fun y => by rw [y, h] at z; cases z
  rw [upd_ne ne]
  exact z
section
variable {K : PySem.W.Frag} {W : WX} {δ : Sto} {ex : XP} {te : TE} {pl : List PyData → Sto → Prop}
theorem fx_sortset (h : EX K W te δ (fun w δ1 => ∃ ks : List Str, w = .d (.list (ks.map .str)) ∧ ks.length ≤ 4000 ∧ ∀ ss, SortOf ss ks → pl (ss.map .str) δ1) ex) : FX K W (tSortSet K te) δ pl ex := fun m H σ I Q k k2 =>
  h m H σ I _ (fun v w H1 δ1 g1 s1 I1 o1 ⟨ks, e, few, q⟩ => by
    subst e
    obtain ⟨a, xs, rfl, hs, r⟩ := dd_lst o1
    rw [strs_da r] at hs
    refine ⟨a, ks, rfl, .inl (Same.seq hide_same hs), Nat.lt_of_le_of_lt few (by decide), fun p o q' ss hp ne hq so => ?_⟩
    have sm : Same H1 (upd H1 p o) := same_new hp
    have hq' : upd H1 p o q' = none := by rw [upd_ne ne]; exact hq
    have ee := erase_upd (o := .lst (ss.map V.str)) hq'
    refine k q' (ss.map V.str) (ss.map .str) _ δ1 (by rw [ee]; exact g1.trans (.of_same I1 sm)) s1 (by rw [ee]; exact I1.same sm) upd_same (da_strs ss) (q ss so)) k2
end
/-- x(..), x one of two defs -/
def tPick (f1 f2 : Addr) (sp1 sp2 : Sp) (E : L2.St → XK) (tf : TE) (ta : TA) : TE := fun σ H Q => tf σ H fun v H1 => (v = .ref f1 ∧ tCallG sp1 [] E ta σ H1 Q) ∨ (v = .ref f2 ∧ tCallG sp2 [] E ta σ H1 Q)
section
variable {X : Cx} {k1 k2 : Nat} {f1 f2 : Addr} {fd1 fd2 : FuncData} {ps1 ps2 : List Str} {sp1 sp2 : Sp} {E : L2.St → XK} {fe e : Expr} {es : List Expr} {tf : TE} {t : TA} {pos : Pos}
theorem pe_pick (hf : PE X fe tf) (F1 : FnG X.prog X.w X.K X.mg X.base k1 f1 fd1 ps1 sp1) (F2 : FnG X.prog X.w X.K X.mg X.base k2 f2 fd2 ps2 sp2) (hgd : X.A.guards = some []) (hr1 : Room k1 X.A) (hr2 : Room k2 X.A)
    (hk1 : PySem.W.keepIn X.K (.ref f1) = true) (hk2 : PySem.W.keepIn X.K (.ref f2) = true) (hb1 : Binds X.K fd1 ps1 []) (hb2 : Binds X.K fd2 ps2 []) (hx : ∀ σ, PassesAt (L2.CX X.prog X.w) X σ (E σ)) (ha : PA X (e :: es) t)
    (ht : eval (.Call fe (e :: es) [] pos) X.env = (do callWith pos (← eval fe X.env) [] (backTo pos (starEach (e :: es) X.env)) (backToKw pos (keywordEach [] X.env))) := by rfl)
    (he : starEach (e :: es) X.env = (false, eval e X.env) :: starEach es X.env := by rfl) (hpl : (backTo pos (starEach es X.env)).any (·.1) = false := by rfl) : PE X (.Call fe (e :: es) [] pos) (tPick f1 f2 sp1 sp2 E tf t) := by
  refine ⟨fun pins s σ H Q I h => Call_ (thn (hf.run pins s σ H _ I h) fun u s1 ⟨y, H1, I1, ry, q⟩ => ?_) ht⟩
  rcases q with ⟨rfl, q⟩ | ⟨rfl, q⟩
  · obtain rfl : u = Value.ref f1 := ry
    exact PySem.W.callWith_K (h₀ := X.base) I1.ok.mod.kin hk1 (thn (ha.run pos pins s1 σ H1 _ I1 q) fun us s2 ⟨vs, H2, I2, r, q⟩ => ⟨I2.kIn, run_G F1 hgd hr1 hb1 .nil (hx σ) I2 r q⟩) he hpl
  · obtain rfl : u = Value.ref f2 := ry
    exact PySem.W.callWith_K (h₀ := X.base) I1.ok.mod.kin hk2 (thn (ha.run pos pins s1 σ H1 _ I1 q) fun us s2 ⟨vs, H2, I2, r, q⟩ => ⟨I2.kIn, run_G F2 hgd hr2 hb2 .nil (hx σ) I2 r q⟩) he hpl
end
section
variable {K : PySem.W.Frag} {W : WX} {δ : Sto} {ex : XP} {post : Vw → Sto → Prop} {te tf ti : TE} {ta : TA} {pl : List PyData → Sto → Prop}
theorem ex_pick {f1 f2 : Addr} {sp1 sp2 : Sp} {E : L2.St → XK} (h : EX K W tf δ (fun w δ1 => (w = .v (.ref f1) ∧ EX K W (tCallG sp1 [] E ta) δ1 post ex) ∨ (w = .v (.ref f2) ∧ EX K W (tCallG sp2 [] E ta) δ1 post ex)) ex) : EX K W (tPick f1 f2 sp1 sp2 E tf ta) δ post ex := fun m H σ I Q k k2 =>
  h m H σ I _ (fun v w H1 δ1 g1 s1 I1 o1 q => by
    rcases q with ⟨rfl, q⟩ | ⟨rfl, q⟩
    · exact .inl ⟨o1, q m H1 σ I1 Q (fun v w H' δ' g s J o p => k v w H' δ' (g1.trans g) (s1.trans s) J o p) fun C H' δ' g J e => k2 C H' δ' (g1.trans g) J e⟩
    · exact .inr ⟨o1, q m H1 σ I1 Q (fun v w H' δ' g s J o p => k v w H' δ' (g1.trans g) (s1.trans s) J o p) fun C H' δ' g J e => k2 C H' δ' (g1.trans g) J e⟩) k2
/-- [x, y][i] -/
theorem ex_ixTwo {x y : V} (h : EX K W ti δ (fun w δ1 => (w = .d (.int 0) ∧ post (.v x) δ1) ∨ (w = .d (.int 1) ∧ post (.v y) δ1)) ex) : EX K W (tOp (rIxL K) (tLst (tCons (tC x) (tCons (tC y) tNil))) ti) δ post ex := fun m H σ I Q k k2 => by
  refine ⟨show 2 ≤ sizeLine by decide, fun p hp => ?_⟩
  have sm : Same H (upd H p (.lst [x, y])) := same_new hp
  have np := not_hid I hp
  refine h m _ σ (I.same sm) _ (fun v w H1 δ1 g1 s1 I1 o1 q => ?_) fun C H' δ' g J e => k2 C H' δ' ((Gw.of_same I sm).trans g) J e
  have hl : SqL K H1 p [x, y] := .inl (.inl (hide_in (g1.same.at (hide_some np upd_same) nt_lst)).2)
  rcases q with ⟨rfl, q⟩ | ⟨rfl, q⟩
  · exact ⟨p, [x, y], 0, x, rfl, dd_int o1, hl, rfl, k x (.v x) H1 δ1 ((Gw.of_same I sm).trans g1) s1 I1 rfl q⟩
  · exact ⟨p, [x, y], 1, y, rfl, dd_int o1, hl, rfl, k y (.v y) H1 δ1 ((Gw.of_same I sm).trans g1) s1 I1 rfl q⟩
end
end M3
open PySem PySem.Spec PyProof.Rows L2 M3

local macro_rules | `(tactic| walk_at "m3e") => `(tactic| first
  | (with_reducible refine tx_test ?_) | (with_reducible refine tx_B ?_) | (with_reducible refine tx_not ?_) | (with_reducible refine tx_tru ?_) | (with_reducible refine tx_yes ?_)
  | (with_reducible refine tx_and ?_) | (with_reducible refine tx_or ?_)
  | (with_reducible refine ex_op ?_) | (with_reducible refine ex_un ?_) | (with_reducible refine ex_CB ?_) | (with_reducible refine ex_tup ?_) | (with_reducible refine ex_andV ?_) | (with_reducible refine ex_orV ?_) | (with_reducible refine ex_notV ?_) | (with_reducible refine ex_if ?_)
  | (with_reducible refine ax_cons ?_) | (with_reducible refine ax_nil ?_)
  | (refine ex_var rfl ?_) | (refine ex_mvar rfl ?_) | (with_reducible refine ex_int ?_) | (with_reducible refine ex_str ?_) | (with_reducible refine ex_bl ?_) | (with_reducible refine ex_non ?_) | (with_reducible refine ex_cv ?_)
  | (with_reducible refine rx_ii ?_) | (with_reducible refine rx_ib ?_) | (with_reducible refine ux_i ?_) | (with_reducible refine vx_gcd ?_) | (with_reducible refine vx_abs ?_) | (with_reducible refine vx_intI ?_) | (with_reducible refine vx_intB ?_)
  | (with_reducible refine vx_lenT ?_) | (with_reducible refine vx_lenL ?_) | (refine vx_isi (kit_int _) ?_) | (refine vx_isi (kit_bool _) ?_) | (refine vx_isi (kit_tuple _) ?_) | (refine vx_isi (kit_str _) ?_) | (refine vx_isi (kit_list _) ?_)
  | (with_reducible refine rx_eqD (shaped_int _) (shaped_int _) ?_) | (with_reducible refine rx_neD (shaped_int _) (shaped_int _) ?_) | (with_reducible refine rx_eqD (shaped_dR _) (shaped_dR _) ?_) | (with_reducible refine rx_neD (shaped_dR _) (shaped_dR _) ?_)
  | (refine vx_lenT ?_) | (refine vx_lenL ?_) | (refine rx_ixT rfl ?_) | (refine rx_ixL rfl ?_)
  | (refine ⟨[_, _], rfl, Nat.le_of_ble_eq_true rfl, ?_⟩) | (refine ⟨[_], rfl, Nat.le_of_ble_eq_true rfl, ?_⟩) | (refine ⟨[_, _, _], rfl, Nat.le_of_ble_eq_true rfl, ?_⟩) | (refine ⟨[], rfl, Nat.le_of_ble_eq_true rfl, ?_⟩)
  | (refine ⟨_, rfl, ?_⟩))
local macro_rules | `(tactic| walk_at "m3") => `(tactic| first
  | (with_reducible refine sx_seq ?_) | (with_reducible refine sx_ret ?_) | (with_reducible refine sx_next ?_) | (with_reducible refine sx_raise ?_)
  | (with_reducible refine sx_if (tx_or ?_)) | (with_reducible refine sx_if (tx_and ?_)) | (with_reducible refine sx_if ?_)
  | (with_reducible refine sx_asg ?_) | (with_reducible refine sx_drop ?_)
  | walk_at "m3e")
local macro_rules | `(tactic| walk_at "m3s") => `(tactic| simp only [eqv_int, eqv_dR, beq_iff_eq, decide_eq_true_eq, decide_eq_false_iff_not, beq_eq_false_iff_ne, Bool.not_eq_true', Bool.not_eq_false', ne_eq, Decidable.not_not, Int.natCast_inj] at *)
namespace K06
open PySem PySem.Spec PyProof.Rows L2 M3
section
variable [NmC]

theorem exm_self {K : PySem.W.Frag} {S : Addr} (h1 : PySem.W.subIn K (.ref S) (.type "BaseException") = some true) (h2 : PySem.W.isClsIn K S = true) (h3 : PySem.W.typeIn K (.ref S) = some (.type "type"))
    (h4 : PySem.W.subIn K (.ref S) (.ref S) = some true) : PySem.W.exmOne K (.ref S) (.ref S) = some true := by
  have a : (PySem.W.subIn K (.ref S) (.type "BaseException") == some true) = true := by rw [h1]; rfl
  have b : ((PySem.W.clsIn K S).isSome && PySem.W.typeIn K (.ref S) == some (.type "type")) = true := by
    rw [show (PySem.W.clsIn K S).isSome = true from h2, h3]
    rfl
  unfold PySem.W.exmOne
  rw [if_pos a]
  unfold PySem.W.kitCls
  dsimp only
  rw [if_pos b]
  exact h4

/-- what the draws are: whole numbers from 0, not large -/
def Drw (ds : List PyData) : Prop := ∃ L : List Int, ds = L.map .int ∧ ∀ x ∈ L, 0 ≤ x ∧ x < 2147483648
theorem fmod_in {i j : Int} (h : 0 < j) : 0 ≤ i.fmod j ∧ i.fmod j < j := ⟨Int.fmod_nonneg_of_pos _ h, Int.fmod_lt_of_pos _ h⟩
theorem in_snoc {L : List Int} {y : Int} (h : ∀ x ∈ L, 0 ≤ x ∧ x < 2147483648) (h2 : 0 ≤ y ∧ y < 2147483648) : ∀ x ∈ L ++ [y], 0 ≤ x ∧ x < 2147483648 := fun x hx => by
  rcases List.mem_append.mp hx with hx | hx
  · exact h x hx
  · rw [List.mem_singleton.mp hx]; exact h2
theorem map_snoc (L : List Int) (y : Int) : L.map PyData.int ++ [.int y] = (L ++ [y]).map .int := by simp
/-! ### what is recognized -/
section
open SX
def letC (c : Nat) : Bool := decide (c ∈ ("abcdefghijklmnopqrstuvwxyz" : Str).cps.toList)
def digC (c : Nat) : Bool := decide (c ∈ ("0123456789" : Str).cps.toList)
def nameS (l : List Nat) : Bool := decide (1 ≤ l.length) && decide (l.length ≤ 12) && (match l with | c :: _ => letC c | [] => false) && l.all fun c => letC c || digC c
def isName : PyData → Bool
  | .str x => nameS x.cps.toList
  | _ => false
def isR : PyData → Bool
  | .tuple [.int a, .int b] => decide (1 ≤ b) && decide (Nat.gcd a.natAbs b.natAbs = 1)
  | _ => false
/-- ints within are not too large -/
def okR : PyData → Prop
  | .tuple ds => ∀ i : Int, .int i ∈ ds → Bd 9000 i
  | _ => True
/-- texts are not too long -/
def okS : PyData → Prop
  | .str x => x.length ≤ 1000
  | _ => True
end
theorem whole_int {d : PyData} (h : (isI d && !isB d) = true) : ∃ i, d = .int i := by
  cases d <;> first | exact ⟨_, rfl⟩ | cases h
theorem not_whole_l {a b : PyData} (h : (isI a && !isB a) = false) : isR (.tuple [a, b]) = false := by
  cases a <;> cases b <;> first | rfl | cases h
theorem not_whole_r {a b : PyData} (h : (isI b && !isB b) = false) : isR (.tuple [a, b]) = false := by
  cases a <;> cases b <;> first | rfl | cases h
def eqS (d : PyData) (x : Str) : Bool := PyData.eqv d (.str x)
def leafV (w p : PyData) : Bool := (eqS w "num" && isR p) || (eqS w "of" && isName p)
/-- is_nested, of any value -/
def nestV : Nat → PyData → Bool
  | 0, _ => false
  | n + 1, .tuple [w, p] => leafV w p
  | n + 1, .tuple [w, p, o] => if eqS w "times" = true then isR p && nestV n o else (eqS w "plus" || eqS w "minus") && (nestV n p && nestV n o)
  | _ + 1, _ => false
/-- what may be asked about -/
inductive okN : PyData → Prop
  | any {d : PyData} (h1 : SeqAt.shaped d = true) (h2 : okR d) (h3 : okS d) (h4 : ∀ ds, d = .tuple ds → ∀ e ∈ ds, okN e) : okN d
/-- lengths -/
inductive Len where
  | num (q : Rat)
  | of (x : Str)
  | times (q : Rat) (l : Len)
  | plus (a b : Len)
  | minus (a b : Len)
def encL : Len → PyData
  | .num q => .tuple [.str "num", dR q]
  | .of x => .tuple [.str "of", .str x]
  | .times q l => .tuple [.str "times", dR q, encL l]
  | .plus a b => .tuple [.str "plus", encL a, encL b]
  | .minus a b => .tuple [.str "minus", encL a, encL b]
def Len.deep : Len → Nat
  | .num _ => 0
  | .of _ => 0
  | .times _ l => l.deep + 1
  | .plus a b => max a.deep b.deep + 1
  | .minus a b => max a.deep b.deep + 1
def namesL : Len → List Str
  | .num _ => []
  | .of x => [x]
  | .times _ l => namesL l
  | .plus a b => namesL a ++ namesL b
  | .minus a b => namesL a ++ namesL b
theorem shaped_s1 : SeqAt.shaped (.str "num") = true := by decide +kernel
theorem shaped_s2 : SeqAt.shaped (.str "of") = true := by decide +kernel
theorem shaped_s3 : SeqAt.shaped (.str "times") = true := by decide +kernel
theorem shaped_s4 : SeqAt.shaped (.tuple [.str "plus", .str "minus"]) = true := by decide +kernel
theorem eqv_comm_s (d : PyData) (x : Str) : PyData.eqv (.str x) d = PyData.eqv d (.str x) := by
  cases d <;> simp [PyData.eqv]
  exact Bool.beq_comm
theorem words_mem (a : PyData) : (false != [PyData.str "plus", .str "minus"].any fun z => PyData.eqv z a) = (eqS a "plus" || eqS a "minus") := by
  rw [Bool.false_bne, List.any_cons, List.any_cons, List.any_nil, Bool.or_false, eqv_comm_s, eqv_comm_s]
  rfl
theorem shaped_s5 : SeqAt.shaped (.str "plus") = true := by decide +kernel
theorem shaped_s6 : SeqAt.shaped (.str "minus") = true := by decide +kernel
abbrev Nums := List (Str × Rat)
def numD (kvs : Nums) : PyData := dcD (kvs.map fun p => (.inr p.1, dR p.2))
def lkN : Nums → Str → Option Rat
  | [], _ => none
  | (k, q) :: r, x => if k = x then some q else lkN r x
theorem lk_num (kvs : Nums) (x : Str) : lkD (kvs.map fun p => (.inr p.1, dR p.2)) (.inr x) = (lkN kvs x).map dR := by
  induction kvs with
  | nil => rfl
  | cons p r ih =>
    rw [List.map_cons]
    show (if (Sum.inr p.1 : Key) = .inr x then some (dR p.2) else lkD _ _) = ((if p.1 = x then some p.2 else lkN r x)).map dR
    by_cases c : p.1 = x
    · rw [if_pos (congrArg Sum.inr c), if_pos c]; rfl
    · rw [if_neg (fun z => c (Sum.inr.inj z)), if_neg c, ih]
theorem lkN_mem {kvs : Nums} {x : Str} {q : Rat} (h : lkN kvs x = some q) : ∃ k, (k, q) ∈ kvs := by
  induction kvs with
  | nil => cases h
  | cons p r ih =>
    by_cases c : p.1 = x
    · have : p.2 = q := by simpa [lkN, c] using h
      exact ⟨p.1, by rw [← this]; exact List.mem_cons_self⟩
    · obtain ⟨k, hk⟩ := ih (by simpa [lkN, c] using h)
      exact ⟨k, List.mem_cons_of_mem _ hk⟩
def worthL (kvs : Nums) : Len → Option Rat
  | .num q => some q
  | .of x => lkN kvs x
  | .times q l => (worthL kvs l).map (q * ·)
  | .plus a b => (worthL kvs a).bind fun p => (worthL kvs b).map (p + ·)
  | .minus a b => (worthL kvs a).bind fun p => (worthL kvs b).map (p - ·)
def bitsL : Len → Nat
  | .num _ => 100
  | .of _ => 100
  | .times _ l => 62 + bitsL l
  | .plus a b => bitsL a + bitsL b + 1
  | .minus a b => bitsL a + bitsL b + 1
def okL : Len → Prop
  | .num q => Sz 62 q
  | .of _ => True
  | .times q l => Sz 62 q ∧ okL l
  | .plus a b => okL a ∧ okL b
  | .minus a b => okL a ∧ okL b
theorem sz_add2 {a b : Nat} {p q : Rat} (h1 : Sz a p) (h2 : Sz b q) : Sz (a + b + 1) (p + q) := by
  rw [← divInt_add p q]
  refine sz_divInt (((h1.num.mul h2.den).add ((h2.num.mul h1.den).mono (by omega))).mono (by omega)) ((h1.den.mul h2.den).mono (by omega)) (Int.mul_ne_zero (den_ne p) (den_ne q))
theorem sz_mul2 {a b : Nat} {p q : Rat} (h1 : Sz a p) (h2 : Sz b q) : Sz (a + b) (p * q) := by
  rw [← divInt_mul p q]
  exact sz_divInt (h1.num.mul h2.num) (h1.den.mul h2.den) (Int.mul_ne_zero (den_ne p) (den_ne q))
theorem sz_sub2 {a b : Nat} {p q : Rat} (h1 : Sz a p) (h2 : Sz b q) : Sz (a + b + 1) (p - q) := by
  rw [Rat.sub_eq_add_neg]
  exact sz_add2 h1 (sz_neg h2)
def growL (y : Str) : Len → Rat
  | .num _ => 0
  | .of x => if x = y then 1 else 0
  | .times q l => q * growL y l
  | .plus a b => growL y a + growL y b
  | .minus a b => growL y a - growL y b
/-- texts that can be compared -/
def okT (l : Len) (y : Str) : Prop := (∀ x ∈ namesL l, SeqAt.shaped (.str x) = true) ∧ SeqAt.shaped (.str y) = true
theorem okT.left {a b : Len} {y : Str} (h : (∀ x ∈ namesL a ++ namesL b, SeqAt.shaped (.str x) = true) ∧ SeqAt.shaped (.str y) = true) : okT a y := ⟨fun x hx => h.1 x (List.mem_append_left _ hx), h.2⟩
theorem okT.right {a b : Len} {y : Str} (h : (∀ x ∈ namesL a ++ namesL b, SeqAt.shaped (.str x) = true) ∧ SeqAt.shaped (.str y) = true) : okT b y := ⟨fun x hx => h.1 x (List.mem_append_right _ hx), h.2⟩
theorem sz_z100 : Sz 100 (0 : Rat) := ⟨⟨by decide⟩, ⟨by decide⟩⟩
theorem sz_o100 : Sz 100 (1 : Rat) := ⟨⟨by decide⟩, ⟨by decide⟩⟩
theorem enc_head (l : Len) : ∃ y r, encL l = .tuple (.str y :: r) := by
  cases l <;> exact ⟨_, _, rfl⟩
theorem not_whole3 : ¬ (HT.sIx 3 0 (some 1) = 0 ∧ HT.sIx 3 3 none = 3) := by decide
theorem shaped_nil0 : SeqAt.shaped (.list []) = true := by simp [SeqAt.shaped, PyData.canLay0, PyData.canLayAll0, PyData.depth, PyData.depthAll]
theorem two_len {p : Prop} {a b : PyData} (h : (!PyData.eqv (.int (([a, b] : List PyData).length : Nat)) (.int 2)) = true) : p := by
  rw [eqv_int] at h
  exact absurd h (by simp)
theorem shaped_ii (i j : Int) : SeqAt.shaped (.tuple [.int i, .int j]) = true := by simp [SeqAt.shaped, PyData.canLay0, PyData.canLayAll0, PyData.depth, PyData.depthAll]
theorem shaped_list2 {a b : PyData} (h : SeqAt.shaped (.tuple [a, b]) = true) : SeqAt.shaped (.list ([a, b].filter (fun e => isB e || !isI e))) = true := by
  simp only [SeqAt.shaped, PyData.canLay0, PyData.canLayAll0, PyData.depth, PyData.depthAll, Bool.and_true, Bool.and_eq_true, decide_eq_true_eq] at h
  obtain ⟨⟨h1, h2⟩, h3⟩ := h
  have h3 := of_decide_eq_true h3
  have h4 : a.depth ≤ 63 := by
    have := Nat.le_max_left a.depth (max b.depth 0)
    exact Nat.le_trans this (Nat.le_of_succ_le_succ h3)
  have h5 : b.depth ≤ 63 := by
    have := Nat.le_max_right a.depth (max b.depth 0)
    have := Nat.le_max_left b.depth 0
    exact Nat.le_trans this (Nat.le_trans (Nat.le_max_right a.depth _) (Nat.le_of_succ_le_succ h3))
  cases p : (isB a || !isI a) <;> cases q : (isB b || !isI b) <;> simp [p, q, SeqAt.shaped, PyData.canLay0, PyData.canLayAll0, PyData.depth, PyData.depthAll, h1, h2] <;> omega
theorem filter2 (a b : PyData) : (!PyData.eqv (.list ([a, b].filter (fun e => isB e || !isI e))) (.list [])) = !((isI a && !isB a) && (isI b && !isB b)) := by
  cases h1 : isB a <;> cases h2 : isI a <;> cases h3 : isB b <;> cases h4 : isI b <;> simp [h1, h2, h3, h4, PyData.eqv, PyData.eqvAll]
theorem red_iff (i j : Int) (h : 0 < j) : PyData.eqv (dR (Rat.divInt i j)) (.tuple [.int i, .int j]) = isR (.tuple [.int i, .int j]) := by
  have e1 : PyData.eqv (dR (Rat.divInt i j)) (.tuple [.int i, .int j]) = (decide ((Rat.divInt i j).num = i) && decide (((Rat.divInt i j).den : Int) = j)) := by
    simp only [dR, PyData.eqv, PyData.eqvAll, Bool.and_true]
    rw [Bool.eq_iff_iff]
    simp
  rw [e1]
  show _ = (decide (1 ≤ j) && decide (Nat.gcd i.natAbs j.natAbs = 1))
  rw [decide_eq_true (show 1 ≤ j by omega), Bool.true_and, ← Bool.decide_and]
  apply decide_eq_decide.mpr
  rw [Rat.num_divInt, Rat.den_divInt, if_neg (by omega), Int.sign_eq_one_of_pos h, Int.one_mul]
  have hg : Int.gcd j i = Nat.gcd i.natAbs j.natAbs := by rw [Int.gcd_comm]; rfl
  rw [hg]
  have g0 : 0 < Nat.gcd i.natAbs j.natAbs := Nat.gcd_pos_of_pos_right _ (by omega)
  constructor
  · rintro ⟨_, h2⟩
    have h3 : j.natAbs / Nat.gcd i.natAbs j.natAbs = j.natAbs := by omega
    have := (Nat.div_eq_self.mp h3)
    omega
  · intro h1
    rw [h1]
    exact ⟨by simp, by simp; omega⟩
def goodNames : List PyData := [.str "a", .str "b2", .str "w", .str "zz9", .str "num", .str "of", .str "plus"]
def opWords : List PyData := [.str "plus", .str "minus", .str "times"]
/-- the law's own look at any value -/
def rightV : Nat → PyData → Bool
  | n + 1, .tuple (.str w :: p :: rest) =>
    if eqS (.str w) "num" = true then decide (rest.length + 2 = 2) && isR p
    else if eqS (.str w) "of" = true then decide (rest.length + 2 = 2) && (isS p && goodNames.any fun z => PyData.eqv z p)
    else match rest with
      | [o] => if (opWords.any fun z => PyData.eqv z (.str w)) = true then (if eqS (.str w) "times" = true then isR p && rightV n o else rightV n p && rightV n o) else false
      | _ => false
  | _, _ => false
theorem shaped_good : SeqAt.shaped (.list goodNames) = true := by decide +kernel
theorem shaped_ops : SeqAt.shaped (.list opWords) = true := by decide +kernel
theorem right_unf (k : Nat) (w : Str) (p : PyData) (rest : List PyData) : rightV (k + 1) (.tuple (.str w :: p :: rest)) = if eqS (.str w) "num" = true then decide (rest.length + 2 = 2) && isR p
    else if eqS (.str w) "of" = true then decide (rest.length + 2 = 2) && (isS p && goodNames.any fun z => PyData.eqv z p)
    else match rest with
      | [o] => if (opWords.any fun z => PyData.eqv z (.str w)) = true then (if eqS (.str w) "times" = true then isR p && rightV k o else rightV k p && rightV k o) else false
      | _ => false := rfl
theorem right_other {n : Nat} {v : PyData} (h : ¬ ∃ k w p rest, n = k + 1 ∧ v = .tuple (.str w :: p :: rest)) : rightV n v = false := by
  cases n with
  | zero => rfl
  | succ k =>
    cases v with
    | tuple ds =>
      match ds with
      | [] => rfl
      | [x] => cases x <;> rfl
      | x :: p :: rest =>
        cases x with
        | str w => exact absurd ⟨k, w, p, rest, rfl, rfl⟩ h
        | _ => rfl
    | _ => rfl
/-! ### both looks tell the same, where the names are the listed ones -/
inductive okF : PyData → Prop
  | any {v : PyData} (h1 : ∀ ds, v = .tuple ds → ∀ e ∈ ds, okF e) (h2 : ∀ w p, v = .tuple [w, p] → eqS w "of" = true → isName p = (isS p && goodNames.any fun z => PyData.eqv z p)) : okF v
theorem eqS_str {d : PyData} {x : Str} (h : eqS d x = true) : d = .str x := by
  cases d <;> simp [eqS, PyData.eqv] at h
  rw [h]
theorem nest_right : ∀ (n : Nat) (v : PyData), okF v → nestV n v = rightV n v
  | 0, v, _ => by
    rw [right_other (fun ⟨_, _, _, _, h, _⟩ => by omega)]
    rfl
  | n + 1, v, .any h1 h2 => by
    cases v with
    | tuple ds =>
      match ds, h1, h2 with
      | [], _, _ => rfl
      | [x], _, _ => cases x <;> rfl
      | [w, p], h1, h2 =>
        show leafV w p = _
        by_cases hs : ∃ x, w = .str x
        · obtain ⟨x, rfl⟩ := hs
          rw [right_unf]
          unfold leafV
          have e2 : decide (([] : List PyData).length + 2 = 2) = true := rfl
          cases a : eqS (.str x) "num" with
          | true =>
            have : eqS (.str x) "of" = false := by
              have := PyData.str.inj (eqS_str a)
              rw [this]
              decide +kernel
            rw [this, if_pos rfl, e2]
            simp
          | false =>
            rw [if_neg Bool.false_ne_true]
            cases b : eqS (.str x) "of" with
            | true => rw [if_pos rfl, e2, h2 _ _ rfl b]; simp
            | false => rw [if_neg Bool.false_ne_true]; simp
        · rw [right_other (fun ⟨_, x, _, _, _, e⟩ => hs ⟨x, by cases e; rfl⟩)]
          have e : ∀ x, eqS w x = false := fun x => by
            cases h : eqS w x with
            | true => exact absurd ⟨x, eqS_str h⟩ hs
            | false => rfl
          unfold leafV
          rw [e, e]
          rfl
      | [w, p, o], h1, _ =>
        have ip := nest_right n p (h1 _ rfl p (by simp))
        have io := nest_right n o (h1 _ rfl o (by simp))
        show (if eqS w "times" = true then isR p && nestV n o else (eqS w "plus" || eqS w "minus") && (nestV n p && nestV n o)) = _
        rw [ip, io]
        by_cases hs : ∃ x, w = .str x
        · obtain ⟨x, rfl⟩ := hs
          rw [right_unf]
          have e3 : decide (([o] : List PyData).length + 2 = 2) = false := rfl
          have mem : (opWords.any fun z => PyData.eqv z (.str x)) = (eqS (.str x) "plus" || (eqS (.str x) "minus" || eqS (.str x) "times")) := by
            unfold opWords
            rw [List.any_cons, List.any_cons, List.any_cons, List.any_nil, Bool.or_false, eqv_comm_s (.str x) "plus", eqv_comm_s (.str x) "minus", eqv_comm_s (.str x) "times"]
            rfl
          have dis : ∀ {y z : Str}, y ≠ z → eqS (.str x) y = true → eqS (.str x) z = false := fun {y z} ne h => by
            have e1 := PyData.str.inj (eqS_str h)
            cases h2 : eqS (.str x) z with
            | false => rfl
            | true =>
              have e2 := PyData.str.inj (eqS_str h2)
              exact absurd (e1.symm.trans e2) ne
          cases a : eqS (.str x) "num" with
          | true =>
            rw [if_pos rfl, e3, dis (by decide) a, dis (by decide) a, dis (by decide) a]
            rfl
          | false =>
            rw [if_neg (show ¬ (false = true) from Bool.false_ne_true)]
            cases b : eqS (.str x) "of" with
            | true =>
              rw [if_pos rfl, e3, dis (by decide) b, dis (by decide) b, dis (by decide) b]
              rfl
            | false =>
              rw [if_neg (show ¬ (false = true) from Bool.false_ne_true)]
              show _ = if _ = true then _ else false
              rw [mem]
              cases c : eqS (.str x) "times" <;> cases d : eqS (.str x) "plus" <;> cases f : eqS (.str x) "minus" <;> simp
        · have hz : rightV (n + 1) (.tuple [w, p, o]) = false := right_other (fun ⟨_, x, _, _, _, e⟩ => hs ⟨x, by cases e; rfl⟩)
          have e : ∀ x, eqS w x = false := fun x => by
            cases h : eqS w x with
            | true => exact absurd ⟨x, eqS_str h⟩ hs
            | false => rfl
          rw [hz, e, e, e]
          rfl
      | w :: p :: o :: q :: r, _, _ =>
        show false = _
        by_cases hs : ∃ x, w = .str x
        · obtain ⟨x, rfl⟩ := hs
          rw [right_unf]
          have e3 : decide ((o :: q :: r).length + 2 = 2) = false := decide_eq_false (by simp)
          rw [e3]
          split
          · rfl
          · split <;> rfl
        · rw [right_other (fun ⟨_, x, _, _, _, e⟩ => hs ⟨x, by cases e; rfl⟩)]
    | _ => rfl
/-- what is drawn -/
def goodL : Len → Prop
  | .num q => Sz 62 q
  | .of x => x = "a" ∨ x = "b2" ∨ x = "w"
  | .times q l => Sz 62 q ∧ goodL l
  | .plus a b => goodL a ∧ goodL b
  | .minus a b => goodL a ∧ goodL b
theorem three_w {i : Int} (h0 : 0 ≤ i) (h3 : i < 3) : ∃ x : Str, (x = "a" ∨ x = "b2" ∨ x = "w") ∧ atI [PyData.str "a", .str "b2", .str "w"] i = some (.str x) := by
  obtain ⟨n, rfl⟩ : ∃ n : Nat, i = n := ⟨i.toNat, by omega⟩
  have hn : n < 3 := by omega
  match n, hn with
  | 0, _ => exact ⟨"a", .inl rfl, atI_nat (j := 0) rfl⟩
  | 1, _ => exact ⟨"b2", .inr (.inl rfl), atI_nat (j := 1) rfl⟩
  | 2, _ => exact ⟨"w", .inr (.inr rfl), atI_nat (j := 2) rfl⟩
def odds : List PyData := [.str "num", .str "of", .str "plus", .str "", .none, .int 3, .tuple [.int 1, .int 2], .tuple [.int 2, .int 4], .str "zz9", .str "9z", .tuple [.str "num", .tuple [.int 1, .int 1]], .bool true]
/-- what _law_bent makes -/
def Bent (ds es : List PyData) : Prop := ∃ n, n < ds.length ∧ (es = ds.eraseIdx n ∨ ∃ o ∈ odds, es = ds.set n o ∨ es = ds.take n ++ [o] ++ ds.drop n)
theorem odd_at {i : Int} (h0 : 0 ≤ i) (h : i < 12) : ∃ o, o ∈ odds ∧ atI odds i = some o := by
  obtain ⟨n, rfl⟩ : ∃ n : Nat, i = n := ⟨i.toNat, by omega⟩
  have hn : n < odds.length := by show n < 12; omega
  exact ⟨odds[n], List.getElem_mem hn, atI_nat (List.getElem?_eq_getElem hn)⟩
theorem ixN_nat {n k : Nat} (h : k < n) : ixN n (k : Int) = some k := by
  unfold ixN
  simp
  omega
theorem seqIx_nat {n k : Nat} (h : k < n) : seqIndex? (k : Int) n = some k := by
  unfold seqIndex?
  simp
  omega
/-! ### law: sizes, names, worths of what is drawn -/
theorem bits_le : ∀ l : Len, bitsL l + 1 ≤ 101 * 2 ^ l.deep
  | .num _ => by simp [bitsL, Len.deep]
  | .of _ => by simp [bitsL, Len.deep]
  | .times q l => by
    have h := bits_le l
    show 62 + bitsL l + 1 ≤ 101 * 2 ^ (l.deep + 1)
    have : 0 < 2 ^ l.deep := Nat.pow_pos (by decide)
    rw [Nat.pow_succ]; omega
  | .plus a b => by
    have h1 := bits_le a
    have h2 := bits_le b
    show bitsL a + bitsL b + 1 + 1 ≤ 101 * 2 ^ (max a.deep b.deep + 1)
    have e1 : 2 ^ a.deep ≤ 2 ^ max a.deep b.deep := Nat.pow_le_pow_right (by decide) (Nat.le_max_left ..)
    have e2 : 2 ^ b.deep ≤ 2 ^ max a.deep b.deep := Nat.pow_le_pow_right (by decide) (Nat.le_max_right ..)
    rw [Nat.pow_succ]; omega
  | .minus a b => by
    have h1 := bits_le a
    have h2 := bits_le b
    show bitsL a + bitsL b + 1 + 1 ≤ 101 * 2 ^ (max a.deep b.deep + 1)
    have e1 : 2 ^ a.deep ≤ 2 ^ max a.deep b.deep := Nat.pow_le_pow_right (by decide) (Nat.le_max_left ..)
    have e2 : 2 ^ b.deep ≤ 2 ^ max a.deep b.deep := Nat.pow_le_pow_right (by decide) (Nat.le_max_right ..)
    rw [Nat.pow_succ]; omega
theorem bits_3 {l : Len} (h : l.deep ≤ 3) : bitsL l ≤ 807 := by
  have h1 := bits_le l
  have e1 : 2 ^ l.deep ≤ 2 ^ 3 := Nat.pow_le_pow_right (by decide) h
  omega
theorem okL_good : ∀ {l : Len}, goodL l → okL l
  | .num _, h => h
  | .of _, _ => trivial
  | .times _ _, h => ⟨h.1, okL_good h.2⟩
  | .plus _ _, h => ⟨okL_good h.1, okL_good h.2⟩
  | .minus _ _, h => ⟨okL_good h.1, okL_good h.2⟩
def isABW (x : Str) : Prop := x = "a" ∨ x = "b2" ∨ x = "w"
theorem names_good : ∀ {l : Len}, goodL l → ∀ x ∈ namesL l, isABW x
  | .num _, _, x, hx => by simp [namesL] at hx
  | .of y, h, x, hx => by
    have : x = y := by simpa [namesL] using hx
    rw [this]; exact h
  | .times _ _, h, x, hx => names_good h.2 x hx
  | .plus a b, h, x, hx => (List.mem_append.mp hx).elim (names_good h.1 x) (names_good h.2 x)
  | .minus a b, h, x, hx => (List.mem_append.mp hx).elim (names_good h.1 x) (names_good h.2 x)
theorem names_len : ∀ l : Len, (namesL l).length ≤ 2 ^ l.deep
  | .num _ => by simp [namesL, Len.deep]
  | .of _ => by simp [namesL, Len.deep]
  | .times q l => Nat.le_trans (names_len l) (Nat.pow_le_pow_right (by decide) (Nat.le_succ _))
  | .plus a b => by
    have h1 := names_len a
    have h2 := names_len b
    show (namesL a ++ namesL b).length ≤ 2 ^ (max a.deep b.deep + 1)
    have e1 : 2 ^ a.deep ≤ 2 ^ max a.deep b.deep := Nat.pow_le_pow_right (by decide) (Nat.le_max_left ..)
    have e2 : 2 ^ b.deep ≤ 2 ^ max a.deep b.deep := Nat.pow_le_pow_right (by decide) (Nat.le_max_right ..)
    rw [List.length_append, Nat.pow_succ]; omega
  | .minus a b => by
    have h1 := names_len a
    have h2 := names_len b
    show (namesL a ++ namesL b).length ≤ 2 ^ (max a.deep b.deep + 1)
    have e1 : 2 ^ a.deep ≤ 2 ^ max a.deep b.deep := Nat.pow_le_pow_right (by decide) (Nat.le_max_left ..)
    have e2 : 2 ^ b.deep ≤ 2 ^ max a.deep b.deep := Nat.pow_le_pow_right (by decide) (Nat.le_max_right ..)
    rw [List.length_append, Nat.pow_succ]; omega
theorem names_8 {l : Len} (h : l.deep ≤ 3) : (namesL l).length ≤ 8 := Nat.le_trans (names_len l) (Nat.pow_le_pow_right (n := 2) (by decide) h)
theorem worth_none {kvs : Nums} : ∀ {l : Len}, worthL kvs l = none ↔ ∃ x ∈ namesL l, lkN kvs x = none
  | .num q => by simp [worthL, namesL]
  | .of x => by simp [worthL, namesL]
  | .times q l => by
    have h := worth_none (kvs := kvs) (l := l)
    show (worthL kvs l).map _ = none ↔ _
    rw [Option.map_eq_none_iff]
    exact h
  | .plus a b => by
    have h1 := worth_none (kvs := kvs) (l := a)
    have h2 := worth_none (kvs := kvs) (l := b)
    show (worthL kvs a).bind _ = none ↔ ∃ x ∈ namesL a ++ namesL b, _
    constructor
    · intro h
      cases ha : worthL kvs a with
      | none =>
        obtain ⟨x, hx, e⟩ := h1.mp ha
        exact ⟨x, List.mem_append_left _ hx, e⟩
      | some p => cases hb : worthL kvs b with
        | none =>
          obtain ⟨x, hx, e⟩ := h2.mp hb
          exact ⟨x, List.mem_append_right _ hx, e⟩
        | some q => rw [ha] at h; simp [hb] at h
    · rintro ⟨x, hx, e⟩
      rcases List.mem_append.mp hx with hx | hx
      · rw [h1.mpr ⟨x, hx, e⟩]; rfl
      · rw [h2.mpr ⟨x, hx, e⟩]
        cases worthL kvs a <;> rfl
  | .minus a b => by
    have h1 := worth_none (kvs := kvs) (l := a)
    have h2 := worth_none (kvs := kvs) (l := b)
    show (worthL kvs a).bind _ = none ↔ ∃ x ∈ namesL a ++ namesL b, _
    constructor
    · intro h
      cases ha : worthL kvs a with
      | none =>
        obtain ⟨x, hx, e⟩ := h1.mp ha
        exact ⟨x, List.mem_append_left _ hx, e⟩
      | some p => cases hb : worthL kvs b with
        | none =>
          obtain ⟨x, hx, e⟩ := h2.mp hb
          exact ⟨x, List.mem_append_right _ hx, e⟩
        | some q => rw [ha] at h; simp [hb] at h
    · rintro ⟨x, hx, e⟩
      rcases List.mem_append.mp hx with hx | hx
      · rw [h1.mpr ⟨x, hx, e⟩]; rfl
      · rw [h2.mpr ⟨x, hx, e⟩]
        cases worthL kvs a <;> rfl
theorem worth_some {kvs : Nums} {l : Len} (h : ∀ x ∈ namesL l, lkN kvs x ≠ none) : ∃ w, worthL kvs l = some w := by
  cases e : worthL kvs l with
  | some w => exact ⟨w, rfl⟩
  | none =>
    obtain ⟨x, hx, z⟩ := worth_none.mp e
    exact absurd z (h x hx)
theorem worth_more {kvs more : Nums} {y : Str} : ∀ {l : Len}, (∀ x ∈ namesL l, lkN more x = (lkN kvs x).map (· + if x = y then 1 else 0)) → worthL more l = (worthL kvs l).map (· + growL y l)
  | .num q, _ => congrArg some (show q = q + 0 by grind)
  | .of x, h => h x (by simp [namesL])
  | .times q l, h => by
    have e := worth_more (l := l) h
    show (worthL more l).map (q * ·) = ((worthL kvs l).map (q * ·)).map (· + q * growL y l)
    rw [e]
    cases worthL kvs l with
    | none => rfl
    | some p => exact congrArg some (Rat.mul_add q p _)
  | .plus a b, h => by
    have e1 := worth_more (l := a) fun x hx => h x (List.mem_append_left _ hx)
    have e2 := worth_more (l := b) fun x hx => h x (List.mem_append_right _ hx)
    show ((worthL more a).bind fun p => (worthL more b).map (p + ·)) = ((worthL kvs a).bind fun p => (worthL kvs b).map (p + ·)).map (· + (growL y a + growL y b))
    rw [e1, e2]
    cases worthL kvs a with
    | none => rfl
    | some p => cases worthL kvs b with
      | none => rfl
      | some q => exact congrArg some (show p + growL y a + (q + growL y b) = p + q + (growL y a + growL y b) by grind)
  | .minus a b, h => by
    have e1 := worth_more (l := a) fun x hx => h x (List.mem_append_left _ hx)
    have e2 := worth_more (l := b) fun x hx => h x (List.mem_append_right _ hx)
    show ((worthL more a).bind fun p => (worthL more b).map (p - ·)) = ((worthL kvs a).bind fun p => (worthL kvs b).map (p - ·)).map (· + (growL y a - growL y b))
    rw [e1, e2]
    cases worthL kvs a with
    | none => rfl
    | some p => cases worthL kvs b with
      | none => rfl
      | some q => exact congrArg some (show p + growL y a - (q + growL y b) = p - q + (growL y a - growL y b) by grind)
theorem isR_dR (q : Rat) : isR (dR q) = true := by
  show (decide (1 ≤ (q.den : Int)) && decide (Nat.gcd q.num.natAbs (q.den : Int).natAbs = 1)) = true
  have h1 := q.den_pos
  have h2 : Nat.gcd q.num.natAbs q.den = 1 := q.reduced
  rw [Bool.and_eq_true]
  exact ⟨decide_eq_true (by omega), decide_eq_true (by simpa using h2)⟩
theorem nest_enc : ∀ (n : Nat) {l : Len}, (∀ x ∈ namesL l, isName (.str x) = true) → nestV n (encL l) = decide (l.deep < n)
  | 0, l, _ => by
    rw [decide_eq_false (by omega)]
    rfl
  | n + 1, .num q, _ => by
    rw [decide_eq_true (by show 0 < n + 1; omega)]
    show ((eqS (.str "num") "num" && isR (dR q)) || _) = true
    rw [isR_dR]
    rfl
  | n + 1, .of x, h => by
    rw [decide_eq_true (by show 0 < n + 1; omega)]
    show ((eqS (.str "of") "num" && isR (.str x)) || (eqS (.str "of") "of" && isName (.str x))) = true
    rw [h x (by simp [namesL])]
    simp [eqS, PyData.eqv]
  | n + 1, .times q l, h => by
    show (if eqS (.str "times") "times" = true then isR (dR q) && nestV n (encL l) else _) = _
    rw [if_pos (by simp [eqS, PyData.eqv]), isR_dR, Bool.true_and, nest_enc n (show ∀ x ∈ namesL l, _ from h)]
    exact decide_eq_decide.mpr (by show l.deep < n ↔ l.deep + 1 < n + 1; omega)
  | n + 1, .plus a b, h => by
    show (if eqS (.str "plus") "times" = true then _ else (eqS (.str "plus") "plus" || _) && (nestV n (encL a) && nestV n (encL b))) = _
    rw [if_neg (by decide +kernel), show eqS (.str "plus") "plus" = true by simp [eqS, PyData.eqv], nest_enc n fun x hx => h x (List.mem_append_left _ hx), nest_enc n fun x hx => h x (List.mem_append_right _ hx)]
    rw [Bool.true_or, Bool.true_and, ← Bool.decide_and]
    exact decide_eq_decide.mpr (by show _ ↔ max a.deep b.deep + 1 < n + 1; omega)
  | n + 1, .minus a b, h => by
    show (if eqS (.str "minus") "times" = true then _ else (_ || eqS (.str "minus") "minus") && (nestV n (encL a) && nestV n (encL b))) = _
    rw [if_neg (by decide +kernel), show eqS (.str "minus") "minus" = true by simp [eqS, PyData.eqv], nest_enc n fun x hx => h x (List.mem_append_left _ hx), nest_enc n fun x hx => h x (List.mem_append_right _ hx)]
    rw [Bool.or_true, Bool.true_and, ← Bool.decide_and]
    exact decide_eq_decide.mpr (by show _ ↔ max a.deep b.deep + 1 < n + 1; omega)
theorem name_abw {x : Str} (h : isABW x) : isName (.str x) = true ∧ SeqAt.shaped (.str x) = true ∧ x.length ≤ 10 := by
  rcases h with rfl | rfl | rfl
  · exact ⟨by decide +kernel, by decide +kernel, by decide +kernel⟩
  · exact ⟨by decide +kernel, by decide +kernel, by decide +kernel⟩
  · exact ⟨by decide +kernel, by decide +kernel, by decide +kernel⟩
/-! ### what may be asked about: drawn lengths, bent ones -/
theorem sh_of {d : PyData} (h1 : d.canLay0 = true) (h2 : d.depth ≤ 64) : SeqAt.shaped d = true := by
  unfold SeqAt.shaped
  rw [h1, decide_eq_true h2]
  rfl
theorem lay_strs {x : Str} (h : SeqAt.shaped (.str x) = true) : PyData.canLay0 (.str x) = true := SeqAt.canLay_of_shaped h
theorem lay_dR (q : Rat) : (dR q).canLay0 = true := rfl
theorem depth_dR (q : Rat) : (dR q).depth = 1 := by simp [dR, PyData.depth, PyData.depthAll]
theorem lay_enc : ∀ {l : Len}, goodL l → (encL l).canLay0 = true ∧ (encL l).depth ≤ l.deep + 2
  | .num q, _ => ⟨by show (PyData.canLay0 (.str "num") && (PyData.canLay0 (dR q) && true)) = true; rw [lay_dR]; decide +kernel, by simp [encL, PyData.depth, PyData.depthAll, dR, Len.deep]⟩
  | .of x, h => ⟨by
      have := lay_strs (name_abw h).2.1
      show (PyData.canLay0 (.str "of") && (PyData.canLay0 (.str x) && true)) = true
      rw [this]; decide +kernel, by simp [encL, PyData.depth, PyData.depthAll, Len.deep]⟩
  | .times q l, h => by
    obtain ⟨h1, h2⟩ := lay_enc h.2
    refine ⟨?_, ?_⟩
    · show (PyData.canLay0 (.str "times") && (PyData.canLay0 (dR q) && (PyData.canLay0 (encL l) && true))) = true
      rw [h1, lay_dR]; decide +kernel
    · have := depth_dR q
      simp only [encL, PyData.depth, PyData.depthAll, Len.deep] at this ⊢
      omega
  | .plus a b, h => by
    obtain ⟨h1, h2⟩ := lay_enc h.1
    obtain ⟨h3, h4⟩ := lay_enc h.2
    refine ⟨?_, ?_⟩
    · show (PyData.canLay0 (.str "plus") && (PyData.canLay0 (encL a) && (PyData.canLay0 (encL b) && true))) = true
      rw [h1, h3]; decide +kernel
    · simp only [encL, PyData.depth, PyData.depthAll, Len.deep]
      omega
  | .minus a b, h => by
    obtain ⟨h1, h2⟩ := lay_enc h.1
    obtain ⟨h3, h4⟩ := lay_enc h.2
    refine ⟨?_, ?_⟩
    · show (PyData.canLay0 (.str "minus") && (PyData.canLay0 (encL a) && (PyData.canLay0 (encL b) && true))) = true
      rw [h1, h3]; decide +kernel
    · simp only [encL, PyData.depth, PyData.depthAll, Len.deep]
      omega
theorem okN_leaf {d : PyData} (h1 : SeqAt.shaped d = true) (h3 : okS d) (h : ∀ ds, d ≠ .tuple ds) : okN d := .any h1 (by
  cases d <;> first | trivial | exact absurd rfl (h _)) h3 fun ds e => absurd e (h ds)
theorem okN_int (i : Int) : okN (.int i) := okN_leaf (shaped_int i) trivial fun _ e => nomatch e
theorem okN_dR {q : Rat} (h : Sz 62 q) : okN (dR q) := .any (sh_of (lay_dR q) (by rw [depth_dR]; decide)) (fun i hi => by
  rcases List.mem_cons.mp hi with e | hi
  · cases e; exact h.num.mono (by decide)
  · cases List.mem_singleton.mp hi; exact h.den.mono (by decide)) trivial fun ds e d hd => by
  cases e
  rcases List.mem_cons.mp hd with rfl | hd
  · exact okN_int _
  · cases List.mem_singleton.mp hd; exact okN_int _
theorem okN_word {x : Str} (h1 : SeqAt.shaped (.str x) = true) (h2 : x.length ≤ 1000) : okN (.str x) := okN_leaf h1 h2 fun _ e => nomatch e
theorem okN_tup {ds : List PyData} (h1 : SeqAt.shaped (.tuple ds) = true) (h2 : ∀ i : Int, .int i ∈ ds → Bd 9000 i) (h4 : ∀ e ∈ ds, okN e) : okN (.tuple ds) := .any h1 h2 trivial fun es e d hd => by
  cases e; exact h4 d hd
def itemsL : Len → List PyData
  | .num q => [.str "num", dR q]
  | .of x => [.str "of", .str x]
  | .times q l => [.str "times", dR q, encL l]
  | .plus a b => [.str "plus", encL a, encL b]
  | .minus a b => [.str "minus", encL a, encL b]
theorem enc_items (l : Len) : encL l = .tuple (itemsL l) := by cases l <;> rfl
theorem enc_tup {l : Len} {i : Int} : encL l ≠ .int i := by cases l <;> exact fun e => nomatch e
theorem items_noint {l : Len} {i : Int} : .int i ∉ itemsL l := by
  intro h
  cases l with
  | num q => simp [itemsL, dR] at h
  | of x => simp [itemsL] at h
  | times q l => rcases List.mem_cons.mp h with e | h
                 · cases e
                 · rcases List.mem_cons.mp h with e | h
                   · cases e
                   · exact enc_tup (List.mem_singleton.mp h).symm
  | plus a b => rcases List.mem_cons.mp h with e | h
                · cases e
                · rcases List.mem_cons.mp h with e | h
                  · exact enc_tup e.symm
                  · exact enc_tup (List.mem_singleton.mp h).symm
  | minus a b => rcases List.mem_cons.mp h with e | h
                 · cases e
                 · rcases List.mem_cons.mp h with e | h
                   · exact enc_tup e.symm
                   · exact enc_tup (List.mem_singleton.mp h).symm
theorem okN_enc : ∀ {l : Len}, goodL l → l.deep ≤ 40 → okN (encL l)
  | .num q, h, _ => by
    refine okN_tup (sh_of (lay_enc (l := .num q) h).1 (Nat.le_trans (lay_enc (l := .num q) h).2 (by show 0 + 2 ≤ 64; decide))) (fun i hi => absurd hi (items_noint (l := .num q))) fun e he => ?_
    rcases List.mem_cons.mp he with rfl | he
    · exact okN_word shaped_s1 (by decide)
    · cases List.mem_singleton.mp he; exact okN_dR h
  | .of x, h, _ => by
    refine okN_tup (sh_of (lay_enc (l := .of x) h).1 (Nat.le_trans (lay_enc (l := .of x) h).2 (by show 0 + 2 ≤ 64; decide))) (fun i hi => absurd hi (items_noint (l := .of x))) fun e he => ?_
    rcases List.mem_cons.mp he with rfl | he
    · exact okN_word shaped_s2 (by decide)
    · cases List.mem_singleton.mp he; exact okN_word (name_abw h).2.1 (Nat.le_trans (name_abw h).2.2 (by decide))
  | .times q l, h, hd => by
    have hd : l.deep + 1 ≤ 40 := hd
    refine okN_tup (sh_of (lay_enc (l := .times q l) h).1 (Nat.le_trans (lay_enc (l := .times q l) h).2 (by show l.deep + 1 + 2 ≤ 64; omega))) (fun i hi => absurd hi (items_noint (l := .times q l))) fun e he => ?_
    rcases List.mem_cons.mp he with rfl | he
    · exact okN_word shaped_s3 (by decide)
    rcases List.mem_cons.mp he with rfl | he
    · exact okN_dR h.1
    · cases List.mem_singleton.mp he; exact okN_enc h.2 (by omega)
  | .plus a b, h, hd => by
    have hd : max a.deep b.deep + 1 ≤ 40 := hd
    refine okN_tup (sh_of (lay_enc (l := .plus a b) h).1 (Nat.le_trans (lay_enc (l := .plus a b) h).2 (by show max a.deep b.deep + 1 + 2 ≤ 64; omega))) (fun i hi => absurd hi (items_noint (l := .plus a b))) fun e he => ?_
    rcases List.mem_cons.mp he with rfl | he
    · exact okN_word shaped_s5 (by decide)
    rcases List.mem_cons.mp he with rfl | he
    · exact okN_enc h.1 (by omega)
    · cases List.mem_singleton.mp he; exact okN_enc h.2 (by omega)
  | .minus a b, h, hd => by
    have hd : max a.deep b.deep + 1 ≤ 40 := hd
    refine okN_tup (sh_of (lay_enc (l := .minus a b) h).1 (Nat.le_trans (lay_enc (l := .minus a b) h).2 (by show max a.deep b.deep + 1 + 2 ≤ 64; omega))) (fun i hi => absurd hi (items_noint (l := .minus a b))) fun e he => ?_
    rcases List.mem_cons.mp he with rfl | he
    · exact okN_word shaped_s6 (by decide)
    rcases List.mem_cons.mp he with rfl | he
    · exact okN_enc h.1 (by omega)
    · cases List.mem_singleton.mp he; exact okN_enc h.2 (by omega)
theorem odd_ok : ∀ o ∈ odds, okN o ∧ o.canLay0 = true ∧ o.depth ≤ 2 := by
  have two : ∀ a b : Int, Bd 9000 a → Bd 9000 b → okN (.tuple [.int a, .int b]) := fun a b ha hb => okN_tup (shaped_ii a b) (fun i hi => by
    rcases List.mem_cons.mp hi with e | hi
    · cases e; exact ha
    · cases List.mem_singleton.mp hi; exact hb) fun e he => by
    rcases List.mem_cons.mp he with rfl | he
    · exact okN_int _
    · cases List.mem_singleton.mp he; exact okN_int _
  intro o ho
  unfold odds at ho
  rcases List.mem_cons.mp ho with rfl | ho
  · exact ⟨okN_word (by decide +kernel) (by decide), by decide +kernel, by simp [PyData.depth, PyData.depthAll]⟩
  rcases List.mem_cons.mp ho with rfl | ho
  · exact ⟨okN_word (by decide +kernel) (by decide), by decide +kernel, by simp [PyData.depth, PyData.depthAll]⟩
  rcases List.mem_cons.mp ho with rfl | ho
  · exact ⟨okN_word (by decide +kernel) (by decide), by decide +kernel, by simp [PyData.depth, PyData.depthAll]⟩
  rcases List.mem_cons.mp ho with rfl | ho
  · exact ⟨okN_word (by decide +kernel) (by decide), by decide +kernel, by simp [PyData.depth, PyData.depthAll]⟩
  rcases List.mem_cons.mp ho with rfl | ho
  · exact ⟨okN_leaf (by decide +kernel) trivial (fun _ e => nomatch e), rfl, by simp [PyData.depth, PyData.depthAll]⟩
  rcases List.mem_cons.mp ho with rfl | ho
  · exact ⟨okN_int _, rfl, by simp [PyData.depth, PyData.depthAll]⟩
  rcases List.mem_cons.mp ho with rfl | ho
  · exact ⟨two 1 2 (Bd.lit (by decide +kernel)) (Bd.lit (by decide +kernel)), rfl, by simp [PyData.depth, PyData.depthAll]⟩
  rcases List.mem_cons.mp ho with rfl | ho
  · exact ⟨two 2 4 (Bd.lit (by decide +kernel)) (Bd.lit (by decide +kernel)), rfl, by simp [PyData.depth, PyData.depthAll]⟩
  rcases List.mem_cons.mp ho with rfl | ho
  · exact ⟨okN_word (by decide +kernel) (by decide), by decide +kernel, by simp [PyData.depth, PyData.depthAll]⟩
  rcases List.mem_cons.mp ho with rfl | ho
  · exact ⟨okN_word (by decide +kernel) (by decide), by decide +kernel, by simp [PyData.depth, PyData.depthAll]⟩
  rcases List.mem_cons.mp ho with rfl | ho
  · refine ⟨okN_tup (by decide +kernel) (fun i hi => ?_) fun e he => ?_, by decide +kernel, by simp [PyData.depth, PyData.depthAll]⟩
    · rcases List.mem_cons.mp hi with e | hi
      · cases e
      · cases List.mem_singleton.mp hi
    · rcases List.mem_cons.mp he with rfl | he
      · exact okN_word shaped_s1 (by decide)
      · cases List.mem_singleton.mp he; exact two 1 1 (Bd.lit (by decide +kernel)) (Bd.lit (by decide +kernel))
  · cases List.mem_singleton.mp ho
    exact ⟨okN_leaf (by decide +kernel) trivial (fun _ e => nomatch e), rfl, by simp [PyData.depth, PyData.depthAll]⟩
theorem bent_mem {ds es : List PyData} (h : Bent ds es) : ∀ e ∈ es, e ∈ ds ∨ e ∈ odds := by
  intro e he
  obtain ⟨n, hn, rfl | ⟨o, ho, rfl | rfl⟩⟩ := h
  · exact .inl (List.mem_of_mem_eraseIdx he)
  · rcases List.mem_or_eq_of_mem_set he with h | rfl
    · exact .inl h
    · exact .inr ho
  · rcases List.mem_append.mp he with h | h
    · rcases List.mem_append.mp h with h | h
      · exact .inl (List.mem_of_mem_take h)
      · cases List.mem_singleton.mp h; exact .inr ho
    · exact .inl (List.mem_of_mem_drop h)
theorem lay_all : ∀ {es : List PyData} {n : Nat}, (∀ e ∈ es, e.canLay0 = true ∧ e.depth ≤ n) → PyData.canLayAll0 es = true ∧ PyData.depthAll es ≤ n
  | [], n, _ => ⟨rfl, by simp [PyData.depthAll]⟩
  | e :: es, n, h => by
    obtain ⟨h1, h2⟩ := h e List.mem_cons_self
    obtain ⟨h3, h4⟩ := lay_all (es := es) (n := n) fun x hx => h x (List.mem_cons_of_mem _ hx)
    refine ⟨?_, ?_⟩
    · show (e.canLay0 && _) = true
      rw [h1, h3]; rfl
    · simp only [PyData.depthAll]; omega
theorem items_ok {l : Len} (h : goodL l) (hd : l.deep ≤ 40) : ∀ e ∈ itemsL l, okN e := by
  have := okN_enc h hd
  rw [enc_items] at this
  cases this with
  | any _ _ _ h4 => exact h4 _ rfl
theorem items_lay {l : Len} (h : goodL l) : ∀ e ∈ itemsL l, e.canLay0 = true ∧ e.depth ≤ l.deep + 1 := by
  have each : ∀ {ds : List PyData} {n : Nat}, PyData.canLayAll0 ds = true → PyData.depthAll ds ≤ n → ∀ e ∈ ds, e.canLay0 = true ∧ e.depth ≤ n := by
    intro ds
    induction ds with
    | nil => exact fun _ _ e he => nomatch he
    | cons d ds ih =>
      intro n h1 h2 e he
      have h1 : (d.canLay0 && PyData.canLayAll0 ds) = true := h1
      rw [Bool.and_eq_true] at h1
      simp only [PyData.depthAll] at h2
      rcases List.mem_cons.mp he with rfl | he
      · exact ⟨h1.1, by omega⟩
      · exact ih h1.2 (by omega) e he
  obtain ⟨h1, h2⟩ := lay_enc h
  rw [enc_items] at h1 h2
  have h1 : PyData.canLayAll0 (itemsL l) = true := h1
  simp only [PyData.depth] at h2
  exact each h1 (by omega)
theorem okN_bent {l : Len} {es : List PyData} (h : goodL l) (hd : l.deep ≤ 40) (b : Bent (itemsL l) es) : okN (.tuple es) := by
  have mem := bent_mem b
  have lay : ∀ e ∈ es, e.canLay0 = true ∧ e.depth ≤ 43 := fun e he => by
    rcases mem e he with h1 | h1
    · obtain ⟨h2, h3⟩ := items_lay h e h1
      exact ⟨h2, by omega⟩
    · obtain ⟨_, h2, h3⟩ := odd_ok e h1
      exact ⟨h2, by omega⟩
  obtain ⟨l1, l2⟩ := lay_all lay
  refine okN_tup (sh_of l1 (by simp only [PyData.depth]; omega)) (fun i hi => ?_) fun e he => ?_
  · rcases mem _ hi with h1 | h1
    · exact absurd h1 items_noint
    · cases (odd_ok _ h1).1 with
      | any _ _ _ _ =>
        unfold odds at h1
        simp at h1
        subst h1
        exact Bd.lit (by decide +kernel)
  · rcases mem e he with h1 | h1
    · exact items_ok h hd e h1
    · exact (odd_ok e h1).1
/-- at the second place it is seen the same by both -/
def Same2 (p : PyData) : Prop := isName p = (isS p && goodNames.any fun z => PyData.eqv z p)
theorem same2_tup (ds : List PyData) : Same2 (.tuple ds) := rfl
theorem same2_enc (l : Len) : Same2 (encL l) := by rw [enc_items]; rfl
theorem same2_abw {x : Str} (h : isABW x) : Same2 (.str x) := by
  rcases h with rfl | rfl | rfl <;> (show _ = _; decide +kernel)
theorem same2_odd : ∀ o ∈ odds, Same2 o := by
  intro o ho
  unfold odds at ho
  rcases List.mem_cons.mp ho with rfl | ho
  · show _ = _; decide +kernel
  rcases List.mem_cons.mp ho with rfl | ho
  · show _ = _; decide +kernel
  rcases List.mem_cons.mp ho with rfl | ho
  · show _ = _; decide +kernel
  rcases List.mem_cons.mp ho with rfl | ho
  · show _ = _; decide +kernel
  rcases List.mem_cons.mp ho with rfl | ho
  · rfl
  rcases List.mem_cons.mp ho with rfl | ho
  · rfl
  rcases List.mem_cons.mp ho with rfl | ho
  · rfl
  rcases List.mem_cons.mp ho with rfl | ho
  · rfl
  rcases List.mem_cons.mp ho with rfl | ho
  · show _ = _; decide +kernel
  rcases List.mem_cons.mp ho with rfl | ho
  · show _ = _; decide +kernel
  rcases List.mem_cons.mp ho with rfl | ho
  · rfl
  · cases List.mem_singleton.mp ho; rfl
theorem okF_leaf {v : PyData} (h : ∀ ds, v ≠ .tuple ds) : okF v := .any (fun ds e => absurd e (h ds)) fun w p e => absurd e (h _)
theorem okF_pair (a b : Int) : okF (.tuple [.int a, .int b]) := .any (fun ds e d hd => by
  cases e
  rcases List.mem_cons.mp hd with rfl | hd
  · exact okF_leaf fun _ e => nomatch e
  · cases List.mem_singleton.mp hd; exact okF_leaf fun _ e => nomatch e) fun w p e hw => by
  cases e
  cases hw
theorem okF_enc : ∀ {l : Len}, goodL l → okF (encL l)
  | .num q, h => .any (fun ds e d hd => by
      cases e
      rcases List.mem_cons.mp hd with rfl | hd
      · exact okF_leaf fun _ e => nomatch e
      · cases List.mem_singleton.mp hd; exact okF_pair _ _) fun w p e hw => by
      cases e
      exact absurd hw (by decide +kernel)
  | .of x, h => .any (fun ds e d hd => by
      cases e
      rcases List.mem_cons.mp hd with rfl | hd
      · exact okF_leaf fun _ e => nomatch e
      · cases List.mem_singleton.mp hd; exact okF_leaf fun _ e => nomatch e) fun w p e hw => by
      cases e
      exact same2_abw h
  | .times q l, h => .any (fun ds e d hd => by
      cases e
      rcases List.mem_cons.mp hd with rfl | hd
      · exact okF_leaf fun _ e => nomatch e
      rcases List.mem_cons.mp hd with rfl | hd
      · exact okF_pair _ _
      · cases List.mem_singleton.mp hd; exact okF_enc h.2) fun w p e hw => by cases e
  | .plus a b, h => .any (fun ds e d hd => by
      cases e
      rcases List.mem_cons.mp hd with rfl | hd
      · exact okF_leaf fun _ e => nomatch e
      rcases List.mem_cons.mp hd with rfl | hd
      · exact okF_enc h.1
      · cases List.mem_singleton.mp hd; exact okF_enc h.2) fun w p e hw => by cases e
  | .minus a b, h => .any (fun ds e d hd => by
      cases e
      rcases List.mem_cons.mp hd with rfl | hd
      · exact okF_leaf fun _ e => nomatch e
      rcases List.mem_cons.mp hd with rfl | hd
      · exact okF_enc h.1
      · cases List.mem_singleton.mp hd; exact okF_enc h.2) fun w p e hw => by cases e
theorem okF_odd : ∀ o ∈ odds, okF o := by
  intro o ho
  by_cases c : ∃ ds, o = .tuple ds
  · obtain ⟨ds, rfl⟩ := c
    unfold odds at ho
    have ho : ds = [.int 1, .int 2] ∨ ds = [.int 2, .int 4] ∨ ds = [.str "num", .tuple [.int 1, .int 1]] := by simpa using ho
    rcases ho with rfl | rfl | rfl
    · exact okF_pair _ _
    · exact okF_pair _ _
    · exact .any (fun ds e d hd => by
        cases e
        rcases List.mem_cons.mp hd with rfl | hd
        · exact okF_leaf fun _ e => nomatch e
        · cases List.mem_singleton.mp hd; exact okF_pair _ _) fun w p e hw => by
        cases e
        exact absurd hw (by decide +kernel)
  · exact okF_leaf fun ds e => c ⟨ds, e⟩
theorem items_F {l : Len} (h : goodL l) : ∀ e ∈ itemsL l, okF e := by
  have := okF_enc h
  rw [enc_items] at this
  cases this with
  | any h1 _ => exact h1 _ rfl
theorem items_2 {l : Len} (h : goodL l) : ∃ w t, itemsL l = .str w :: t ∧ (∀ p ∈ t, Same2 p) ∧ (t.length = 1 ∨ ∃ a b, t = [a, b]) := by
  cases l with
  | num q => exact ⟨_, _, rfl, fun p hp => by cases List.mem_singleton.mp hp; exact same2_tup _, .inl rfl⟩
  | of x => exact ⟨_, _, rfl, fun p hp => by cases List.mem_singleton.mp hp; exact same2_abw h, .inl rfl⟩
  | times q l => exact ⟨_, _, rfl, fun p hp => by
      rcases List.mem_cons.mp hp with rfl | hp
      · exact same2_tup _
      · cases List.mem_singleton.mp hp; exact same2_enc _, .inr ⟨_, _, rfl⟩⟩
  | plus a b => exact ⟨_, _, rfl, fun p hp => by
      rcases List.mem_cons.mp hp with rfl | hp
      · exact same2_enc _
      · cases List.mem_singleton.mp hp; exact same2_enc _, .inr ⟨_, _, rfl⟩⟩
  | minus a b => exact ⟨_, _, rfl, fun p hp => by
      rcases List.mem_cons.mp hp with rfl | hp
      · exact same2_enc _
      · cases List.mem_singleton.mp hp; exact same2_enc _, .inr ⟨_, _, rfl⟩⟩
theorem bent_second {l : Len} {w p : PyData} (h : goodL l) (b : Bent (itemsL l) [w, p]) : Same2 p := by
  obtain ⟨x, t, e, ht, hl⟩ := items_2 h
  rw [e] at b
  obtain ⟨n, hn, hb⟩ := b
  rcases hl with hl | ⟨a, b, rfl⟩
  · obtain ⟨a, rfl⟩ : ∃ a, t = [a] := by
      match t, hl with
      | [a], _ => exact ⟨a, rfl⟩
    have pa := ht a (by simp)
    have hn : n < 2 := hn
    match n, hn with
    | 0, _ =>
      rcases hb with hb | ⟨o, ho, hb | hb⟩
      · cases hb
      · cases hb; exact pa
      · cases hb
    | 1, _ =>
      rcases hb with hb | ⟨o, ho, hb | hb⟩
      · cases hb
      · cases hb; exact same2_odd _ ho
      · cases hb
  · have pa := ht a (by simp)
    have pb := ht b (by simp)
    have hn : n < 3 := hn
    match n, hn with
    | 0, _ =>
      rcases hb with hb | ⟨o, ho, hb | hb⟩
      · cases hb; exact pb
      · cases hb
      · cases hb
    | 1, _ =>
      rcases hb with hb | ⟨o, ho, hb | hb⟩
      · cases hb; exact pb
      · cases hb
      · cases hb
    | 2, _ =>
      rcases hb with hb | ⟨o, ho, hb | hb⟩
      · cases hb; exact pa
      · cases hb
      · cases hb
theorem okF_bent {l : Len} {es : List PyData} (h : goodL l) (b : Bent (itemsL l) es) : okF (.tuple es) := .any (fun ds e d hd => by
  cases e
  rcases bent_mem b d hd with h1 | h1
  · exact items_F h d h1
  · exact okF_odd d h1) fun w p e _ => by
  cases e
  exact bent_second h b
theorem both_looks {l : Len} {es : List PyData} (h : goodL l) (b : Bent (itemsL l) es) : nestV 8 (.tuple es) = rightV 8 (.tuple es) := nest_right 8 _ (okF_bent h b)
/-! ### the numbers -/
def numsL (qa qb qw : Rat) : Nums := [("a", qa), ("b2", qb), ("w", qw), ("x", 9)]
theorem sz_succ {q : Rat} (h : Sz 62 q) : Sz 100 (q + 1) := by
  rw [← divInt_add q 1]
  have e1 : q.num * ((1 : Rat).den : Int) + (1 : Rat).num * (q.den : Int) = q.num + q.den := by
    rw [show ((1 : Rat).den : Int) = 1 from rfl, show (1 : Rat).num = 1 from rfl]; omega
  have e2 : (q.den : Int) * ((1 : Rat).den : Int) = q.den := by
    rw [show ((1 : Rat).den : Int) = 1 from rfl]; omega
  rw [e1, e2]
  exact sz_divInt ((h.num.add h.den).mono (by decide)) (h.den.mono (by decide)) (den_ne q)
theorem sz_nine : Sz 62 (9 : Rat) := ⟨⟨by decide⟩, ⟨by decide⟩⟩
theorem nums_sz {qa qb qw : Rat} (ha : Sz 62 qa) (hb : Sz 62 qb) (hw : Sz 62 qw) : ∀ e ∈ numsL qa qb qw, Sz 100 e.2 := by
  intro e he
  rcases List.mem_cons.mp he with rfl | he
  · exact ha.mono (by decide)
  rcases List.mem_cons.mp he with rfl | he
  · exact hb.mono (by decide)
  rcases List.mem_cons.mp he with rfl | he
  · exact hw.mono (by decide)
  · cases List.mem_singleton.mp he; exact sz_nine.mono (by decide)
/-- one more for the name y -/
def moreL (kvs : Nums) (y : Str) : Nums := kvs.map fun p => if p.1 = y then (p.1, p.2 + 1) else p
/-- without the name y -/
def lessL (kvs : Nums) (y : Str) : Nums := kvs.filter fun p => !decide (p.1 = y)
theorem lk_more (kvs : Nums) (x y : Str) : lkN (moreL kvs y) x = (lkN kvs x).map (· + if x = y then 1 else 0) := by
  induction kvs with
  | nil => rfl
  | cons p r ih =>
    obtain ⟨k, q⟩ := p
    show lkN ((if k = y then (k, q + 1) else (k, q)) :: moreL r y) x = (if k = x then some q else lkN r x).map _
    by_cases c : k = x
    · subst c
      rw [if_pos rfl]
      by_cases d : k = y
      · subst d
        rw [if_pos rfl]
        simp [lkN]
      · rw [if_neg d]
        simp [lkN, d]
        grind
    · rw [if_neg c]
      by_cases d : k = y
      · rw [if_pos d]
        simp only [lkN, if_neg c]
        exact ih
      · rw [if_neg d]
        simp only [lkN, if_neg c]
        exact ih
theorem lk_less (kvs : Nums) (x y : Str) : lkN (lessL kvs y) x = if x = y then none else lkN kvs x := by
  induction kvs with
  | nil => unfold lessL; simp [lkN]
  | cons p r ih =>
    obtain ⟨k, q⟩ := p
    by_cases d : k = y
    · subst d
      have : lessL ((k, q) :: r) k = lessL r k := by unfold lessL; simp
      rw [this, ih]
      by_cases c : x = k
      · rw [if_pos c, if_pos c]
      · rw [if_neg c, if_neg c]
        simp only [lkN, if_neg (fun z : k = x => c z.symm)]
    · have : lessL ((k, q) :: r) y = (k, q) :: lessL r y := by unfold lessL; simp [d]
      rw [this]
      by_cases c : k = x
      · subst c
        rw [if_neg d]
        simp [lkN]
      · simp only [lkN, if_neg c]
        exact ih
theorem more_sz {qa qb qw : Rat} (ha : Sz 62 qa) (hb : Sz 62 qb) (hw : Sz 62 qw) (y : Str) : ∀ e ∈ moreL (numsL qa qb qw) y, Sz 100 e.2 := by
  intro e he
  obtain ⟨p, hp, rfl⟩ := List.mem_map.mp he
  have h62 : Sz 62 p.2 := by
    rcases List.mem_cons.mp hp with rfl | hp
    · exact ha
    rcases List.mem_cons.mp hp with rfl | hp
    · exact hb
    rcases List.mem_cons.mp hp with rfl | hp
    · exact hw
    · cases List.mem_singleton.mp hp; exact sz_nine
  split
  · exact sz_succ h62
  · exact h62.mono (by decide)
theorem less_sz {kvs : Nums} (h : ∀ e ∈ kvs, Sz 100 e.2) (y : Str) : ∀ e ∈ lessL kvs y, Sz 100 e.2 := fun e he => h e (List.mem_filter.mp he).1
theorem lk_nums {qa qb qw : Rat} {x : Str} (h : isABW x) : lkN (numsL qa qb qw) x ≠ none := by
  intro z
  rcases h with rfl | rfl | rfl
  · cases (show some qa = none from z)
  · cases (show some qb = none from z)
  · cases (show some qw = none from z)
theorem names4 {y : Str} (h : y ∈ (["a", "b2", "w", "x"] : List Str)) : ∀ qa qb qw : Rat, ∃ q, lkN (numsL qa qb qw) y = some q ∧ (q = qa ∨ q = qb ∨ q = qw ∨ q = 9) := by
  intro qa qb qw
  have h : y = "a" ∨ y = "b2" ∨ y = "w" ∨ y = "x" := by simpa using h
  rcases h with rfl | rfl | rfl | rfl
  · exact ⟨qa, rfl, .inl rfl⟩
  · exact ⟨qb, rfl, .inr (.inl rfl)⟩
  · exact ⟨qw, rfl, .inr (.inr (.inl rfl))⟩
  · exact ⟨9, rfl, .inr (.inr (.inr rfl))⟩
theorem more_ne {kvs : Nums} {y : Str} (h : kvs ≠ []) : moreL kvs y ≠ [] := fun z => h (List.map_eq_nil_iff.mp z)
/-- the sum that law is after: growth is what one more adds -/
theorem grow_is {kvs : Nums} {y : Str} {l : Len} {p q : Rat} (h1 : worthL (moreL kvs y) l = some p) (h2 : worthL kvs l = some q) : p - q = growL y l := by
  rw [worth_more (kvs := kvs) (y := y) fun x _ => lk_more kvs x y, h2] at h1
  have : q + growL y l = p := Option.some.inj h1
  rw [← this]
  grind
theorem told_less {kvs : Nums} {y : Str} {l : Len} (h : ∀ x ∈ namesL l, lkN kvs x ≠ none) : worthL (lessL kvs y) l = none ↔ y ∈ namesL l := by
  rw [worth_none]
  constructor
  · rintro ⟨x, hx, e⟩
    rw [lk_less] at e
    by_cases c : x = y
    · rw [← c]; exact hx
    · rw [if_neg c] at e
      exact absurd e (h x hx)
  · intro hy
    exact ⟨y, hy, by rw [lk_less, if_pos rfl]⟩
/-- 7 times the double of w -/
def deepL : Nat → Len
  | 0 => .of "w"
  | n + 1 => .times 2 (deepL n)
theorem deep_deep : ∀ n, (deepL n).deep = n
  | 0 => rfl
  | n + 1 => congrArg (· + 1) (deep_deep n)
theorem deep_good : ∀ n, goodL (deepL n)
  | 0 => .inr (.inr rfl)
  | n + 1 => ⟨⟨⟨by decide⟩, ⟨by decide⟩⟩, deep_good n⟩
theorem deep_bits : ∀ n, bitsL (deepL n) = 100 + 62 * n
  | 0 => rfl
  | n + 1 => by
    show 62 + bitsL (deepL n) = _
    rw [deep_bits n]; omega
theorem deep_worth (kvs : Nums) {q : Rat} (h : lkN kvs "w" = some q) : worthL kvs (deepL 7) = some (128 * q) := by
  show (((((((lkN kvs "w").map (2 * ·)).map (2 * ·)).map (2 * ·)).map (2 * ·)).map (2 * ·)).map (2 * ·)).map (2 * ·) = _
  rw [h]
  exact congrArg some (by show 2 * (2 * (2 * (2 * (2 * (2 * (2 * q)))))) = 128 * q; grind)
theorem sorted_names {ss : List Str} {l : Len} (h : goodL l) (s : SortOf ss (namesL l)) : (∀ x ∈ ss, isABW x) ∧ ss.length ≤ 3 := by
  have h1 : ∀ x ∈ ss, isABW x := fun x hx => names_good h x ((s.2.2 x).mp hx)
  refine ⟨h1, ?_⟩
  have nd := s.2.1
  match ss, h1, nd with
  | [], _, _ => exact Nat.zero_le _
  | [_], _, _ => exact (by decide : 1 ≤ 3)
  | [_, _], _, _ => exact (by decide : 2 ≤ 3)
  | [_, _, _], _, _ => exact Nat.le_refl 3
  | x1 :: x2 :: x3 :: x4 :: r, h1, nd =>
    exfalso
    simp only [List.nodup_cons, List.mem_cons, not_or] at nd
    have a1 := h1 x1 (by simp)
    have a2 := h1 x2 (by simp)
    have a3 := h1 x3 (by simp)
    have a4 := h1 x4 (by simp)
    obtain ⟨⟨n12, n13, n14, _⟩, ⟨n23, n24, _⟩, ⟨n34, _⟩, _⟩ := nd
    rcases a1 with e1 | e1 | e1 <;> rcases a2 with e2 | e2 | e2 <;> first | exact n12 (e1.trans e2.symm) | (rcases a3 with e3 | e3 | e3 <;> first | exact n13 (e1.trans e3.symm) | exact n23 (e2.trans e3.symm) | (rcases a4 with e4 | e4 | e4 <;> first | exact n14 (e1.trans e4.symm) | exact n24 (e2.trans e4.symm) | exact n34 (e3.trans e4.symm)))
theorem shaped_names {ss : List Str} (h : ∀ x ∈ ss, isABW x) : SeqAt.shaped (.list (ss.map .str)) = true := by
  obtain ⟨l1, l2⟩ := lay_all (es := ss.map PyData.str) (n := 0) fun e he => by
    obtain ⟨x, hx, rfl⟩ := List.mem_map.mp he
    exact ⟨lay_strs (name_abw (h x hx)).2.1, Nat.le_refl _⟩
  exact sh_of l1 (by simp only [PyData.depth]; omega)
/-! ### dicts of numbers as they are made -/
abbrev kvD (p : Str × Rat) : Key × PyData := (.inr p.1, dR p.2)
theorem merge_nums (qa qb qw : Rat) : mergeD [] [((.inr "a" : Key), dR qa), (.inr "b2", dR qb), (.inr "w", dR qw), (.inr "x", dR 9)] = (numsL qa qb qw).map kvD := rfl
theorem put_more {qa qb qw q : Rat} {y : Str} (h : y ∈ (["a", "b2", "w", "x"] : List Str)) (e : lkN (numsL qa qb qw) y = some q) : putD ((numsL qa qb qw).map kvD) (.inr y) (dR (q + 1)) = (moreL (numsL qa qb qw) y).map kvD := by
  have h : y = "a" ∨ y = "b2" ∨ y = "w" ∨ y = "x" := by simpa using h
  rcases h with rfl | rfl | rfl | rfl
  · cases (show some qa = some q from e); rfl
  · cases (show some qb = some q from e); rfl
  · cases (show some qw = some q from e); rfl
  · cases (show some (9 : Rat) = some q from e); rfl
theorem merge_less {qa qb qw : Rat} {y : Str} (h : y ∈ (["a", "b2", "w", "x"] : List Str)) : mergeD [] ((lessL (numsL qa qb qw) y).map kvD) = (lessL (numsL qa qb qw) y).map kvD ∧ lessL (numsL qa qb qw) y ≠ [] := by
  have h : y = "a" ∨ y = "b2" ∨ y = "w" ∨ y = "x" := by simpa using h
  rcases h with rfl | rfl | rfl | rfl
  · exact ⟨rfl, fun z => nomatch (show [(("b2" : Str), qb), ("w", qw), ("x", 9)] = [] from z)⟩
  · exact ⟨rfl, fun z => nomatch (show [(("a" : Str), qa), ("w", qw), ("x", 9)] = [] from z)⟩
  · exact ⟨rfl, fun z => nomatch (show [(("a" : Str), qa), ("b2", qb), ("x", 9)] = [] from z)⟩
  · exact ⟨rfl, fun z => nomatch (show [(("a" : Str), qa), ("b2", qb), ("w", qw)] = [] from z)⟩
theorem less_snoc {kvs : Nums} {k : Nat} {p : Str × Rat} {y : Str} (h : kvs[k]? = some p) : lessL (kvs.take (k + 1)) y = lessL (kvs.take k) y ++ (if p.1 = y then [] else [p]) := by
  unfold lessL
  rw [List.take_add_one, h, List.filter_append]
  congr 1
  by_cases c : p.1 = y <;> simp [c]
theorem nums_at {qa qb qw : Rat} {k : Nat} {p : Str × Rat} (h : (numsL qa qb qw)[k]? = some p) : k < 4 ∧ lkN (numsL qa qb qw) p.1 = some p.2 ∧ p.1 ∈ (["a", "b2", "w", "x"] : List Str) := by
  match k, h with
  | 0, h => cases h; exact ⟨by decide, rfl, by simp⟩
  | 1, h => cases h; exact ⟨by decide, rfl, by simp⟩
  | 2, h => cases h; exact ⟨by decide, rfl, by simp⟩
  | 3, h => cases h; exact ⟨by decide, rfl, by simp⟩
  | k + 4, h => cases h
theorem shaped_4 {y : Str} (h : y ∈ (["a", "b2", "w", "x"] : List Str)) : SeqAt.shaped (.str y) = true := by
  have h : y = "a" ∨ y = "b2" ∨ y = "w" ∨ y = "x" := by simpa using h
  rcases h with rfl | rfl | rfl | rfl <;> decide +kernel
theorem rp_abw {x : Str} (h : isABW x) : Rp 0 20 (.str x) := by
  rcases h with rfl | rfl | rfl <;> exact ⟨by decide +kernel, by decide +kernel, by decide +kernel, by decide +kernel, by decide +kernel⟩
theorem rp_names {ss : List Str} (h : ∀ x ∈ ss, isABW x) (hl : ss.length ≤ 3) : Rp 1 100 (.list (ss.map .str)) :=
  (rp_lst (rp_map fun x hx => rp_abw (h x hx))).mono (Nat.le_refl _) (by omega)
theorem any_names (ss : List Str) (y : Str) : ((ss.map PyData.str).any fun z => PyData.eqv z (.str y)) = decide (y ∈ ss) := by
  rw [Bool.eq_iff_iff, List.any_eq_true, decide_eq_true_eq]
  constructor
  · rintro ⟨z, hz, e⟩
    obtain ⟨x, hx, rfl⟩ := List.mem_map.mp hz
    have : x = y := by simpa [PyData.eqv] using e
    rw [← this]; exact hx
  · intro hy
    exact ⟨.str y, List.mem_map.mpr ⟨y, hy, rfl⟩, by simp [PyData.eqv]⟩
theorem told_eq {r : PyData} {w : Rat} : PyData.eqv (dR w) (.str "there") = false := rfl
theorem shaped_there : SeqAt.shaped (.str "there") = true := by decide +kernel
theorem shaped_bl (b : Bool) : SeqAt.shaped (.bool b) = true := by cases b <;> decide +kernel
theorem gone_ne (b : Bool) : (!PyData.eqv (.bool b) (.bool b)) = false := by cases b <;> rfl
theorem shown_ne (x : Str) : (!decide (x = x)) = false := by simp
theorem four_at {k : Nat} {d : PyData} (h : ([.str "a", .str "b2", .str "w", .str "x"] : List PyData)[k]? = some d) : ∃ y : Str, d = .str y ∧ y ∈ (["a", "b2", "w", "x"] : List Str) := by
  match k, h with
  | 0, h => cases h; exact ⟨_, rfl, by simp⟩
  | 1, h => cases h; exact ⟨_, rfl, by simp⟩
  | 2, h => cases h; exact ⟨_, rfl, by simp⟩
  | 3, h => cases h; exact ⟨_, rfl, by simp⟩
  | k + 4, h => cases h
theorem okT_good {l : Len} {y : Str} (h : goodL l) (hy : y ∈ (["a", "b2", "w", "x"] : List Str)) : okT l y := ⟨fun x hx => (name_abw (names_good h x hx)).2.1, shaped_4 hy⟩
theorem nums_ne (qa qb qw : Rat) : numsL qa qb qw ≠ [] := fun z => nomatch z
theorem kv_ne {kvs : Nums} (h : kvs ≠ []) : kvs.map kvD ≠ [] := fun z => h (List.map_eq_nil_iff.mp z)
theorem worth_nums {l : Len} (h : goodL l) (qa qb qw : Rat) : ∃ w, worthL (numsL qa qb qw) l = some w := worth_some fun x hx => lk_nums (names_good h x hx)
theorem worth_more_some {l : Len} (h : goodL l) (qa qb qw : Rat) (y : Str) : ∃ w, worthL (moreL (numsL qa qb qw) y) l = some w := by
  obtain ⟨w, hw⟩ := worth_nums h qa qb qw
  rw [worth_more (kvs := numsL qa qb qw) (y := y) fun x _ => lk_more _ x y, hw]
  exact ⟨_, rfl⟩
def topS (i : Nat) : Stmt := PySem.Challenge.pw_mitrehouse_k06_lengths.main.body.getD i (.Pass ⟨0, 0, 0, 0⟩)
abbrev s_is_name : Stmt := topS 7
abbrev s_is_whole : Stmt := topS 11
abbrev s_ratio : Stmt := topS 12
abbrev s_is_ratio : Stmt := topS 13
abbrev s_plus : Stmt := topS 14
abbrev s_opposite : Stmt := topS 17
abbrev s_minus : Stmt := topS 15
abbrev s_times : Stmt := topS 16
abbrev s_is_leaf : Stmt := topS 20
abbrev s_is_nested : Stmt := topS 21
abbrev s_is_length : Stmt := topS 22
abbrev s_length_worth : Stmt := topS 23
abbrev s_names_within : Stmt := topS 24
abbrev s_growth : Stmt := topS 26
abbrev s__law_names : Stmt := topS 33
abbrev s__law_is_ratio : Stmt := topS 37
abbrev s__law_is_right : Stmt := topS 36
abbrev s__law_draws : Stmt := topS 28
abbrev s__law_take : Stmt := topS 29
abbrev s__law_ratio : Stmt := topS 30
abbrev s__law_small : Stmt := topS 31
abbrev s__law_any_length : Stmt := topS 32
abbrev s__law_told : Stmt := topS 35
abbrev s__law_bent : Stmt := topS 38
abbrev s_numbers_in : Stmt := topS 25
abbrev s__law_worth : Stmt := topS 34
abbrev s_law : Stmt := topS 39
theorem sc_is_name : FnScope ["value"] ["value"] (defScope s_is_name) := ⟨rfl, rfl, rfl, by decide +kernel, rfl, by decide +kernel, by decide +kernel⟩
theorem sc_is_whole : FnScope ["value"] ["value"] (defScope s_is_whole) := ⟨rfl, rfl, rfl, by decide +kernel, rfl, by decide +kernel, by decide +kernel⟩
theorem sc_ratio : FnScope ["above", "below", "common"] ["above", "below"] (defScope s_ratio) := ⟨rfl, rfl, rfl, by decide +kernel, rfl, by decide +kernel, by decide +kernel⟩
theorem sc_is_ratio : FnScope ["value", "above", "below"] ["value"] (defScope s_is_ratio) := ⟨rfl, rfl, rfl, by decide +kernel, rfl, by decide +kernel, by decide +kernel⟩
theorem sc_plus : FnScope ["one", "other"] ["one", "other"] (defScope s_plus) := ⟨rfl, rfl, rfl, by decide +kernel, rfl, by decide +kernel, by decide +kernel⟩
theorem sc_opposite : FnScope ["one"] ["one"] (defScope s_opposite) := ⟨rfl, rfl, rfl, by decide +kernel, rfl, by decide +kernel, by decide +kernel⟩
theorem sc_minus : FnScope ["one", "other"] ["one", "other"] (defScope s_minus) := ⟨rfl, rfl, rfl, by decide +kernel, rfl, by decide +kernel, by decide +kernel⟩
theorem sc_times : FnScope ["one", "other"] ["one", "other"] (defScope s_times) := ⟨rfl, rfl, rfl, by decide +kernel, rfl, by decide +kernel, by decide +kernel⟩
theorem sc_is_leaf : FnScope ["value", "word", "part"] ["value"] (defScope s_is_leaf) := ⟨rfl, rfl, rfl, by decide +kernel, rfl, by decide +kernel, by decide +kernel⟩
theorem sc_is_nested : FnScope ["value", "depth", "word", "part", "other"] ["value", "depth"] (defScope s_is_nested) := ⟨rfl, rfl, rfl, by decide +kernel, rfl, by decide +kernel, by decide +kernel⟩
theorem sc_is_length : FnScope ["value"] ["value"] (defScope s_is_length) := ⟨rfl, rfl, rfl, by decide +kernel, rfl, by decide +kernel, by decide +kernel⟩
theorem sc_length_worth : FnScope ["length", "numbers", "word", "part", "one", "other"] ["length", "numbers"] (defScope s_length_worth) := ⟨rfl, rfl, rfl, by decide +kernel, rfl, by decide +kernel, by decide +kernel⟩
theorem sc_names_within : FnScope ["length"] ["length"] (defScope s_names_within) := ⟨rfl, rfl, rfl, by decide +kernel, rfl, by decide +kernel, by decide +kernel⟩
theorem sc_growth : FnScope ["length", "name", "word", "part", "one", "other"] ["length", "name"] (defScope s_growth) := ⟨rfl, rfl, rfl, by decide +kernel, rfl, by decide +kernel, by decide +kernel⟩
theorem sc__law_names : FnScope ["length", "found", "part"] ["length"] (defScope s__law_names) := ⟨rfl, rfl, rfl, by decide +kernel, rfl, by decide +kernel, by decide +kernel⟩
theorem sc__law_is_ratio : FnScope ["value", "part"] ["value"] (defScope s__law_is_ratio) := ⟨rfl, rfl, rfl, by decide +kernel, rfl, by decide +kernel, by decide +kernel⟩
theorem sc__law_is_right : FnScope ["value", "depth"] ["value", "depth"] (defScope s__law_is_right) := ⟨rfl, rfl, rfl, by decide +kernel, rfl, by decide +kernel, by decide +kernel⟩
theorem sc__law_draws : FnScope ["script", "draws", "cell", "number", "first", "k", "seed"] ["script"] (defScope s__law_draws) := ⟨rfl, rfl, rfl, by decide +kernel, rfl, by decide +kernel, by decide +kernel⟩
theorem sc__law_take : FnScope ["draws", "bound"] ["draws", "bound"] (defScope s__law_take) := ⟨rfl, rfl, rfl, by decide +kernel, rfl, by decide +kernel, by decide +kernel⟩
theorem sc__law_ratio : FnScope ["draws", "kind"] ["draws"] (defScope s__law_ratio) := ⟨rfl, rfl, rfl, by decide +kernel, rfl, by decide +kernel, by decide +kernel⟩
theorem sc__law_small : FnScope ["draws"] ["draws"] (defScope s__law_small) := ⟨rfl, rfl, rfl, by decide +kernel, rfl, by decide +kernel, by decide +kernel⟩
theorem sc__law_any_length : FnScope ["draws", "depth", "kind"] ["draws", "depth"] (defScope s__law_any_length) := ⟨rfl, rfl, rfl, by decide +kernel, rfl, by decide +kernel, by decide +kernel⟩
theorem sc__law_told : FnScope ["length", "numbers"] ["length", "numbers"] (defScope s__law_told) := ⟨rfl, rfl, rfl, by decide +kernel, rfl, by decide +kernel, by decide +kernel⟩
theorem sc__law_bent : FnScope ["draws", "value", "row", "at", "odd", "kind"] ["draws", "value"] (defScope s__law_bent) := ⟨rfl, rfl, rfl, by decide +kernel, rfl, by decide +kernel, by decide +kernel⟩
theorem sc_numbers_in : FnScope ["length"] ["length"] (defScope s_numbers_in) := ⟨rfl, rfl, rfl, by decide +kernel, rfl, by decide +kernel, by decide +kernel⟩
theorem sc__law_worth : FnScope ["length", "numbers", "one", "other"] ["length", "numbers"] (defScope s__law_worth) := ⟨rfl, rfl, rfl, by decide +kernel, rfl, by decide +kernel, by decide +kernel⟩
theorem sc_law : FnScope ["script", "draws", "numbers", "turn", "length", "names", "name", "more", "less", "value", "deep", "k", "told", "other"] ["script"] (defScope s_law) := ⟨rfl, rfl, rfl, by decide +kernel, rfl, by decide +kernel, by decide +kernel⟩
/-! ### what the top has written -/
structure Ad where
  f_is_name : Addr
  d_is_name : FuncData
  f_is_whole : Addr
  d_is_whole : FuncData
  f_ratio : Addr
  d_ratio : FuncData
  f_is_ratio : Addr
  d_is_ratio : FuncData
  f_plus : Addr
  d_plus : FuncData
  f_opposite : Addr
  d_opposite : FuncData
  f_minus : Addr
  d_minus : FuncData
  f_times : Addr
  d_times : FuncData
  f_is_leaf : Addr
  d_is_leaf : FuncData
  f_is_nested : Addr
  d_is_nested : FuncData
  f_is_length : Addr
  d_is_length : FuncData
  f_length_worth : Addr
  d_length_worth : FuncData
  f_names_within : Addr
  d_names_within : FuncData
  f_growth : Addr
  d_growth : FuncData
  f__law_names : Addr
  d__law_names : FuncData
  f__law_is_ratio : Addr
  d__law_is_ratio : FuncData
  f__law_is_right : Addr
  d__law_is_right : FuncData
  f__law_draws : Addr
  d__law_draws : FuncData
  f__law_take : Addr
  d__law_take : FuncData
  f__law_ratio : Addr
  d__law_ratio : FuncData
  f__law_small : Addr
  d__law_small : FuncData
  f__law_any_length : Addr
  d__law_any_length : FuncData
  f__law_told : Addr
  d__law_told : FuncData
  f__law_bent : Addr
  d__law_bent : FuncData
  f_numbers_in : Addr
  d_numbers_in : FuncData
  f__law_worth : Addr
  d__law_worth : FuncData
  f_law : Addr
  d_law : FuncData
  C_NotNumber : Addr
  C_NotThere : Addr
  C_MitreError : Addr
  cc_is_name : Addr
  P_is_name : Addr
  vd_ratio : List Value
  c_DEEPEST : Tok
  c_DIGITS : Tok
  c_LETTERS : Tok
  c_ONE : Addr
  c_ZERO : Addr
structure Txt (K : PySem.W.Frag) (mg : Str → Option Value) (A : Ad) : Prop where
  F_is_name : Fd K "is_name" "is_name" s_is_name A.f_is_name A.d_is_name
  g_is_name : mg "is_name" = some (.ref A.f_is_name)
  k_is_name : PySem.W.keepIn K (.ref A.f_is_name) = true
  b_is_name : Binds K A.d_is_name ["value"] []
  F_is_whole : Fd K "is_whole" "is_whole" s_is_whole A.f_is_whole A.d_is_whole
  g_is_whole : mg "is_whole" = some (.ref A.f_is_whole)
  k_is_whole : PySem.W.keepIn K (.ref A.f_is_whole) = true
  b_is_whole : Binds K A.d_is_whole ["value"] []
  F_ratio : Fd K "ratio" "ratio" s_ratio A.f_ratio A.d_ratio
  g_ratio : mg "ratio" = some (.ref A.f_ratio)
  k_ratio : PySem.W.keepIn K (.ref A.f_ratio) = true
  b_ratio : Binds K A.d_ratio ["above", "below"] []
  F_is_ratio : Fd K "is_ratio" "is_ratio" s_is_ratio A.f_is_ratio A.d_is_ratio
  g_is_ratio : mg "is_ratio" = some (.ref A.f_is_ratio)
  k_is_ratio : PySem.W.keepIn K (.ref A.f_is_ratio) = true
  b_is_ratio : Binds K A.d_is_ratio ["value"] []
  F_plus : Fd K "plus" "plus" s_plus A.f_plus A.d_plus
  g_plus : mg "plus" = some (.ref A.f_plus)
  k_plus : PySem.W.keepIn K (.ref A.f_plus) = true
  b_plus : Binds K A.d_plus ["one", "other"] []
  F_opposite : Fd K "opposite" "opposite" s_opposite A.f_opposite A.d_opposite
  g_opposite : mg "opposite" = some (.ref A.f_opposite)
  k_opposite : PySem.W.keepIn K (.ref A.f_opposite) = true
  b_opposite : Binds K A.d_opposite ["one"] []
  F_minus : Fd K "minus" "minus" s_minus A.f_minus A.d_minus
  g_minus : mg "minus" = some (.ref A.f_minus)
  k_minus : PySem.W.keepIn K (.ref A.f_minus) = true
  b_minus : Binds K A.d_minus ["one", "other"] []
  F_times : Fd K "times" "times" s_times A.f_times A.d_times
  g_times : mg "times" = some (.ref A.f_times)
  k_times : PySem.W.keepIn K (.ref A.f_times) = true
  b_times : Binds K A.d_times ["one", "other"] []
  F_is_leaf : Fd K "is_leaf" "is_leaf" s_is_leaf A.f_is_leaf A.d_is_leaf
  g_is_leaf : mg "is_leaf" = some (.ref A.f_is_leaf)
  k_is_leaf : PySem.W.keepIn K (.ref A.f_is_leaf) = true
  b_is_leaf : Binds K A.d_is_leaf ["value"] []
  F_is_nested : Fd K "is_nested" "is_nested" s_is_nested A.f_is_nested A.d_is_nested
  g_is_nested : mg "is_nested" = some (.ref A.f_is_nested)
  k_is_nested : PySem.W.keepIn K (.ref A.f_is_nested) = true
  b_is_nested : Binds K A.d_is_nested ["value", "depth"] []
  F_is_length : Fd K "is_length" "is_length" s_is_length A.f_is_length A.d_is_length
  g_is_length : mg "is_length" = some (.ref A.f_is_length)
  k_is_length : PySem.W.keepIn K (.ref A.f_is_length) = true
  b_is_length : Binds K A.d_is_length ["value"] []
  F_length_worth : Fd K "length_worth" "length_worth" s_length_worth A.f_length_worth A.d_length_worth
  g_length_worth : mg "length_worth" = some (.ref A.f_length_worth)
  k_length_worth : PySem.W.keepIn K (.ref A.f_length_worth) = true
  b_length_worth : Binds K A.d_length_worth ["length", "numbers"] []
  F_names_within : Fd K "names_within" "names_within" s_names_within A.f_names_within A.d_names_within
  g_names_within : mg "names_within" = some (.ref A.f_names_within)
  k_names_within : PySem.W.keepIn K (.ref A.f_names_within) = true
  b_names_within : Binds K A.d_names_within ["length"] []
  F_growth : Fd K "growth" "growth" s_growth A.f_growth A.d_growth
  g_growth : mg "growth" = some (.ref A.f_growth)
  k_growth : PySem.W.keepIn K (.ref A.f_growth) = true
  b_growth : Binds K A.d_growth ["length", "name"] []
  F__law_names : Fd K "_law_names" "_law_names" s__law_names A.f__law_names A.d__law_names
  g__law_names : mg "_law_names" = some (.ref A.f__law_names)
  k__law_names : PySem.W.keepIn K (.ref A.f__law_names) = true
  b__law_names : Binds K A.d__law_names ["length"] []
  F__law_is_ratio : Fd K "_law_is_ratio" "_law_is_ratio" s__law_is_ratio A.f__law_is_ratio A.d__law_is_ratio
  g__law_is_ratio : mg "_law_is_ratio" = some (.ref A.f__law_is_ratio)
  k__law_is_ratio : PySem.W.keepIn K (.ref A.f__law_is_ratio) = true
  b__law_is_ratio : Binds K A.d__law_is_ratio ["value"] []
  F__law_is_right : Fd K "_law_is_right" "_law_is_right" s__law_is_right A.f__law_is_right A.d__law_is_right
  g__law_is_right : mg "_law_is_right" = some (.ref A.f__law_is_right)
  k__law_is_right : PySem.W.keepIn K (.ref A.f__law_is_right) = true
  b__law_is_right : Binds K A.d__law_is_right ["value", "depth"] []
  F__law_draws : Fd K "_law_draws" "_law_draws" s__law_draws A.f__law_draws A.d__law_draws
  g__law_draws : mg "_law_draws" = some (.ref A.f__law_draws)
  k__law_draws : PySem.W.keepIn K (.ref A.f__law_draws) = true
  b__law_draws : Binds K A.d__law_draws ["script"] []
  F__law_take : Fd K "_law_take" "_law_take" s__law_take A.f__law_take A.d__law_take
  g__law_take : mg "_law_take" = some (.ref A.f__law_take)
  k__law_take : PySem.W.keepIn K (.ref A.f__law_take) = true
  b__law_take : Binds K A.d__law_take ["draws", "bound"] []
  F__law_ratio : Fd K "_law_ratio" "_law_ratio" s__law_ratio A.f__law_ratio A.d__law_ratio
  g__law_ratio : mg "_law_ratio" = some (.ref A.f__law_ratio)
  k__law_ratio : PySem.W.keepIn K (.ref A.f__law_ratio) = true
  b__law_ratio : Binds K A.d__law_ratio ["draws"] []
  F__law_small : Fd K "_law_small" "_law_small" s__law_small A.f__law_small A.d__law_small
  g__law_small : mg "_law_small" = some (.ref A.f__law_small)
  k__law_small : PySem.W.keepIn K (.ref A.f__law_small) = true
  b__law_small : Binds K A.d__law_small ["draws"] []
  F__law_any_length : Fd K "_law_any_length" "_law_any_length" s__law_any_length A.f__law_any_length A.d__law_any_length
  g__law_any_length : mg "_law_any_length" = some (.ref A.f__law_any_length)
  k__law_any_length : PySem.W.keepIn K (.ref A.f__law_any_length) = true
  b__law_any_length : Binds K A.d__law_any_length ["draws", "depth"] []
  F__law_told : Fd K "_law_told" "_law_told" s__law_told A.f__law_told A.d__law_told
  g__law_told : mg "_law_told" = some (.ref A.f__law_told)
  k__law_told : PySem.W.keepIn K (.ref A.f__law_told) = true
  b__law_told : Binds K A.d__law_told ["length", "numbers"] []
  F__law_bent : Fd K "_law_bent" "_law_bent" s__law_bent A.f__law_bent A.d__law_bent
  g__law_bent : mg "_law_bent" = some (.ref A.f__law_bent)
  k__law_bent : PySem.W.keepIn K (.ref A.f__law_bent) = true
  b__law_bent : Binds K A.d__law_bent ["draws", "value"] []
  F_numbers_in : Fd K "numbers_in" "numbers_in" s_numbers_in A.f_numbers_in A.d_numbers_in
  g_numbers_in : mg "numbers_in" = some (.ref A.f_numbers_in)
  k_numbers_in : PySem.W.keepIn K (.ref A.f_numbers_in) = true
  b_numbers_in : Binds K A.d_numbers_in ["length"] []
  F__law_worth : Fd K "_law_worth" "_law_worth" s__law_worth A.f__law_worth A.d__law_worth
  g__law_worth : mg "_law_worth" = some (.ref A.f__law_worth)
  k__law_worth : PySem.W.keepIn K (.ref A.f__law_worth) = true
  b__law_worth : Binds K A.d__law_worth ["length", "numbers"] []
  F_law : Fd K "law" "law" s_law A.f_law A.d_law
  g_law : mg "law" = some (.ref A.f_law)
  k_law : PySem.W.keepIn K (.ref A.f_law) = true
  b_law : Binds K A.d_law ["script"] []
  cc_is_name : ∀ cdv, CodeIs K A.f_is_name cdv → cdv = .ref A.cc_is_name
  lm_is_name : ∀ q, ¬ NmC.lm A.P_is_name q
  tb_is_name : NmC.tb A.P_is_name
  vd_ratio : Vals [.int 1] A.vd_ratio
  bd_ratio : Binds K A.d_ratio ["above", "below"] A.vd_ratio
  g_NotNumber : mg "NotNumber" = some (.ref A.C_NotNumber)
  k_NotNumber : PySem.W.keepIn K (.ref A.C_NotNumber) = true
  x_NotNumber : PySem.W.excIn K A.C_NotNumber [.type "ValueError", .type "Exception", .type "BaseException", .type "object"] "ValueError.__new__" = true
  bx_NotNumber : PySem.W.subIn K (.ref A.C_NotNumber) (.type "BaseException") = some true
  tx_NotNumber : PySem.W.typeIn K (.ref A.C_NotNumber) = some (.type "type")
  m_NotNumber : PySem.W.exmOne K (.ref A.C_NotNumber) (.ref A.C_NotNumber) = some true
  g_NotThere : mg "NotThere" = some (.ref A.C_NotThere)
  k_NotThere : PySem.W.keepIn K (.ref A.C_NotThere) = true
  x_NotThere : PySem.W.excIn K A.C_NotThere [.type "ValueError", .type "Exception", .type "BaseException", .type "object"] "ValueError.__new__" = true
  bx_NotThere : PySem.W.subIn K (.ref A.C_NotThere) (.type "BaseException") = some true
  tx_NotThere : PySem.W.typeIn K (.ref A.C_NotThere) = some (.type "type")
  m_NotThere : PySem.W.exmOne K (.ref A.C_NotThere) (.ref A.C_NotThere) = some true
  g_MitreError : mg "MitreError" = some (.ref A.C_MitreError)
  k_MitreError : PySem.W.keepIn K (.ref A.C_MitreError) = true
  x_MitreError : PySem.W.excIn K A.C_MitreError [.type "ValueError", .type "Exception", .type "BaseException", .type "object"] "ValueError.__new__" = true
  bx_MitreError : PySem.W.subIn K (.ref A.C_MitreError) (.type "BaseException") = some true
  tx_MitreError : PySem.W.typeIn K (.ref A.C_MitreError) = some (.type "type")
  m_MitreError : PySem.W.exmOne K (.ref A.C_MitreError) (.ref A.C_MitreError) = some true
  c_DEEPEST : mg "DEEPEST" = some (.int 8 A.c_DEEPEST)
  c_DIGITS : mg "DIGITS" = some (.str "0123456789" A.c_DIGITS)
  c_LETTERS : mg "LETTERS" = some (.str "abcdefghijklmnopqrstuvwxyz" A.c_LETTERS)
  c_ONE : mg "ONE" = some (.ref A.c_ONE)
  t_ONE : ∀ H, Dd K H (.ref A.c_ONE) (.tuple [.int 1, .int 1])
  c_ZERO : mg "ZERO" = some (.ref A.c_ZERO)
  t_ZERO : ∀ H, Dd K H (.ref A.c_ZERO) (.tuple [.int 0, .int 1])
  z_abs : mg "abs" = none
  z_all : mg "all" = none
  z_bool : mg "bool" = none
  z_dict : mg "dict" = none
  z_int : mg "int" = none
  z_isinstance : mg "isinstance" = none
  z_len : mg "len" = none
  z_list : mg "list" = none
  z_range : mg "range" = none
  z_repr : mg "repr" = none
  z_reversed : mg "reversed" = none
  z_set : mg "set" = none
  z_sorted : mg "sorted" = none
  z_str : mg "str" = none
  z_tuple : mg "tuple" = none
  g_gcd : mg "gcd" = some (.builtin "math.gcd")
abbrev sp_is_name (K : PySem.W.Frag) (A : Ad) : Sp := spD K 1 (fun d : PyData => [d]) (fun d => okS d) (fun d r => r = .bool (isName d)) (fun _ _ => False)
theorem ok_is_name {P : Program} {w : World} {K : PySem.W.Frag} {mg : Str → Option Value} {base : Heap} {A : Ad} (T : Txt K mg A)  (TB_is_name : LamX.TabB base mg A.cc_is_name A.P_is_name) :
    FnG P w K mg base 1 A.f_is_name A.d_is_name ["value"] (sp_is_name K A) := by
  refine fn_dataC T.F_is_name sc_is_name rfl fun cdv hcd A' outer s H E hgd hr => ⟨_, (pss_cons (ps_if (PW.pt (pw_or (pt_not (pt_val (pe_callB (call_isiB (K := K) rfl) (by rfl) T.z_isinstance (by decide +kernel) (pa_cons (pv 0) (pa_cons (pe_bltn (v := .ty "str") (by rfl) T.z_str (by decide +kernel) rfl) pa_nil))))) (pw_or1 (pt_not (pt_chain op_le op_le pe_int (pe_callB call_len_str (by rfl) T.z_len (by decide +kernel) (pa_cons (pv 0) pa_nil)) pe_int))))) (pss_one (ps_ret pe_bl)) pss_nil)
  (pss_one (ps_ret (pe_and (pe_cmpR op_in_sign (pe_ix ix_str (pv 0) pe_int (fun _ _ => rfl)) (pe_glob (v := (.str "abcdefghijklmnopqrstuvwxyz")) (by rfl) T.c_LETTERS ⟨_, rfl⟩) rfl) (pe_one (pe_allG hr (by rfl) T.z_all TB_is_name (T.cc_is_name cdv hcd) (gens_by (by decide +kernel)) (pv 0) (el_orG (el_inG T.c_LETTERS (by rfl) (by rfl) (by rfl)) (el_inG T.c_DIGITS (by rfl) (by rfl) (by rfl))) (by intro _; rfl))))))), ?_⟩
  intro d hd
  show SX K _ _ [.dat d] _
  try dsimp only [bodyK] at *
  by_cases ht : ∃ x, d = .str x
  · obtain ⟨x, rfl⟩ := ht
    have hz : x.length = x.cps.toList.length := (Array.length_toList ..).symm
    have hd : x.length ≤ 1000 := hd
    refine sx_guard (!(decide (1 ≤ x.length) && decide (x.length ≤ 12))) ?_ (fun h => ?_) (fun h => ?_)
    · refine tx_or (tx_not (tx_B (ex_CB (ax_cons (ex_var rfl (ax_cons (ex_cv (ax_nil (vx_isi (kit_str _) ⟨_, rfl, fun h => (Bool.false_ne_true h).elim, fun _ => ?_⟩)))))))))
      refine tx_not (tx_test (ex_chainI (ex_int ⟨_, rfl, ex_CB (ax_cons (ex_var rfl (ax_nil (vx_lenS (by omega) ⟨_, rfl, fun h => ex_int ⟨_, rfl, _, rfl, ?_, rfl⟩, fun h => ⟨_, rfl, ?_, rfl⟩⟩))))⟩)))
      · rw [decide_eq_true (show 1 ≤ x.length by have := of_decide_eq_true h; omega), Bool.true_and]
        exact congrArg (fun z => !z) (decide_eq_decide.mpr (by omega))
      · rw [decide_eq_false (show ¬ 1 ≤ x.length by have := of_decide_eq_false h; omega), Bool.false_and]
    · repeat walk_at "m3"
      rw [Bool.not_eq_true'] at h
      show _ = PyData.bool (nameS _)
      unfold nameS
      rw [← hz, h, Bool.false_and, Bool.false_and]
    · rw [Bool.not_eq_false'] at h
      have h1 := of_decide_eq_true (Bool.and_eq_true_iff.mp h).1
      cases hl : x.cps.toList with
      | nil =>
        rw [hl] at hz
        simp at hz
        omega
      | cons c r =>
        refine sx_ret (ex_andV (ex_op (ex_op (ex_var rfl (ex_int (rx_ixS (c := c) (by omega) (atI_nat (j := 0) (by rw [hl]; rfl)) (ex_str (rx_inS ⟨_, rfl, fun h2 => ?_, fun h2 => ?_⟩))))))))
        · refine ex_allS T.lm_is_name T.tb_is_name (ex_var rfl ⟨_, rfl, _, rfl, ?_⟩)
          show _ = PyData.bool (nameS _)
          unfold nameS
          rw [← hz, h, Bool.true_and, hl]
          show _ = PyData.bool (letC c && _)
          rw [show letC c = true from h2, Bool.true_and]
          rfl
        · refine ⟨_, rfl, ?_⟩
          show _ = PyData.bool (nameS _)
          unfold nameS
          rw [← hz, h, Bool.true_and, hl]
          show _ = PyData.bool (letC c && _)
          rw [show letC c = false from h2, Bool.false_and]
  · have hT : M3.isS d = false := by
      cases d <;> first | rfl | exact absurd ⟨_, rfl⟩ ht
    have hR : isName d = false := by
      cases d <;> first | rfl | exact absurd ⟨_, rfl⟩ ht
    refine sx_guard true ?_ (fun _ => ?_) (fun h => by cases h)
    · refine tx_or (tx_not (tx_B (ex_CB (ax_cons (ex_var rfl (ax_cons (ex_cv (ax_nil (vx_isi (kit_str _) ⟨_, rfl, fun _ => ⟨?_, rfl⟩, fun h => ?_⟩)))))))))
      · rfl
      · rw [hT] at h; cases h
    · repeat walk_at "m3"
      show _ = PyData.bool (isName _)
      rw [hR]
abbrev sp_is_whole (K : PySem.W.Frag) (A : Ad) : Sp := spD K 1 (fun d : PyData => [d]) (fun _ => True) (fun d r => r = .bool (isI d && !isB d)) (fun _ _ => False)
theorem ok_is_whole {P : Program} {w : World} {K : PySem.W.Frag} {mg : Str → Option Value} {base : Heap} {A : Ad} (T : Txt K mg A)  :
    FnG P w K mg base 1 A.f_is_whole A.d_is_whole ["value"] (sp_is_whole K A) := by
  refine fn_data T.F_is_whole sc_is_whole rfl fun cdv A' outer s H E hgd hr => ⟨_, (pss_one (ps_ret (pe_and (pe_callB (call_isiB (K := K) rfl) (by rfl) T.z_isinstance (by decide +kernel) (pa_cons (pv 0) (pa_cons (pe_bltn (v := .ty "int") (by rfl) T.z_int (by decide +kernel) rfl) pa_nil))) (pe_one (pe_not (pe_callB (call_isiB (K := K) rfl) (by rfl) T.z_isinstance (by decide +kernel) (pa_cons (pv 0) (pa_cons (pe_bltn (v := .ty "bool") (by rfl) T.z_bool (by decide +kernel) rfl) pa_nil)))))))), ?_⟩
  intro d _
  show SX K _ _ [.dat d] _
  try dsimp only [bodyK]
  repeat walk_at "m3"
  refine ⟨fun h => ?_, fun h => ?_⟩
  · repeat walk_at "m3"
    rw [h, Bool.true_and]
  · refine ⟨_, rfl, ?_⟩
    rw [h, Bool.false_and]
abbrev sp_ratio (K : PySem.W.Frag) (A : Ad) : Sp := spD K 2 (fun p : Int × Int => [.int p.1, .int p.2]) (fun p => Bd 9000 p.1 ∧ Bd 9000 p.2) (fun p r => p.2 ≠ 0 ∧ r = dR (Rat.divInt p.1 p.2)) (fun p C => p.2 = 0 ∧ C = .ref A.C_NotNumber)
theorem ok_ratio {P : Program} {w : World} {K : PySem.W.Frag} {mg : Str → Option Value} {base : Heap} {A : Ad} (T : Txt K mg A)  :
    FnG P w K mg base 1 A.f_ratio A.d_ratio ["above", "below"] (sp_ratio K A) := by
  refine fn_data T.F_ratio sc_ratio rfl fun cdv A' outer s H E hgd hr => ⟨_, (pss_cons (ps_if (pt_cmpR (op_eqD hr.units) (pv 1) pe_int (nomark _)) (pss_one (ps_raise rfl (takes_of rfl rfl rfl rfl) (pmk_own PySem.F.excBase_ValueError T.x_NotNumber T.g_NotNumber T.k_NotNumber (raises_own T.bx_NotNumber T.tx_NotNumber) rfl))) pss_nil)
  (pss_cons (ps_set (i := 2) sc_ratio.nd rfl (.inl rfl) (pe_callBfun cr_gcd (by rfl) T.g_gcd (pa_cons (pv 0) (pa_cons (pv 1) pa_nil))))
  (pss_cons (ps_if (pt_cmpR op_lt (pv 1) pe_int (nomark _)) (pss_one (ps_set (i := 2) sc_ratio.nd rfl (.inl rfl) (pe_un un_neg (pv 2)))) pss_nil)
  (pss_one (ps_ret (pe_tup (pa_cons (pe_op op_fdX (pv 0) (pv 2)) (pa_cons (pe_op op_fdX (pv 1) (pv 2)) pa_nil)))))))), ?_⟩
  rintro ⟨a, b⟩ ⟨ha, hb⟩
  show SX K _ _ [.dat (.int a), .dat (.int b), .no] _
  try dsimp only [bodyK] at *
  repeat walk_at "m3"
  refine ⟨fun h => ?_, fun h => ?_⟩
  · walk_at "m3s"
    repeat walk_at "m3"
    exact ⟨h, rfl⟩
  · walk_at "m3s"
    have g1 := gcd_lt (a := a) h hb
    have g0 : 0 < Nat.gcd a.natAbs b.natAbs := Nat.gcd_pos_of_pos_right _ (by omega)
    repeat walk_at "m3"
    refine ⟨fun hn => ?_, fun hn => ?_⟩
    · walk_at "m3s"
      have lg : (-((Nat.gcd a.natAbs b.natAbs : Nat) : Int)).natAbs.log2 < 9000 := log_lt g1.neg (by decide)
      repeat walk_at "m3"
      refine rx_Ci ⟨by omega, lg⟩ ?_
      repeat walk_at "m3"
      refine rx_Ci ⟨by omega, lg⟩ ?_
      repeat walk_at "m3"
      exact ⟨h, dR_neg hn⟩
    · walk_at "m3s"
      have lg : ((Nat.gcd a.natAbs b.natAbs : Nat) : Int).natAbs.log2 < 9000 := log_lt g1 (by decide)
      repeat walk_at "m3"
      refine rx_Ci ⟨by omega, lg⟩ ?_
      repeat walk_at "m3"
      refine rx_Ci ⟨by omega, lg⟩ ?_
      repeat walk_at "m3"
      exact ⟨h, dR_pos (by omega)⟩
abbrev sp_is_ratio (K : PySem.W.Frag) (A : Ad) : Sp := spD K 1 (fun d : PyData => [d]) (fun d => okR d) (fun d r => r = .bool (isR d)) (fun _ _ => False)
theorem ok_is_ratio {P : Program} {w : World} {K : PySem.W.Frag} {mg : Str → Option Value} {base : Heap} {A : Ad} (T : Txt K mg A) (G_is_whole : FnG P w K mg base 1 A.f_is_whole A.d_is_whole ["value"] (sp_is_whole K A)) :
    FnG P w K mg base 2 A.f_is_ratio A.d_is_ratio ["value"] (sp_is_ratio K A) := by
  refine fn_data T.F_is_ratio sc_is_ratio rfl fun cdv A' outer s H E hgd hr => ⟨_, (pss_cons (ps_if (PW.pt (pw_or (pt_not (pt_val (pe_callB (call_isiB (K := K) rfl) (by rfl) T.z_isinstance (by decide +kernel) (pa_cons (pv 0) (pa_cons (pe_bltn (v := .ty "tuple") (by rfl) T.z_tuple (by decide +kernel) rfl) pa_nil))))) (pw_or1 (pt_cmpR (op_neD hr.units) (pe_callB call_len_seq (by rfl) T.z_len (by decide +kernel) (pa_cons (pv 0) pa_nil)) pe_int (nomark _))))) (pss_one (ps_ret pe_bl)) pss_nil)
  (pss_cons (ps_asg (pv 0) (pg_tup (by rfl) (pgs_cons (pg_name (i := 1) sc_is_ratio.nd rfl (.inl rfl)) (pgs_cons (pg_name (i := 2) sc_is_ratio.nd rfl (.inl rfl)) pgs_nil))))
  (pss_one (ps_ret (pe_and (pe_G G_is_whole hgd (hr.mono (by decide)) (by rfl) T.g_is_whole T.k_is_whole T.b_is_whole .nil (fun σ => passAt (takes_of rfl rfl rfl rfl) σ) (pa_cons (pv 1) pa_nil)) (pe_and (pe_G G_is_whole hgd (hr.mono (by decide)) (by rfl) T.g_is_whole T.k_is_whole T.b_is_whole .nil (fun σ => passAt (takes_of rfl rfl rfl rfl) σ) (pa_cons (pv 2) pa_nil)) (pe_and (pe_cmpR op_ge (pv 2) pe_int (nomark _)) (pe_one (pe_cmpR (op_eqD hr.units) (pe_callBfun cr_gcd (by rfl) T.g_gcd (pa_cons (pv 1) (pa_cons (pv 2) pa_nil))) pe_int (nomark _)))))))))), ?_⟩
  intro d hd
  show SX K _ _ [.dat d, .no, .no] _
  try dsimp only [bodyK] at *
  by_cases ht : ∃ ds, d = .tuple ds
  · obtain ⟨ds, rfl⟩ := ht
    by_cases hl : ds.length = 2
    · obtain ⟨a, b, rfl⟩ : ∃ a b, ds = [a, b] := by
        match ds, hl with
        | [a, b], _ => exact ⟨a, b, rfl⟩
      refine sx_guard false ?_ (fun h => by cases h) (fun _ => ?_)
      · repeat walk_at "m3e"
        refine ⟨fun h => (Bool.false_ne_true h).elim, fun _ => ?_⟩
        exact tx_test (ex_op (ex_CB (ax_cons (ex_var rfl (ax_nil (vx_lenT (ex_int (rx_neD (shaped_int _) (shaped_int _) ⟨_, rfl, rfl, rfl⟩))))))))
      refine sx_seq (sx_unpack (n := 2) (is := [1, 2]) (ex_var rfl ⟨_, rfl, rfl, ?_⟩) rfl)
      show SX K _ _ [.dat (.tuple [a, b]), .dat a, .dat b] _
      refine sx_ret (ex_andV (ex_call (fun _ => .nil) ?_))
      repeat walk_at "m3e"
      refine ⟨[_], a, rfl, rfl, rfl, trivial, fun d hd => ⟨_, congrArg Vw.d hd, fun h => ?_, fun h => ?_⟩, fun C hC => hC.elim⟩
      · refine ex_andV (ex_call (fun _ => .nil) ?_)
        repeat walk_at "m3e"
        refine ⟨[_], b, rfl, rfl, rfl, trivial, fun d hd => ⟨_, congrArg Vw.d hd, fun h2 => ?_, fun h2 => ?_⟩, fun C hC => hC.elim⟩
        · obtain ⟨i, rfl⟩ := whole_int h
          obtain ⟨j, rfl⟩ := whole_int h2
          repeat walk_at "m3e"
          refine ⟨fun h3 => ?_, fun h3 => ?_⟩
          · repeat walk_at "m3e"
            show _ = _
            rw [eqv_int]
            show _ = PyData.bool (decide (1 ≤ j) && decide (Nat.gcd i.natAbs j.natAbs = 1))
            rw [h3, Bool.true_and]
            exact congrArg PyData.bool (decide_eq_decide.mpr (by omega))
          · refine ⟨_, rfl, ?_⟩
            show _ = PyData.bool (decide (1 ≤ j) && decide (Nat.gcd i.natAbs j.natAbs = 1))
            rw [h3, Bool.false_and]
        · refine ⟨_, rfl, ?_⟩
          show _ = PyData.bool (isR _)
          rw [not_whole_r h2]
      · refine ⟨_, rfl, ?_⟩
        show _ = PyData.bool (isR _)
        rw [not_whole_l h]
    · refine sx_guard true ?_ (fun _ => ?_) (fun h => by cases h)
      · repeat walk_at "m3e"
        refine ⟨fun h => (Bool.false_ne_true h).elim, fun _ => ?_⟩
        refine tx_test (ex_op (ex_CB (ax_cons (ex_var rfl (ax_nil (vx_lenT (ex_int (rx_neD (shaped_int _) (shaped_int _) ⟨_, rfl, ?_, rfl⟩))))))))
        show (!PyData.eqv (.int ds.length) (.int 2)) = true
        rw [eqv_int, beq_eq_false_iff_ne.mpr (by omega)]
        rfl
      · repeat walk_at "m3"
        show _ = PyData.bool (isR _)
        match ds, hl with
        | [], _ => rfl
        | [x], _ => cases x <;> rfl
        | x :: y :: z :: t, _ => cases x <;> cases y <;> rfl
        | [a, b], h => exact absurd rfl h
  · have hT : M3.isT d = false := by
      cases d <;> first | rfl | exact absurd ⟨_, rfl⟩ ht
    have hR : isR d = false := by
      cases d <;> first | rfl | exact absurd ⟨_, rfl⟩ ht
    refine sx_guard true ?_ (fun _ => ?_) (fun h => by cases h)
    · repeat walk_at "m3e"
      rw [hT]
      exact ⟨fun _ => ⟨rfl, rfl⟩, fun h => by cases h⟩
    · repeat walk_at "m3"
      show _ = PyData.bool (isR _)
      rw [hR]
abbrev sp_plus (K : PySem.W.Frag) (A : Ad) : Sp := spD K 2 (fun p : Rat × Rat => [dR p.1, dR p.2]) (fun p => Sz 4000 p.1 ∧ Sz 4000 p.2) (fun p r => r = dR (p.1 + p.2)) (fun _ _ => False)
theorem ok_plus {P : Program} {w : World} {K : PySem.W.Frag} {mg : Str → Option Value} {base : Heap} {A : Ad} (T : Txt K mg A) (G_ratio : FnG P w K mg base 1 A.f_ratio A.d_ratio ["above", "below"] (sp_ratio K A)) :
    FnG P w K mg base 2 A.f_plus A.d_plus ["one", "other"] (sp_plus K A) := by
  refine fn_data T.F_plus sc_plus rfl fun cdv A' outer s H E hgd hr => ⟨_, (pss_cons (ps_if (PW.pt (pw_and (pt_cmpR (op_eqD hr.units) (pe_ix ix_tup (pv 0) pe_int (fun _ _ => rfl)) pe_int (nomark _)) (pw_and1 (pt_cmpR (op_eqD hr.units) (pe_ix ix_tup (pv 1) pe_int (fun _ _ => rfl)) pe_int (nomark _))))) (pss_one (ps_ret (pe_tup (pa_cons (pe_op op_add (pe_ix ix_tup (pv 0) pe_int (fun _ _ => rfl)) (pe_ix ix_tup (pv 1) pe_int (fun _ _ => rfl))) (pa_cons pe_int pa_nil))))) pss_nil)
  (pss_one (ps_ret (pe_G G_ratio hgd (hr.mono (by decide)) (by rfl) T.g_ratio T.k_ratio T.b_ratio .nil (fun σ => passAt (takes_of rfl rfl rfl rfl) σ) (pa_cons (pe_op op_add (pe_op op_mulA (pe_ix ix_tup (pv 0) pe_int (fun _ _ => rfl)) (pe_ix ix_tup (pv 1) pe_int (fun _ _ => rfl))) (pe_op op_mulA (pe_ix ix_tup (pv 1) pe_int (fun _ _ => rfl)) (pe_ix ix_tup (pv 0) pe_int (fun _ _ => rfl)))) (pa_cons (pe_op op_mulA (pe_ix ix_tup (pv 0) pe_int (fun _ _ => rfl)) (pe_ix ix_tup (pv 1) pe_int (fun _ _ => rfl))) pa_nil)))))), ?_⟩
  rintro ⟨p, q⟩ ⟨hp, hq⟩
  show SX K _ _ [.dat (dR p), .dat (dR q)] _
  try dsimp only [bodyK] at *
  refine sx_guard (decide (p.den = 1 ∧ q.den = 1)) ?_ (fun h => ?_) (fun h => ?_)
  · repeat walk_at "m3"
    refine ⟨fun h1 => ?_, fun h1 => ?_⟩
    · walk_at "m3s"
      repeat walk_at "m3"
      rw [eqv_int]
      by_cases c : q.den = 1
      · simp [c, show p.den = 1 by omega]
      · have : ¬ (q.den : Int) = 1 := by omega
        simp [c, this]
    · walk_at "m3s"
      have : ¬ p.den = 1 := by omega
      simp [this]
  · obtain ⟨c1, c2⟩ := of_decide_eq_true h
    obtain ⟨e1, e2⟩ := num_of_den_one (p := p) (q := q) c1 c2
    repeat walk_at "m3"
    show PyData.tuple _ = PyData.tuple _
    rw [e1, e2]
    rfl
  · refine sx_ret (ex_call (fun _ => .nil) ?_)
    repeat walk_at "m3"
    refine rx_Ci (mulA hp.num hq.den (by decide)) ?_
    repeat walk_at "m3"
    refine rx_Ci (mulA hq.num hp.den (by decide)) ?_
    repeat walk_at "m3"
    refine rx_Ci (mulA hp.den hq.den (by decide)) ?_
    repeat walk_at "m3"
    refine ⟨[_, _], (p.num * q.den + q.num * p.den, p.den * q.den), rfl, rfl, rfl, ⟨((hp.num.mul hq.den).add (hq.num.mul hp.den)).mono (by decide), (hp.den.mul hq.den).mono (by decide)⟩, fun d hd => ?_, fun C hC => ?_⟩
    · exact ⟨_, rfl, hd.2.trans (congrArg dR (divInt_add p q))⟩
    · exact Int.mul_ne_zero (den_ne p) (den_ne q) hC.1
abbrev sp_opposite (K : PySem.W.Frag) (A : Ad) : Sp := spD K 1 (fun p : Rat => [dR p]) (fun _ => True) (fun p r => r = dR (-p)) (fun _ _ => False)
theorem ok_opposite {P : Program} {w : World} {K : PySem.W.Frag} {mg : Str → Option Value} {base : Heap} {A : Ad} (T : Txt K mg A)  :
    FnG P w K mg base 1 A.f_opposite A.d_opposite ["one"] (sp_opposite K A) := by
  refine fn_data T.F_opposite sc_opposite rfl fun cdv A' outer s H E hgd hr => ⟨_, (pss_one (ps_ret (pe_tup (pa_cons (pe_un un_neg (pe_ix ix_tup (pv 0) pe_int (fun _ _ => rfl))) (pa_cons (pe_ix ix_tup (pv 0) pe_int (fun _ _ => rfl)) pa_nil))))), ?_⟩
  intro p _
  show SX K _ _ [.dat (dR p)] _
  try dsimp only [bodyK] at *
  repeat walk_at "m3"
  rfl
abbrev sp_minus (K : PySem.W.Frag) (A : Ad) : Sp := spD K 2 (fun p : Rat × Rat => [dR p.1, dR p.2]) (fun p => Sz 4000 p.1 ∧ Sz 4000 p.2) (fun p r => r = dR (p.1 - p.2)) (fun _ _ => False)
theorem ok_minus {P : Program} {w : World} {K : PySem.W.Frag} {mg : Str → Option Value} {base : Heap} {A : Ad} (T : Txt K mg A) (G_plus : FnG P w K mg base 2 A.f_plus A.d_plus ["one", "other"] (sp_plus K A)) (G_opposite : FnG P w K mg base 1 A.f_opposite A.d_opposite ["one"] (sp_opposite K A)) :
    FnG P w K mg base 3 A.f_minus A.d_minus ["one", "other"] (sp_minus K A) := by
  refine fn_data T.F_minus sc_minus rfl fun cdv A' outer s H E hgd hr => ⟨_, (pss_one (ps_ret (pe_G G_plus hgd (hr.mono (by decide)) (by rfl) T.g_plus T.k_plus T.b_plus .nil (fun σ => passAt (takes_of rfl rfl rfl rfl) σ) (pa_cons (pv 0) (pa_cons (pe_G G_opposite hgd (hr.mono (by decide)) (by rfl) T.g_opposite T.k_opposite T.b_opposite .nil (fun σ => passAt (takes_of rfl rfl rfl rfl) σ) (pa_cons (pv 1) pa_nil)) pa_nil))))), ?_⟩
  rintro ⟨p, q⟩ ⟨hp, hq⟩
  show SX K _ _ [.dat (dR p), .dat (dR q)] _
  try dsimp only [bodyK] at *
  refine sx_ret (ex_call (fun _ => .nil) ?_)
  repeat walk_at "m3"
  refine ex_call (fun _ => .nil) ?_
  repeat walk_at "m3"
  refine ⟨[_], q, rfl, rfl, rfl, trivial, fun d hd => ?_, fun C hC => hC⟩
  subst hd
  repeat walk_at "m3"
  refine ⟨[_, _], (p, -q), rfl, rfl, rfl, ⟨hp, sz_neg hq⟩, fun d hd => ?_, fun C hC => hC⟩
  exact ⟨_, rfl, by rw [hd, Rat.sub_eq_add_neg]⟩
abbrev sp_times (K : PySem.W.Frag) (A : Ad) : Sp := spD K 2 (fun p : Rat × Rat => [dR p.1, dR p.2]) (fun p => Sz 4000 p.1 ∧ Sz 4000 p.2) (fun p r => r = dR (p.1 * p.2)) (fun _ _ => False)
theorem ok_times {P : Program} {w : World} {K : PySem.W.Frag} {mg : Str → Option Value} {base : Heap} {A : Ad} (T : Txt K mg A) (G_ratio : FnG P w K mg base 1 A.f_ratio A.d_ratio ["above", "below"] (sp_ratio K A)) :
    FnG P w K mg base 2 A.f_times A.d_times ["one", "other"] (sp_times K A) := by
  refine fn_data T.F_times sc_times rfl fun cdv A' outer s H E hgd hr => ⟨_, (pss_cons (ps_if (PW.pt (pw_and (pt_cmpR (op_eqD hr.units) (pe_ix ix_tup (pv 0) pe_int (fun _ _ => rfl)) pe_int (nomark _)) (pw_and1 (pt_cmpR (op_eqD hr.units) (pe_ix ix_tup (pv 1) pe_int (fun _ _ => rfl)) pe_int (nomark _))))) (pss_one (ps_ret (pe_tup (pa_cons (pe_op op_mulA (pe_ix ix_tup (pv 0) pe_int (fun _ _ => rfl)) (pe_ix ix_tup (pv 1) pe_int (fun _ _ => rfl))) (pa_cons pe_int pa_nil))))) pss_nil)
  (pss_one (ps_ret (pe_G G_ratio hgd (hr.mono (by decide)) (by rfl) T.g_ratio T.k_ratio T.b_ratio .nil (fun σ => passAt (takes_of rfl rfl rfl rfl) σ) (pa_cons (pe_op op_mulA (pe_ix ix_tup (pv 0) pe_int (fun _ _ => rfl)) (pe_ix ix_tup (pv 1) pe_int (fun _ _ => rfl))) (pa_cons (pe_op op_mulA (pe_ix ix_tup (pv 0) pe_int (fun _ _ => rfl)) (pe_ix ix_tup (pv 1) pe_int (fun _ _ => rfl))) pa_nil)))))), ?_⟩
  rintro ⟨p, q⟩ ⟨hp, hq⟩
  show SX K _ _ [.dat (dR p), .dat (dR q)] _
  try dsimp only [bodyK] at *
  refine sx_guard (decide (p.den = 1 ∧ q.den = 1)) ?_ (fun h => ?_) (fun h => ?_)
  · repeat walk_at "m3"
    refine ⟨fun h1 => ?_, fun h1 => ?_⟩
    · walk_at "m3s"
      repeat walk_at "m3"
      rw [eqv_int]
      by_cases c : q.den = 1
      · simp [c, show p.den = 1 by omega]
      · have : ¬ (q.den : Int) = 1 := by omega
        simp [c, this]
    · walk_at "m3s"
      have : ¬ p.den = 1 := by omega
      simp [this]
  · obtain ⟨c1, c2⟩ := of_decide_eq_true h
    obtain ⟨e1, e2⟩ := mul_of_den_one (p := p) (q := q) c1 c2
    repeat walk_at "m3"
    refine rx_Ci (mulA hp.num hq.num (by decide)) ?_
    repeat walk_at "m3"
    show PyData.tuple _ = PyData.tuple _
    rw [e1, e2]
    rfl
  · refine sx_ret (ex_call (fun _ => .nil) ?_)
    repeat walk_at "m3"
    refine rx_Ci (mulA hp.num hq.num (by decide)) ?_
    repeat walk_at "m3"
    refine rx_Ci (mulA hp.den hq.den (by decide)) ?_
    repeat walk_at "m3"
    refine ⟨[_, _], (p.num * q.num, p.den * q.den), rfl, rfl, rfl, ⟨(hp.num.mul hq.num).mono (by decide), (hp.den.mul hq.den).mono (by decide)⟩, fun d hd => ?_, fun C hC => ?_⟩
    · exact ⟨_, rfl, hd.2.trans (congrArg dR (divInt_mul p q))⟩
    · exact Int.mul_ne_zero (den_ne p) (den_ne q) hC.1
abbrev sp_is_leaf (K : PySem.W.Frag) (A : Ad) : Sp := spD K 1 (fun p : PyData × PyData => [.tuple [p.1, p.2]]) (fun p => SeqAt.shaped p.1 = true ∧ okR p.2 ∧ okS p.2) (fun p r => r = .bool (leafV p.1 p.2)) (fun _ _ => False)
theorem ok_is_leaf {P : Program} {w : World} {K : PySem.W.Frag} {mg : Str → Option Value} {base : Heap} {A : Ad} (T : Txt K mg A) (G_is_ratio : FnG P w K mg base 2 A.f_is_ratio A.d_is_ratio ["value"] (sp_is_ratio K A)) (G_is_name : FnG P w K mg base 1 A.f_is_name A.d_is_name ["value"] (sp_is_name K A)) :
    FnG P w K mg base 3 A.f_is_leaf A.d_is_leaf ["value"] (sp_is_leaf K A) := by
  refine fn_data T.F_is_leaf sc_is_leaf rfl fun cdv A' outer s H E hgd hr => ⟨_, (pss_cons (ps_asg (pv 0) (pg_tup (by rfl) (pgs_cons (pg_name (i := 1) sc_is_leaf.nd rfl (.inl rfl)) (pgs_cons (pg_name (i := 2) sc_is_leaf.nd rfl (.inl rfl)) pgs_nil))))
  (pss_one (ps_ret (pe_or (pe_and (pe_cmpR (op_eqD hr.units) (pv 1) pe_str (nomark _)) (pe_one (pe_G G_is_ratio hgd (hr.mono (by decide)) (by rfl) T.g_is_ratio T.k_is_ratio T.b_is_ratio .nil (fun σ => passAt (takes_of rfl rfl rfl rfl) σ) (pa_cons (pv 2) pa_nil)))) (pe_one (pe_and (pe_cmpR (op_eqD hr.units) (pv 1) pe_str (nomark _)) (pe_one (pe_G G_is_name hgd (hr.mono (by decide)) (by rfl) T.g_is_name T.k_is_name T.b_is_name .nil (fun σ => passAt (takes_of rfl rfl rfl rfl) σ) (pa_cons (pv 2) pa_nil))))))))), ?_⟩
  rintro ⟨a, b⟩ ⟨h1, h2, h3⟩
  show SX K _ _ [.dat (.tuple [a, b]), .no, .no] _
  try dsimp only [bodyK] at *
  refine sx_seq (sx_unpack (n := 2) (is := [1, 2]) (ex_var rfl ⟨_, rfl, rfl, ?_⟩) rfl)
  show SX K _ _ [.dat (.tuple [a, b]), .dat a, .dat b] _
  have snd : ∀ {p : Bool}, (eqS a "num" && isR b) = p → p = false → EX K (W0 E) (tAndV (tOp (rEqD K) (tVar 1) (tC (V.str (Str.ofString "of")))) (tCallG (sp_is_name K A) [] (fun σ => WE (fun cls d x H => E cls d H) σ) (tCons (tVar 2) tNil))) [.dat (.tuple [a, b]), .dat a, .dat b] (RD (fun r => r = PyData.bool (leafV a b)) fun x => False).rt (RD (fun r => r = PyData.bool (leafV a b)) fun x => False).ex := fun e e2 => by
    subst e
    refine ex_andV (ex_op (ex_var rfl (ex_str (rx_eqD h1 shaped_s2 ⟨_, rfl, fun h => ?_, fun h => ?_⟩))))
    · refine ex_call (fun _ => .nil) ?_
      repeat walk_at "m3e"
      refine ⟨[_], b, rfl, rfl, rfl, h3, fun r hr => ⟨_, rfl, ?_⟩, fun C hC => hC.elim⟩
      rw [hr]
      show _ = PyData.bool (_ || (eqS a "of" && isName b))
      rw [e2, show eqS a "of" = true from h, Bool.false_or, Bool.true_and]
    · refine ⟨_, rfl, ?_⟩
      show _ = PyData.bool (_ || (eqS a "of" && isName b))
      rw [e2, show eqS a "of" = false from h, Bool.false_or, Bool.false_and]
  refine sx_ret (ex_orV (ex_andV (ex_op (ex_var rfl (ex_str (rx_eqD h1 shaped_s1 ⟨_, rfl, fun h => ?_, fun h => ?_⟩))))))
  · refine ex_call (fun _ => .nil) ?_
    repeat walk_at "m3e"
    refine ⟨[_], b, rfl, rfl, rfl, h2, fun r hr => ⟨_, congrArg Vw.d hr, fun h4 => ?_, fun h4 => ?_⟩, fun C hC => hC.elim⟩
    · exact snd rfl (by rw [h4, Bool.and_false])
    · refine ⟨_, rfl, ?_⟩
      show _ = PyData.bool ((eqS a "num" && isR b) || _)
      rw [show eqS a "num" = true from h, h4]
      rfl
  · refine ⟨_, rfl, fun _ => ?_, fun h4 => (Bool.false_ne_true h4).elim⟩
    exact snd rfl (by rw [show eqS a "num" = false from h, Bool.false_and])
abbrev spr_is_nested (K : PySem.W.Frag) (A : Ad) (dep : Nat) : Sp := spD K 2 (fun p : PyData × Nat => [p.1, .int p.2]) (fun p => p.2 < dep ∧ okN p.1) (fun p r => r = .bool (nestV p.2 p.1)) (fun _ _ => False)
abbrev sp_is_nested (K : PySem.W.Frag) (A : Ad) : Sp := spr_is_nested K A 9
theorem okr_is_nested {P : Program} {w : World} {K : PySem.W.Frag} {mg : Str → Option Value} {base : Heap} {A : Ad} (T : Txt K mg A) (G_is_leaf : FnG P w K mg base 3 A.f_is_leaf A.d_is_leaf ["value"] (sp_is_leaf K A)) (G_is_ratio : FnG P w K mg base 2 A.f_is_ratio A.d_is_ratio ["value"] (sp_is_ratio K A)) :
    ∀ dep : Nat, FnG P w K mg base (3 + dep) A.f_is_nested A.d_is_nested ["value", "depth"] (spr_is_nested K A dep)
  | 0 => fn_void (by simp)
  | dep + 1 => by
    have G_is_nested := okr_is_nested (P := P) (w := w) (base := base) T G_is_leaf G_is_ratio dep
    show FnG P w K mg base ((3 + dep) + 1) A.f_is_nested A.d_is_nested ["value", "depth"] (spr_is_nested K A (dep + 1))
    refine fn_data T.F_is_nested sc_is_nested rfl fun cdv A' outer s H E hgd hr => ⟨_, (pss_cons (ps_if (PW.pt (pw_or (pt_cmpR op_lt (pv 1) pe_int (nomark _)) (pw_or1 (pt_not (pt_val (pe_callB (call_isiB (K := K) rfl) (by rfl) T.z_isinstance (by decide +kernel) (pa_cons (pv 0) (pa_cons (pe_bltn (v := .ty "tuple") (by rfl) T.z_tuple (by decide +kernel) rfl) pa_nil)))))))) (pss_one (ps_ret pe_bl)) pss_nil)
  (pss_cons (ps_if (pt_cmpR (op_eqD hr.units) (pe_callB call_len_seq (by rfl) T.z_len (by decide +kernel) (pa_cons (pv 0) pa_nil)) pe_int (nomark _)) (pss_one (ps_ret (pe_G G_is_leaf hgd (hr.mono (by omega)) (by rfl) T.g_is_leaf T.k_is_leaf T.b_is_leaf .nil (fun σ => passAt (takes_of rfl rfl rfl rfl) σ) (pa_cons (pv 0) pa_nil)))) pss_nil)
  (pss_cons (ps_if (pt_cmpR (op_neD hr.units) (pe_callB call_len_seq (by rfl) T.z_len (by decide +kernel) (pa_cons (pv 0) pa_nil)) pe_int (nomark _)) (pss_one (ps_ret pe_bl)) pss_nil)
  (pss_cons (ps_asg (pv 0) (pg_tup (by rfl) (pgs_cons (pg_name (i := 2) sc_is_nested.nd rfl (.inl rfl)) (pgs_cons (pg_name (i := 3) sc_is_nested.nd rfl (.inl rfl)) (pgs_cons (pg_name (i := 4) sc_is_nested.nd rfl (.inl rfl)) pgs_nil)))))
  (pss_cons (ps_if (pt_cmpR (op_eqD hr.units) (pv 2) pe_str (nomark _)) (pss_one (ps_ret (pe_and (pe_G G_is_ratio hgd (hr.mono (by omega)) (by rfl) T.g_is_ratio T.k_is_ratio T.b_is_ratio .nil (fun σ => passAt (takes_of rfl rfl rfl rfl) σ) (pa_cons (pv 3) pa_nil)) (pe_one (pe_G G_is_nested hgd (hr.mono (by omega)) (by rfl) T.g_is_nested T.k_is_nested T.b_is_nested .nil (fun σ => passAt (takes_of rfl rfl rfl rfl) σ) (pa_cons (pv 4) (pa_cons (pe_op op_sub (pv 1) pe_int) pa_nil))))))) pss_nil)
  (pss_one (ps_ret (pe_and (pe_cmpR (op_memT (units65 hr)) (pv 2) (pe_tup (pa_cons pe_str (pa_cons pe_str pa_nil))) rfl) (pe_and (pe_G G_is_nested hgd (hr.mono (by omega)) (by rfl) T.g_is_nested T.k_is_nested T.b_is_nested .nil (fun σ => passAt (takes_of rfl rfl rfl rfl) σ) (pa_cons (pv 3) (pa_cons (pe_op op_sub (pv 1) pe_int) pa_nil))) (pe_one (pe_G G_is_nested hgd (hr.mono (by omega)) (by rfl) T.g_is_nested T.k_is_nested T.b_is_nested .nil (fun σ => passAt (takes_of rfl rfl rfl rfl) σ) (pa_cons (pv 4) (pa_cons (pe_op op_sub (pv 1) pe_int) pa_nil))))))))))))), ?_⟩
    rintro ⟨v, n⟩ ⟨hn, hv⟩
    show SX K _ _ [.dat v, .dat (.int n), .no, .no, .no] _
    try dsimp only [bodyK] at *
    have hn : n < dep + 1 := hn
    refine sx_guard (decide (n = 0) || !(M3.isT v)) ?_ (fun h => ?_) (fun h => ?_)
    · refine tx_or (tx_test (ex_op (ex_var rfl (ex_int (rx_ib ⟨_, rfl, fun h => ?_, fun h => ?_⟩)))))
      · have : n = 0 := by have := of_decide_eq_true h; omega
        rw [decide_eq_true this]
        exact ⟨rfl, rfl⟩
      · have : ¬ n = 0 := by have := of_decide_eq_false h; omega
        rw [decide_eq_false this, Bool.false_or]
        repeat walk_at "m3e"
        exact ⟨rfl, rfl⟩
    · refine sx_ret (ex_bl ⟨_, rfl, ?_⟩)
      show _ = PyData.bool (nestV n v)
      cases n with
      | zero => rfl
      | succ n =>
        cases v with
        | tuple ds => cases h
        | _ => rfl
    obtain ⟨n, rfl⟩ : ∃ k, n = k + 1 := ⟨n - 1, by
      have : ¬ n = 0 := fun z => by rw [z] at h; cases h
      omega⟩
    obtain ⟨ds, rfl⟩ : ∃ ds, v = .tuple ds := by
      cases v with
      | tuple ds => exact ⟨ds, rfl⟩
      | _ => simp [M3.isT] at h
    cases hv with
    | any h1 h2 h3 h4 =>
      have each := h4 ds rfl
      refine sx_guard (decide (ds.length = 2)) ?_ (fun h => ?_) (fun h => ?_)
      · refine tx_test (ex_op (ex_CB (ax_cons (ex_var rfl (ax_nil (vx_lenT (ex_int (rx_eqD (shaped_int _) (shaped_int _) ⟨_, rfl, ?_, rfl⟩))))))))
        rw [eqv_int]
        show ((ds.length : Int) == 2) = decide (ds.length = 2)
        exact decide_eq_decide.mpr (by omega)
      · obtain ⟨a, b, rfl⟩ : ∃ a b, ds = [a, b] := by
          match ds, of_decide_eq_true h with
          | [a, b], _ => exact ⟨a, b, rfl⟩
        cases each a (by simp) with
        | any a1 a2 a3 a4 =>
          cases each b (by simp) with
          | any b1 b2 b3 b4 =>
            refine sx_ret (ex_call (fun _ => .nil) ?_)
            repeat walk_at "m3e"
            exact ⟨[_], (a, b), rfl, rfl, rfl, ⟨a1, b2, b3⟩, fun r hr => ⟨_, rfl, hr⟩, fun C hC => hC.elim⟩
      refine sx_guard (!decide (ds.length = 3)) ?_ (fun h3 => ?_) (fun h3 => ?_)
      · refine tx_test (ex_op (ex_CB (ax_cons (ex_var rfl (ax_nil (vx_lenT (ex_int (rx_neD (shaped_int _) (shaped_int _) ⟨_, rfl, ?_, rfl⟩))))))))
        rw [eqv_int]
        show (!((ds.length : Int) == 3)) = !decide (ds.length = 3)
        exact congrArg (fun z => !z) (decide_eq_decide.mpr (by omega))
      · refine sx_ret (ex_bl ⟨_, rfl, ?_⟩)
        show _ = PyData.bool (nestV (n + 1) (.tuple ds))
        match ds, of_decide_eq_false h, h3 with
        | [], _, _ => rfl
        | [_], _, _ => rfl
        | [_, _], h, _ => exact absurd rfl h
        | [_, _, _], _, h => cases h
        | _ :: _ :: _ :: _ :: _, _, _ => rfl
      obtain ⟨a, b, c, rfl⟩ : ∃ a b c, ds = [a, b, c] := by
        match ds, (show ds.length = 3 by simpa using h3) with
        | [a, b, c], _ => exact ⟨a, b, c, rfl⟩
      refine sx_seq (sx_unpack (n := 3) (is := [2, 3, 4]) (ex_var rfl ⟨_, rfl, rfl, ?_⟩) rfl)
      show SX K _ _ [.dat (.tuple [a, b, c]), .dat (.int (n + 1 : Nat)), .dat a, .dat b, .dat c] _
      have oc := each c (by simp)
      have ob := each b (by simp)
      cases each a (by simp) with
      | any a1 a2 a3 a4 =>
        have fin : nestV (n + 1) (.tuple [a, b, c]) = if eqS a "times" = true then isR b && nestV n c else (eqS a "plus" || eqS a "minus") && (nestV n b && nestV n c) := rfl
        refine sx_guard (eqS a "times") ?_ (fun h5 => ?_) (fun h5 => ?_)
        · exact tx_test (ex_op (ex_var rfl (ex_str (rx_eqD a1 shaped_s3 ⟨_, rfl, rfl, rfl⟩))))
        · rw [if_pos h5] at fin
          cases each b (by simp) with
          | any b1 b2 b3 b4 =>
            refine sx_ret (ex_andV (ex_call (fun _ => .nil) ?_))
            repeat walk_at "m3e"
            refine ⟨[_], b, rfl, rfl, rfl, b2, fun r hr => ⟨_, congrArg Vw.d hr, fun h6 => ?_, fun h6 => ?_⟩, fun C hC => hC.elim⟩
            · refine ex_call (fun _ => .nil) ?_
              repeat walk_at "m3e"
              refine ⟨[_, _], (c, n), by rw [show ((n + 1 : Nat) : Int) - 1 = (n : Int) by omega]; rfl, rfl, rfl, ⟨by show n < dep; omega, oc⟩, fun r hr => ⟨_, rfl, ?_⟩, fun C hC => hC.elim⟩
              show r = PyData.bool (nestV (n + 1) (.tuple [a, b, c]))
              rw [fin, h6, Bool.true_and]
              exact hr
            · refine ⟨_, rfl, ?_⟩
              show PyData.bool false = PyData.bool (nestV (n + 1) (.tuple [a, b, c]))
              rw [fin, h6, Bool.false_and]
        · rw [if_neg (by rw [h5]; simp)] at fin
          refine sx_ret (ex_andV (ex_op (ex_var rfl (ex_tup (ax_cons (ex_str (ax_cons (ex_str (ax_nil ⟨[_, _], rfl, Nat.le_of_ble_eq_true rfl, ?_⟩)))))))))
          refine rx_memT a1 shaped_s4 ⟨_, rfl, fun h6 => ?_, fun h6 => ?_⟩
          · have h6 := (words_mem a).symm.trans h6
            refine ex_andV (ex_call (fun _ => .nil) ?_)
            repeat walk_at "m3e"
            refine ⟨[_, _], (b, n), by rw [show ((n + 1 : Nat) : Int) - 1 = (n : Int) by omega]; rfl, rfl, rfl, ⟨by show n < dep; omega, ob⟩, fun r hr => ⟨_, congrArg Vw.d hr, fun h7 => ?_, fun h7 => ?_⟩, fun C hC => hC.elim⟩
            · refine ex_call (fun _ => .nil) ?_
              repeat walk_at "m3e"
              refine ⟨[_, _], (c, n), by rw [show ((n + 1 : Nat) : Int) - 1 = (n : Int) by omega]; rfl, rfl, rfl, ⟨by show n < dep; omega, oc⟩, fun r hr => ⟨_, rfl, ?_⟩, fun C hC => hC.elim⟩
              show r = PyData.bool (nestV (n + 1) (.tuple [a, b, c]))
              rw [fin, h6, h7, Bool.true_and, Bool.true_and]
              exact hr
            · refine ⟨_, rfl, ?_⟩
              show PyData.bool false = PyData.bool (nestV (n + 1) (.tuple [a, b, c]))
              rw [fin, h6, h7, Bool.true_and, Bool.false_and]
          · have h6 := (words_mem a).symm.trans h6
            refine ⟨_, rfl, ?_⟩
            show PyData.bool false = PyData.bool (nestV (n + 1) (.tuple [a, b, c]))
            rw [fin, h6, Bool.false_and]
abbrev sp_is_length (K : PySem.W.Frag) (A : Ad) : Sp := spD K 1 (fun d : PyData => [d]) (fun d => okN d) (fun d r => r = .bool (nestV 8 d)) (fun _ _ => False)
theorem ok_is_length {P : Program} {w : World} {K : PySem.W.Frag} {mg : Str → Option Value} {base : Heap} {A : Ad} (T : Txt K mg A) (G_is_nested : FnG P w K mg base 12 A.f_is_nested A.d_is_nested ["value", "depth"] (sp_is_nested K A)) :
    FnG P w K mg base 13 A.f_is_length A.d_is_length ["value"] (sp_is_length K A) := by
  refine fn_data T.F_is_length sc_is_length rfl fun cdv A' outer s H E hgd hr => ⟨_, (pss_one (ps_ret (pe_G G_is_nested hgd (hr.mono (by decide)) (by rfl) T.g_is_nested T.k_is_nested T.b_is_nested .nil (fun σ => passAt (takes_of rfl rfl rfl rfl) σ) (pa_cons (pv 0) (pa_cons (pe_glob (v := (.int 8)) (by rfl) T.c_DEEPEST ⟨_, rfl⟩) pa_nil))))), ?_⟩
  intro d hd
  show SX K _ _ [.dat d] _
  refine sx_ret (ex_call (fun _ => .nil) ?_)
  repeat walk_at "m3e"
  refine ⟨[_, _], (d, 8), rfl, rfl, rfl, ⟨Nat.lt_succ_self 8, hd⟩, fun r hr => ⟨_, rfl, hr⟩, fun C hC => hC.elim⟩
abbrev spr_length_worth (K : PySem.W.Frag) (A : Ad) (dep : Nat) : Sp := spD K 2 (fun p : Len × Nums => [encL p.1, numD p.2]) (fun p => p.1.deep < dep ∧ okL p.1 ∧ p.2 ≠ [] ∧ (∀ e ∈ p.2, Sz 100 e.2) ∧ bitsL p.1 ≤ 3500) (fun p r => ∃ w, worthL p.2 p.1 = some w ∧ r = dR w ∧ Sz (bitsL p.1) w) (fun p C => worthL p.2 p.1 = none ∧ C = .ref A.C_NotThere)
abbrev sp_length_worth (K : PySem.W.Frag) (A : Ad) : Sp := spr_length_worth K A 9
theorem okr_length_worth {P : Program} {w : World} {K : PySem.W.Frag} {mg : Str → Option Value} {base : Heap} {A : Ad} (T : Txt K mg A) (G_times : FnG P w K mg base 2 A.f_times A.d_times ["one", "other"] (sp_times K A)) (G_plus : FnG P w K mg base 2 A.f_plus A.d_plus ["one", "other"] (sp_plus K A)) (G_minus : FnG P w K mg base 3 A.f_minus A.d_minus ["one", "other"] (sp_minus K A)) :
    ∀ dep : Nat, FnG P w K mg base (3 + dep) A.f_length_worth A.d_length_worth ["length", "numbers"] (spr_length_worth K A dep)
  | 0 => fn_void (by simp)
  | dep + 1 => by
    have G_length_worth := okr_length_worth (P := P) (w := w) (base := base) T G_times G_plus G_minus dep
    show FnG P w K mg base ((3 + dep) + 1) A.f_length_worth A.d_length_worth ["length", "numbers"] (spr_length_worth K A (dep + 1))
    refine fn_data T.F_length_worth sc_length_worth rfl fun cdv A' outer s H E hgd hr => ⟨_, (pss_cons (ps_par (i := 2) (j := 3) (by rfl) sc_length_worth.nd rfl rfl (by decide) rfl rfl (pa_cons (pe_ix ix_tup (pv 0) pe_int (fun _ _ => rfl)) (pa_cons (pe_ix ix_tup (pv 0) pe_int (fun _ _ => rfl)) pa_nil)) (by rfl))
  (pss_cons (ps_if (pt_cmpR (op_eqD hr.units) (pv 2) pe_str (nomark _)) (pss_one (ps_ret (pv 3))) pss_nil)
  (pss_cons (ps_if (pt_cmpR (op_eqD hr.units) (pv 2) pe_str (nomark _)) (pss_cons (ps_if (pt_cmp (pc_dnotin (hu_of hr) (pv 3) (pv 1))) (pss_one (ps_raise rfl (takes_of rfl rfl rfl rfl) (pmk_own PySem.F.excBase_ValueError T.x_NotThere T.g_NotThere T.k_NotThere (raises_own T.bx_NotThere T.tx_NotThere) rfl))) pss_nil)
  (pss_one (ps_ret (pe_dget (hu_of hr) (pv 1) (pv 3) (fun _ _ => rfl))))) pss_nil)
  (pss_cons (ps_if (pt_cmpR (op_eqD hr.units) (pv 2) pe_str (nomark _)) (pss_one (ps_ret (pe_G G_times hgd (hr.mono (by omega)) (by rfl) T.g_times T.k_times T.b_times .nil (fun σ => passAt (takes_of rfl rfl rfl rfl) σ) (pa_cons (pv 3) (pa_cons (pe_G G_length_worth hgd (hr.mono (by omega)) (by rfl) T.g_length_worth T.k_length_worth T.b_length_worth .nil (fun σ => passAt (takes_of rfl rfl rfl rfl) σ) (pa_cons (pe_ix ix_tup (pv 0) pe_int (fun _ _ => rfl)) (pa_cons (pv 1) pa_nil))) pa_nil))))) pss_nil)
  (pss_cons (ps_par (i := 4) (j := 5) (by rfl) sc_length_worth.nd rfl rfl (by decide) rfl rfl (pa_cons (pe_G G_length_worth hgd (hr.mono (by omega)) (by rfl) T.g_length_worth T.k_length_worth T.b_length_worth .nil (fun σ => passAt (takes_of rfl rfl rfl rfl) σ) (pa_cons (pv 3) (pa_cons (pv 1) pa_nil))) (pa_cons (pe_G G_length_worth hgd (hr.mono (by omega)) (by rfl) T.g_length_worth T.k_length_worth T.b_length_worth .nil (fun σ => passAt (takes_of rfl rfl rfl rfl) σ) (pa_cons (pe_ix ix_tup (pv 0) pe_int (fun _ _ => rfl)) (pa_cons (pv 1) pa_nil))) pa_nil)) (by rfl))
  (pss_one (ps_ret (pe_ifExp (pt_cmpR (op_eqD hr.units) (pv 2) pe_str (nomark _)) (pe_G G_plus hgd (hr.mono (by omega)) (by rfl) T.g_plus T.k_plus T.b_plus .nil (fun σ => passAt (takes_of rfl rfl rfl rfl) σ) (pa_cons (pv 4) (pa_cons (pv 5) pa_nil))) (pe_G G_minus hgd (hr.mono (by omega)) (by rfl) T.g_minus T.k_minus T.b_minus .nil (fun σ => passAt (takes_of rfl rfl rfl rfl) σ) (pa_cons (pv 4) (pa_cons (pv 5) pa_nil))))))))))), ?_⟩
    rintro ⟨l, kvs⟩ ⟨hl, hk, hne, hz, hb⟩
    show SX K _ _ [.dat (encL l), .dat (numD kvs), .no, .no, .no, .no] _
    try dsimp only [bodyK] at *
    have hl : l.deep < dep + 1 := hl
    have hb : bitsL l ≤ 3500 := hb
    have hk : okL l := hk
    have hne : kvs ≠ [] := hne
    have hne2 : (kvs.map fun p => ((.inr p.1 : Key), dR p.2)) ≠ [] := fun z => hne (List.map_eq_nil_iff.mp z)
    have w : ∀ {W : WX} {x : Str} {t u : TS} {δ : Sto} {R : Ends3} {y : Str}, δ[2]? = some (.dat (.str y)) → SeqAt.shaped (.str y) = true → SeqAt.shaped (.str x) = true →
        (decide (y = x) = true → SX K W t δ (R.nxt fun δ' => SX K W u δ' R)) → (decide (y = x) = false → SX K W u δ R) → SX K W (tSeq (tIfS (tTest (tOp (rEqD K) (tVar 2) (tC (.str x)))) t tNext) u) δ R := fun e s1 s2 q1 q2 => by
      refine sx_guard _ (tx_test (ex_op (ex_var e (ex_str (rx_eqD s1 s2 ⟨_, rfl, rfl, rfl⟩))))) (fun h => q1 ?_) (fun h => q2 ?_)
      · rw [← h]; simp only [PyData.eqv]; rw [Bool.eq_iff_iff]; simp
      · rw [← h]; simp only [PyData.eqv]; rw [Bool.eq_iff_iff]; simp
    cases l with
    | num q =>
      show SX K _ _ [.dat (.tuple [.str "num", dR q]), .dat (numD kvs), .no, .no, .no, .no] _
      refine sx_seq (sx_par (ax_cons (ex_op (ex_var rfl (ex_int (rx_ixT (atI_nat (j := 0) rfl) (ax_cons (ex_op (ex_var rfl (ex_int (rx_ixT (atI_nat (j := 1) rfl) (ax_nil ⟨_, _, rfl, ?_⟩))))))))))))
      dsimp only [List.set_cons_zero, List.set_cons_succ]
      refine w rfl shaped_s1 shaped_s1 (fun _ => ?_) (fun h => absurd h (by decide))
      exact sx_ret (ex_var rfl ⟨_, rfl, q, rfl, rfl, (show Sz 62 q from hk).mono (by show 62 ≤ 100; decide)⟩)
    | of x =>
      show SX K _ _ [.dat (.tuple [.str "of", .str x]), .dat (numD kvs), .no, .no, .no, .no] _
      refine sx_seq (sx_par (ax_cons (ex_op (ex_var rfl (ex_int (rx_ixT (atI_nat (j := 0) rfl) (ax_cons (ex_op (ex_var rfl (ex_int (rx_ixT (atI_nat (j := 1) rfl) (ax_nil ⟨_, _, rfl, ?_⟩))))))))))))
      dsimp only [List.set_cons_zero, List.set_cons_succ]
      refine w rfl shaped_s2 shaped_s1 (fun h => absurd h (by decide)) (fun _ => ?_)
      refine w rfl shaped_s2 shaped_s2 (fun _ => ?_) (fun h => absurd h (by decide))
      have e := lk_num kvs x
      refine sx_guard (!(lkN kvs x).isSome) ?_ (fun h => ?_) (fun h => ?_)
      · refine tx_B (ex_dnotin hne2 (ex_var rfl ⟨.inr x, rfl, ex_var rfl ⟨rfl, _, rfl, ?_, rfl⟩⟩))
        rw [e]
        cases lkN kvs x <;> rfl
      · refine sx_raise ⟨?_, rfl⟩
        show lkN kvs x = none
        cases hx : lkN kvs x with
        | none => rfl
        | some q => rw [hx] at h; cases h
      · obtain ⟨q, hq⟩ : ∃ q, lkN kvs x = some q := by
          cases hx : lkN kvs x with
          | none => rw [hx] at h; cases h
          | some q => exact ⟨q, rfl⟩
        obtain ⟨k, hm⟩ := lkN_mem hq
        refine sx_ret (ex_dget hne2 (ex_var rfl ⟨rfl, ex_var rfl ⟨.inr x, dR q, rfl, by rw [e, hq]; rfl, _, rfl, q, hq, rfl, hz _ hm⟩⟩))
    | times q l =>
      show SX K _ _ [.dat (.tuple [.str "times", dR q, encL l]), .dat (numD kvs), .no, .no, .no, .no] _
      refine sx_seq (sx_par (ax_cons (ex_op (ex_var rfl (ex_int (rx_ixT (atI_nat (j := 0) rfl) (ax_cons (ex_op (ex_var rfl (ex_int (rx_ixT (atI_nat (j := 1) rfl) (ax_nil ⟨_, _, rfl, ?_⟩))))))))))))
      dsimp only [List.set_cons_zero, List.set_cons_succ]
      refine w rfl shaped_s3 shaped_s1 (fun h => absurd h (by decide)) (fun _ => ?_)
      refine w rfl shaped_s3 shaped_s2 (fun h => absurd h (by decide)) (fun _ => ?_)
      refine w rfl shaped_s3 shaped_s3 (fun _ => ?_) (fun h => absurd h (by decide))
      have hl : l.deep + 1 < dep + 1 := hl
      have hb : 62 + bitsL l ≤ 3500 := hb
      refine sx_ret (ex_call (fun _ => .nil) (ax_cons (ex_var rfl (ax_cons (ex_call (fun _ => .nil) (ax_cons (ex_op (ex_var rfl (ex_int (rx_ixT (atI_nat (j := 2) rfl) (ax_cons (ex_var rfl (ax_nil ?_)))))))))))))
      refine ⟨[_, _], (l, kvs), rfl, rfl, rfl, ⟨by show l.deep < dep; omega, hk.2, hne, hz, by show bitsL l ≤ 3500; omega⟩, fun r hr => ?_, fun C hC => ⟨?_, hC.2⟩⟩
      · obtain ⟨p, hp, rfl, zp⟩ := hr
        have zp : Sz (bitsL l) p := zp
        have hp : worthL kvs l = some p := hp
        refine ax_nil ⟨[_, _], (q, p), rfl, rfl, rfl, ⟨hk.1.mono (by decide), zp.mono (by omega)⟩, fun r hr => ⟨_, rfl, q * p, ?_, hr, sz_mul2 hk.1 zp⟩, fun C hC => hC.elim⟩
        show (worthL kvs l).map _ = _
        rw [hp]
        rfl
      · show (worthL kvs l).map _ = none
        rw [show worthL kvs l = none from hC.1]
        rfl
    | plus a b =>
      show SX K _ _ [.dat (.tuple [.str "plus", encL a, encL b]), .dat (numD kvs), .no, .no, .no, .no] _
      refine sx_seq (sx_par (ax_cons (ex_op (ex_var rfl (ex_int (rx_ixT (atI_nat (j := 0) rfl) (ax_cons (ex_op (ex_var rfl (ex_int (rx_ixT (atI_nat (j := 1) rfl) (ax_nil ⟨_, _, rfl, ?_⟩))))))))))))
      dsimp only [List.set_cons_zero, List.set_cons_succ]
      refine w rfl shaped_s5 shaped_s1 (fun h => absurd h (by decide)) (fun _ => ?_)
      refine w rfl shaped_s5 shaped_s2 (fun h => absurd h (by decide)) (fun _ => ?_)
      refine w rfl shaped_s5 shaped_s3 (fun h => absurd h (by decide)) (fun _ => ?_)
      have hl : max a.deep b.deep + 1 < dep + 1 := hl
      have hb : bitsL a + bitsL b + 1 ≤ 3500 := hb
      refine sx_seq (sx_par (ax_cons (ex_call (fun _ => .nil) (ax_cons (ex_var rfl (ax_cons (ex_var rfl (ax_nil ?_))))))))
      refine ⟨[_, _], (a, kvs), rfl, rfl, rfl, ⟨by show a.deep < dep; omega, hk.1, hne, hz, by show bitsL a ≤ 3500; omega⟩, fun r hr => ?_, fun C hC => ⟨?_, hC.2⟩⟩
      · obtain ⟨p, hp, rfl, zp⟩ := hr
        refine ax_cons (ex_call (fun _ => .nil) (ax_cons (ex_op (ex_var rfl (ex_int (rx_ixT (atI_nat (j := 2) rfl) (ax_cons (ex_var rfl (ax_nil ?_)))))))))
        refine ⟨[_, _], (b, kvs), rfl, rfl, rfl, ⟨by show b.deep < dep; omega, hk.2, hne, hz, by show bitsL b ≤ 3500; omega⟩, fun r hr => ?_, fun C hC => ⟨?_, hC.2⟩⟩
        · obtain ⟨q, hq, rfl, zq⟩ := hr
          refine ax_nil ⟨_, _, rfl, ?_⟩
          dsimp only [List.set_cons_zero, List.set_cons_succ]
          have zp : Sz (bitsL a) p := zp
          have zq : Sz (bitsL b) q := zq
          have hp : worthL kvs a = some p := hp
          have hq : worthL kvs b = some q := hq
          refine sx_ret (ex_if (tx_test (ex_op (ex_var rfl (ex_str (rx_eqD shaped_s5 shaped_s5 ⟨_, rfl, fun h => ?_, fun h => ?_⟩))))))
          · refine ex_call (fun _ => .nil) (ax_cons (ex_var rfl (ax_cons (ex_var rfl (ax_nil ?_)))))
            refine ⟨[_, _], (p, q), rfl, rfl, rfl, ⟨zp.mono (by omega), zq.mono (by omega)⟩, fun r hr => ⟨_, rfl, p + q, ?_, hr, sz_add2 zp zq⟩, fun C hC => hC.elim⟩
            show (worthL kvs a).bind _ = _
            rw [hp, hq]
            rfl
          · exact absurd h (by decide +kernel)
        · show (worthL kvs a).bind _ = none
          rw [show worthL kvs a = some p from hp, show worthL kvs b = none from hC.1]
          rfl
      · show (worthL kvs a).bind _ = none
        rw [show worthL kvs a = none from hC.1]
        rfl
    | minus a b =>
      show SX K _ _ [.dat (.tuple [.str "minus", encL a, encL b]), .dat (numD kvs), .no, .no, .no, .no] _
      refine sx_seq (sx_par (ax_cons (ex_op (ex_var rfl (ex_int (rx_ixT (atI_nat (j := 0) rfl) (ax_cons (ex_op (ex_var rfl (ex_int (rx_ixT (atI_nat (j := 1) rfl) (ax_nil ⟨_, _, rfl, ?_⟩))))))))))))
      dsimp only [List.set_cons_zero, List.set_cons_succ]
      refine w rfl shaped_s6 shaped_s1 (fun h => absurd h (by decide)) (fun _ => ?_)
      refine w rfl shaped_s6 shaped_s2 (fun h => absurd h (by decide)) (fun _ => ?_)
      refine w rfl shaped_s6 shaped_s3 (fun h => absurd h (by decide)) (fun _ => ?_)
      have hl : max a.deep b.deep + 1 < dep + 1 := hl
      have hb : bitsL a + bitsL b + 1 ≤ 3500 := hb
      refine sx_seq (sx_par (ax_cons (ex_call (fun _ => .nil) (ax_cons (ex_var rfl (ax_cons (ex_var rfl (ax_nil ?_))))))))
      refine ⟨[_, _], (a, kvs), rfl, rfl, rfl, ⟨by show a.deep < dep; omega, hk.1, hne, hz, by show bitsL a ≤ 3500; omega⟩, fun r hr => ?_, fun C hC => ⟨?_, hC.2⟩⟩
      · obtain ⟨p, hp, rfl, zp⟩ := hr
        refine ax_cons (ex_call (fun _ => .nil) (ax_cons (ex_op (ex_var rfl (ex_int (rx_ixT (atI_nat (j := 2) rfl) (ax_cons (ex_var rfl (ax_nil ?_)))))))))
        refine ⟨[_, _], (b, kvs), rfl, rfl, rfl, ⟨by show b.deep < dep; omega, hk.2, hne, hz, by show bitsL b ≤ 3500; omega⟩, fun r hr => ?_, fun C hC => ⟨?_, hC.2⟩⟩
        · obtain ⟨q, hq, rfl, zq⟩ := hr
          refine ax_nil ⟨_, _, rfl, ?_⟩
          dsimp only [List.set_cons_zero, List.set_cons_succ]
          have zp : Sz (bitsL a) p := zp
          have zq : Sz (bitsL b) q := zq
          have hp : worthL kvs a = some p := hp
          have hq : worthL kvs b = some q := hq
          refine sx_ret (ex_if (tx_test (ex_op (ex_var rfl (ex_str (rx_eqD shaped_s6 shaped_s5 ⟨_, rfl, fun h => ?_, fun h => ?_⟩))))))
          · exact absurd h (by decide +kernel)
          · refine ex_call (fun _ => .nil) (ax_cons (ex_var rfl (ax_cons (ex_var rfl (ax_nil ?_)))))
            refine ⟨[_, _], (p, q), rfl, rfl, rfl, ⟨zp.mono (by omega), zq.mono (by omega)⟩, fun r hr => ⟨_, rfl, p - q, ?_, hr, sz_sub2 zp zq⟩, fun C hC => hC.elim⟩
            show (worthL kvs a).bind _ = _
            rw [hp, hq]
            rfl
        · show (worthL kvs a).bind _ = none
          rw [show worthL kvs a = some p from hp, show worthL kvs b = none from hC.1]
          rfl
      · show (worthL kvs a).bind _ = none
        rw [show worthL kvs a = none from hC.1]
        rfl
abbrev spr_names_within (K : PySem.W.Frag) (A : Ad) (dep : Nat) : Sp := spD K 1 (fun l : Len => [encL l]) (fun l => l.deep < dep ∧ (namesL l).length ≤ 1000) (fun l r => r = .list ((namesL l).map .str)) (fun _ _ => False)
abbrev sp_names_within (K : PySem.W.Frag) (A : Ad) : Sp := spr_names_within K A 9
theorem okr_names_within {P : Program} {w : World} {K : PySem.W.Frag} {mg : Str → Option Value} {base : Heap} {A : Ad} (T : Txt K mg A)  :
    ∀ dep : Nat, FnG P w K mg base (0 + dep) A.f_names_within A.d_names_within ["length"] (spr_names_within K A dep)
  | 0 => fn_void (by simp)
  | dep + 1 => by
    have G_names_within := okr_names_within (P := P) (w := w) (base := base) T  dep
    show FnG P w K mg base ((0 + dep) + 1) A.f_names_within A.d_names_within ["length"] (spr_names_within K A (dep + 1))
    refine fn_data T.F_names_within sc_names_within rfl fun cdv A' outer s H E hgd hr => ⟨_, (pss_cons (ps_if (pt_cmpR (op_eqD hr.units) (pe_ix ix_tup (pv 0) pe_int (fun _ _ => rfl)) pe_str (nomark _)) (pss_one (ps_ret (pe_lst pa_nil))) pss_nil)
  (pss_cons (ps_if (pt_cmpR (op_eqD hr.units) (pe_ix ix_tup (pv 0) pe_int (fun _ _ => rfl)) pe_str (nomark _)) (pss_one (ps_ret (pe_lst (pa_cons (pe_ix ix_tup (pv 0) pe_int (fun _ _ => rfl)) pa_nil)))) pss_nil)
  (pss_cons (ps_if (pt_cmpR (op_eqD hr.units) (pe_ix ix_tup (pv 0) pe_int (fun _ _ => rfl)) pe_str (nomark _)) (pss_one (ps_ret (pe_G G_names_within hgd (hr.mono (by omega)) (by rfl) T.g_names_within T.k_names_within T.b_names_within .nil (fun σ => passAt (takes_of rfl rfl rfl rfl) σ) (pa_cons (pe_ix ix_tup (pv 0) pe_int (fun _ _ => rfl)) pa_nil)))) pss_nil)
  (pss_one (ps_ret (pe_op op_catL (pe_G G_names_within hgd (hr.mono (by omega)) (by rfl) T.g_names_within T.k_names_within T.b_names_within .nil (fun σ => passAt (takes_of rfl rfl rfl rfl) σ) (pa_cons (pe_ix ix_tup (pv 0) pe_int (fun _ _ => rfl)) pa_nil)) (pe_G G_names_within hgd (hr.mono (by omega)) (by rfl) T.g_names_within T.k_names_within T.b_names_within .nil (fun σ => passAt (takes_of rfl rfl rfl rfl) σ) (pa_cons (pe_ix ix_tup (pv 0) pe_int (fun _ _ => rfl)) pa_nil)))))))), ?_⟩
    rintro l ⟨hl, hm⟩
    show SX K _ _ [.dat (encL l)] _
    try dsimp only [bodyK] at *
    have hl : l.deep < dep + 1 := hl
    have hm : (namesL l).length ≤ 1000 := hm
    have w : ∀ {W : WX} {x : Str} {t u : TS} {δ : Sto} {R : Ends3} {ds : List PyData} {y : Str}, δ = [.dat (.tuple (.str y :: ds))] → SeqAt.shaped (.str y) = true → SeqAt.shaped (.str x) = true →
        (decide (y = x) = true → SX K W t δ (R.nxt fun δ' => SX K W u δ' R)) → (decide (y = x) = false → SX K W u δ R) → SX K W (tSeq (tIfS (tTest (tOp (rEqD K) (tOp (rIxT K) (tVar 0) (tC (.int 0))) (tC (.str x)))) t tNext) u) δ R := fun e s1 s2 q1 q2 => by
      subst e
      refine sx_guard _ (tx_test (ex_op (ex_op (ex_var rfl (ex_int (rx_ixT (atI_nat (j := 0) rfl) (ex_str (rx_eqD s1 s2 ⟨_, rfl, rfl, rfl⟩)))))))) (fun h => q1 ?_) (fun h => q2 ?_)
      · rw [← h]; simp only [PyData.eqv]; rw [Bool.eq_iff_iff]; simp
      · rw [← h]; simp only [PyData.eqv]; rw [Bool.eq_iff_iff]; simp
    cases l with
    | num q =>
      show SX K _ _ [.dat (.tuple [.str "num", dR q])] _
      refine w rfl shaped_s1 shaped_s1 (fun _ => ?_) (fun h => absurd h (by decide))
      exact sx_ret (ex_listL (ax_nil ⟨[], rfl, by decide, _, rfl, rfl⟩))
    | of x =>
      show SX K _ _ [.dat (.tuple [.str "of", .str x])] _
      refine w rfl shaped_s2 shaped_s1 (fun h => absurd h (by decide)) (fun _ => ?_)
      refine w rfl shaped_s2 shaped_s2 (fun _ => ?_) (fun h => absurd h (by decide))
      refine sx_ret (ex_listL (ax_cons (ex_op (ex_var rfl (ex_int (rx_ixT (atI_nat (j := 1) rfl) (ax_nil ⟨[_], rfl, Nat.le_of_ble_eq_true rfl, _, rfl, rfl⟩)))))))
    | times q l =>
      show SX K _ _ [.dat (.tuple [.str "times", dR q, encL l])] _
      refine w rfl shaped_s3 shaped_s1 (fun h => absurd h (by decide)) (fun _ => ?_)
      refine w rfl shaped_s3 shaped_s2 (fun h => absurd h (by decide)) (fun _ => ?_)
      refine w rfl shaped_s3 shaped_s3 (fun _ => ?_) (fun h => absurd h (by decide))
      refine sx_ret (ex_call (fun _ => .nil) (ax_cons (ex_op (ex_var rfl (ex_int (rx_ixT (atI_nat (j := 2) rfl) (ax_nil ?_)))))))
      exact ⟨[_], l, rfl, rfl, rfl, ⟨by show l.deep < dep; simp only [Len.deep] at hl; omega, hm⟩, fun r hr => ⟨_, rfl, hr⟩, fun C hC => hC.elim⟩
    | plus a b =>
      show SX K _ _ [.dat (.tuple [.str "plus", encL a, encL b])] _
      refine w rfl shaped_s5 shaped_s1 (fun h => absurd h (by decide)) (fun _ => ?_)
      refine w rfl shaped_s5 shaped_s2 (fun h => absurd h (by decide)) (fun _ => ?_)
      refine w rfl shaped_s5 shaped_s3 (fun h => absurd h (by decide)) (fun _ => ?_)
      have hm : (namesL a ++ namesL b).length ≤ 1000 := hm
      rw [List.length_append] at hm
      have hl : max a.deep b.deep + 1 < dep + 1 := hl
      refine sx_ret (ex_F (p := fun ds _ => ds = (namesL a ++ namesL b).map .str) (fx_op (ex_call (fun _ => .nil) (ax_cons (ex_op (ex_var rfl (ex_int (rx_ixT (atI_nat (j := 1) rfl) (ax_nil ?_)))))))) fun ds δ' e => ⟨_, rfl, by rw [e]; rfl⟩)
      refine ⟨[_], a, rfl, rfl, rfl, ⟨by show a.deep < dep; omega, by show (namesL a).length ≤ 1000; omega⟩, fun r hr => ?_, fun C hC => hC.elim⟩
      subst hr
      refine ex_call (fun _ => .nil) (ax_cons (ex_op (ex_var rfl (ex_int (rx_ixT (atI_nat (j := 2) rfl) (ax_nil ?_))))))
      refine ⟨[_], b, rfl, rfl, rfl, ⟨by show b.deep < dep; omega, by show (namesL b).length ≤ 1000; omega⟩, fun r hr => ?_, fun C hC => hC.elim⟩
      subst hr
      exact ⟨_, rf_cat (by rw [List.length_map, List.length_map]; omega), by rw [List.map_append]⟩
    | minus a b =>
      show SX K _ _ [.dat (.tuple [.str "minus", encL a, encL b])] _
      refine w rfl shaped_s6 shaped_s1 (fun h => absurd h (by decide)) (fun _ => ?_)
      refine w rfl shaped_s6 shaped_s2 (fun h => absurd h (by decide)) (fun _ => ?_)
      refine w rfl shaped_s6 shaped_s3 (fun h => absurd h (by decide)) (fun _ => ?_)
      have hm : (namesL a ++ namesL b).length ≤ 1000 := hm
      rw [List.length_append] at hm
      have hl : max a.deep b.deep + 1 < dep + 1 := hl
      refine sx_ret (ex_F (p := fun ds _ => ds = (namesL a ++ namesL b).map .str) (fx_op (ex_call (fun _ => .nil) (ax_cons (ex_op (ex_var rfl (ex_int (rx_ixT (atI_nat (j := 1) rfl) (ax_nil ?_)))))))) fun ds δ' e => ⟨_, rfl, by rw [e]; rfl⟩)
      refine ⟨[_], a, rfl, rfl, rfl, ⟨by show a.deep < dep; omega, by show (namesL a).length ≤ 1000; omega⟩, fun r hr => ?_, fun C hC => hC.elim⟩
      subst hr
      refine ex_call (fun _ => .nil) (ax_cons (ex_op (ex_var rfl (ex_int (rx_ixT (atI_nat (j := 2) rfl) (ax_nil ?_))))))
      refine ⟨[_], b, rfl, rfl, rfl, ⟨by show b.deep < dep; omega, by show (namesL b).length ≤ 1000; omega⟩, fun r hr => ?_, fun C hC => hC.elim⟩
      subst hr
      exact ⟨_, rf_cat (by rw [List.length_map, List.length_map]; omega), by rw [List.map_append]⟩
abbrev spr_growth (K : PySem.W.Frag) (A : Ad) (dep : Nat) : Sp := spD K 2 (fun p : Len × Str => [encL p.1, .str p.2]) (fun p => p.1.deep < dep ∧ okL p.1 ∧ bitsL p.1 ≤ 3500 ∧ okT p.1 p.2) (fun p r => r = dR (growL p.2 p.1) ∧ Sz (bitsL p.1) (growL p.2 p.1)) (fun _ _ => False)
abbrev sp_growth (K : PySem.W.Frag) (A : Ad) : Sp := spr_growth K A 9
theorem okr_growth {P : Program} {w : World} {K : PySem.W.Frag} {mg : Str → Option Value} {base : Heap} {A : Ad} (T : Txt K mg A) (G_times : FnG P w K mg base 2 A.f_times A.d_times ["one", "other"] (sp_times K A)) (G_plus : FnG P w K mg base 2 A.f_plus A.d_plus ["one", "other"] (sp_plus K A)) (G_minus : FnG P w K mg base 3 A.f_minus A.d_minus ["one", "other"] (sp_minus K A)) :
    ∀ dep : Nat, FnG P w K mg base (3 + dep) A.f_growth A.d_growth ["length", "name"] (spr_growth K A dep)
  | 0 => fn_void (by simp)
  | dep + 1 => by
    have G_growth := okr_growth (P := P) (w := w) (base := base) T G_times G_plus G_minus dep
    show FnG P w K mg base ((3 + dep) + 1) A.f_growth A.d_growth ["length", "name"] (spr_growth K A (dep + 1))
    refine fn_data T.F_growth sc_growth rfl fun cdv A' outer s H E hgd hr => ⟨_, (pss_cons (ps_par (i := 2) (j := 3) (by rfl) sc_growth.nd rfl rfl (by decide) rfl rfl (pa_cons (pe_ix ix_tup (pv 0) pe_int (fun _ _ => rfl)) (pa_cons (pe_ix ix_tup (pv 0) pe_int (fun _ _ => rfl)) pa_nil)) (by rfl))
  (pss_cons (ps_if (pt_cmpR (op_eqD hr.units) (pv 2) pe_str (nomark _)) (pss_one (ps_ret (pe_glob (v := (.ref A.c_ZERO)) (by rfl) T.c_ZERO rfl))) pss_nil)
  (pss_cons (ps_if (pt_cmpR (op_eqD hr.units) (pv 2) pe_str (nomark _)) (pss_one (ps_ret (pe_ifExp (pt_cmpR (op_eqD hr.units) (pv 3) (pv 1) (nomark _)) (pe_glob (v := (.ref A.c_ONE)) (by rfl) T.c_ONE rfl) (pe_glob (v := (.ref A.c_ZERO)) (by rfl) T.c_ZERO rfl)))) pss_nil)
  (pss_cons (ps_if (pt_cmpR (op_eqD hr.units) (pv 2) pe_str (nomark _)) (pss_one (ps_ret (pe_G G_times hgd (hr.mono (by omega)) (by rfl) T.g_times T.k_times T.b_times .nil (fun σ => passAt (takes_of rfl rfl rfl rfl) σ) (pa_cons (pv 3) (pa_cons (pe_G G_growth hgd (hr.mono (by omega)) (by rfl) T.g_growth T.k_growth T.b_growth .nil (fun σ => passAt (takes_of rfl rfl rfl rfl) σ) (pa_cons (pe_ix ix_tup (pv 0) pe_int (fun _ _ => rfl)) (pa_cons (pv 1) pa_nil))) pa_nil))))) pss_nil)
  (pss_cons (ps_par (i := 4) (j := 5) (by rfl) sc_growth.nd rfl rfl (by decide) rfl rfl (pa_cons (pe_G G_growth hgd (hr.mono (by omega)) (by rfl) T.g_growth T.k_growth T.b_growth .nil (fun σ => passAt (takes_of rfl rfl rfl rfl) σ) (pa_cons (pv 3) (pa_cons (pv 1) pa_nil))) (pa_cons (pe_G G_growth hgd (hr.mono (by omega)) (by rfl) T.g_growth T.k_growth T.b_growth .nil (fun σ => passAt (takes_of rfl rfl rfl rfl) σ) (pa_cons (pe_ix ix_tup (pv 0) pe_int (fun _ _ => rfl)) (pa_cons (pv 1) pa_nil))) pa_nil)) (by rfl))
  (pss_one (ps_ret (pe_ifExp (pt_cmpR (op_eqD hr.units) (pv 2) pe_str (nomark _)) (pe_G G_plus hgd (hr.mono (by omega)) (by rfl) T.g_plus T.k_plus T.b_plus .nil (fun σ => passAt (takes_of rfl rfl rfl rfl) σ) (pa_cons (pv 4) (pa_cons (pv 5) pa_nil))) (pe_G G_minus hgd (hr.mono (by omega)) (by rfl) T.g_minus T.k_minus T.b_minus .nil (fun σ => passAt (takes_of rfl rfl rfl rfl) σ) (pa_cons (pv 4) (pa_cons (pv 5) pa_nil))))))))))), ?_⟩
    rintro ⟨l, y⟩ ⟨hl, hk, hb, hs⟩
    show SX K _ _ [.dat (encL l), .dat (.str y), .no, .no, .no, .no] _
    try dsimp only [bodyK] at *
    have hl : l.deep < dep + 1 := hl
    have hb : bitsL l ≤ 3500 := hb
    have hk : okL l := hk
    have hs : okT l y := hs
    have w : ∀ {W : WX} {x : Str} {t u : TS} {δ : Sto} {R : Ends3} {y : Str}, δ[2]? = some (.dat (.str y)) → SeqAt.shaped (.str y) = true → SeqAt.shaped (.str x) = true →
        (decide (y = x) = true → SX K W t δ (R.nxt fun δ' => SX K W u δ' R)) → (decide (y = x) = false → SX K W u δ R) → SX K W (tSeq (tIfS (tTest (tOp (rEqD K) (tVar 2) (tC (.str x)))) t tNext) u) δ R := fun e s1 s2 q1 q2 => by
      refine sx_guard _ (tx_test (ex_op (ex_var e (ex_str (rx_eqD s1 s2 ⟨_, rfl, rfl, rfl⟩))))) (fun h => q1 ?_) (fun h => q2 ?_)
      · rw [← h]; simp only [PyData.eqv]; rw [Bool.eq_iff_iff]; simp
      · rw [← h]; simp only [PyData.eqv]; rw [Bool.eq_iff_iff]; simp
    cases l with
    | num q =>
      show SX K _ _ [.dat (.tuple [.str "num", dR q]), .dat (.str y), .no, .no, .no, .no] _
      refine sx_seq (sx_par (ax_cons (ex_op (ex_var rfl (ex_int (rx_ixT (atI_nat (j := 0) rfl) (ax_cons (ex_op (ex_var rfl (ex_int (rx_ixT (atI_nat (j := 1) rfl) (ax_nil ⟨_, _, rfl, ?_⟩))))))))))))
      dsimp only [List.set_cons_zero, List.set_cons_succ]
      refine w rfl shaped_s1 shaped_s1 (fun _ => ?_) (fun h => absurd h (by decide))
      exact sx_ret (ex_k T.t_ZERO ⟨_, rfl, rfl, sz_z100⟩)
    | of x =>
      show SX K _ _ [.dat (.tuple [.str "of", .str x]), .dat (.str y), .no, .no, .no, .no] _
      refine sx_seq (sx_par (ax_cons (ex_op (ex_var rfl (ex_int (rx_ixT (atI_nat (j := 0) rfl) (ax_cons (ex_op (ex_var rfl (ex_int (rx_ixT (atI_nat (j := 1) rfl) (ax_nil ⟨_, _, rfl, ?_⟩))))))))))))
      dsimp only [List.set_cons_zero, List.set_cons_succ]
      refine w rfl shaped_s2 shaped_s1 (fun h => absurd h (by decide)) (fun _ => ?_)
      refine w rfl shaped_s2 shaped_s2 (fun _ => ?_) (fun h => absurd h (by decide))
      refine sx_ret (ex_if (tx_test (ex_op (ex_var rfl (ex_var rfl (rx_eqD (hs.1 x (by simp [namesL])) hs.2 ⟨_, rfl, fun h => ?_, fun h => ?_⟩))))))
      · have h : x = y := by simpa [PyData.eqv] using h
        refine ex_k T.t_ONE ⟨_, rfl, ?_, ?_⟩
        · show _ = dR (if x = y then 1 else 0)
          rw [if_pos h]; rfl
        · show Sz 100 (if x = y then 1 else 0)
          rw [if_pos h]; exact sz_o100
      · have h : ¬ x = y := by simpa [PyData.eqv] using h
        refine ex_k T.t_ZERO ⟨_, rfl, ?_, ?_⟩
        · show _ = dR (if x = y then 1 else 0)
          rw [if_neg h]; rfl
        · show Sz 100 (if x = y then 1 else 0)
          rw [if_neg h]; exact sz_z100
    | times q l =>
      show SX K _ _ [.dat (.tuple [.str "times", dR q, encL l]), .dat (.str y), .no, .no, .no, .no] _
      refine sx_seq (sx_par (ax_cons (ex_op (ex_var rfl (ex_int (rx_ixT (atI_nat (j := 0) rfl) (ax_cons (ex_op (ex_var rfl (ex_int (rx_ixT (atI_nat (j := 1) rfl) (ax_nil ⟨_, _, rfl, ?_⟩))))))))))))
      dsimp only [List.set_cons_zero, List.set_cons_succ]
      refine w rfl shaped_s3 shaped_s1 (fun h => absurd h (by decide)) (fun _ => ?_)
      refine w rfl shaped_s3 shaped_s2 (fun h => absurd h (by decide)) (fun _ => ?_)
      refine w rfl shaped_s3 shaped_s3 (fun _ => ?_) (fun h => absurd h (by decide))
      have hl : l.deep + 1 < dep + 1 := hl
      have hb : 62 + bitsL l ≤ 3500 := hb
      refine sx_ret (ex_call (fun _ => .nil) (ax_cons (ex_var rfl (ax_cons (ex_call (fun _ => .nil) (ax_cons (ex_op (ex_var rfl (ex_int (rx_ixT (atI_nat (j := 2) rfl) (ax_cons (ex_var rfl (ax_nil ?_)))))))))))))
      refine ⟨[_, _], (l, y), rfl, rfl, rfl, ⟨by show l.deep < dep; omega, hk.2, by show bitsL l ≤ 3500; omega, hs⟩, fun r hr => ?_, fun C hC => hC.elim⟩
      obtain ⟨rfl, zp⟩ := hr
      have zp : Sz (bitsL l) (growL y l) := zp
      exact ax_nil ⟨[_, _], (q, growL y l), rfl, rfl, rfl, ⟨hk.1.mono (by decide), zp.mono (by omega)⟩, fun r hr => ⟨_, rfl, hr, sz_mul2 hk.1 zp⟩, fun C hC => hC.elim⟩
    | plus a b =>
      have hs : okT a y ∧ okT b y := ⟨okT.left hs, okT.right hs⟩
      show SX K _ _ [.dat (.tuple [.str "plus", encL a, encL b]), .dat (.str y), .no, .no, .no, .no] _
      refine sx_seq (sx_par (ax_cons (ex_op (ex_var rfl (ex_int (rx_ixT (atI_nat (j := 0) rfl) (ax_cons (ex_op (ex_var rfl (ex_int (rx_ixT (atI_nat (j := 1) rfl) (ax_nil ⟨_, _, rfl, ?_⟩))))))))))))
      dsimp only [List.set_cons_zero, List.set_cons_succ]
      refine w rfl shaped_s5 shaped_s1 (fun h => absurd h (by decide)) (fun _ => ?_)
      refine w rfl shaped_s5 shaped_s2 (fun h => absurd h (by decide)) (fun _ => ?_)
      refine w rfl shaped_s5 shaped_s3 (fun h => absurd h (by decide)) (fun _ => ?_)
      have hl : max a.deep b.deep + 1 < dep + 1 := hl
      have hb : bitsL a + bitsL b + 1 ≤ 3500 := hb
      refine sx_seq (sx_par (ax_cons (ex_call (fun _ => .nil) (ax_cons (ex_var rfl (ax_cons (ex_var rfl (ax_nil ?_))))))))
      refine ⟨[_, _], (a, y), rfl, rfl, rfl, ⟨by show a.deep < dep; omega, hk.1, by show bitsL a ≤ 3500; omega, hs.1⟩, fun r hr => ?_, fun C hC => hC.elim⟩
      obtain ⟨rfl, zp⟩ := hr
      refine ax_cons (ex_call (fun _ => .nil) (ax_cons (ex_op (ex_var rfl (ex_int (rx_ixT (atI_nat (j := 2) rfl) (ax_cons (ex_var rfl (ax_nil ?_)))))))))
      refine ⟨[_, _], (b, y), rfl, rfl, rfl, ⟨by show b.deep < dep; omega, hk.2, by show bitsL b ≤ 3500; omega, hs.2⟩, fun r hr => ?_, fun C hC => hC.elim⟩
      obtain ⟨rfl, zq⟩ := hr
      have zp : Sz (bitsL a) (growL y a) := zp
      have zq : Sz (bitsL b) (growL y b) := zq
      refine ax_nil ⟨_, _, rfl, ?_⟩
      dsimp only [List.set_cons_zero, List.set_cons_succ]
      refine sx_ret (ex_if (tx_test (ex_op (ex_var rfl (ex_str (rx_eqD shaped_s5 shaped_s5 ⟨_, rfl, fun h => ?_, fun h => ?_⟩))))))
      · refine ex_call (fun _ => .nil) (ax_cons (ex_var rfl (ax_cons (ex_var rfl (ax_nil ?_)))))
        exact ⟨[_, _], (growL y a, growL y b), rfl, rfl, rfl, ⟨zp.mono (by omega), zq.mono (by omega)⟩, fun r hr => ⟨_, rfl, hr, sz_add2 zp zq⟩, fun C hC => hC.elim⟩
      · exact absurd h (by decide +kernel)
    | minus a b =>
      have hs : okT a y ∧ okT b y := ⟨okT.left hs, okT.right hs⟩
      show SX K _ _ [.dat (.tuple [.str "minus", encL a, encL b]), .dat (.str y), .no, .no, .no, .no] _
      refine sx_seq (sx_par (ax_cons (ex_op (ex_var rfl (ex_int (rx_ixT (atI_nat (j := 0) rfl) (ax_cons (ex_op (ex_var rfl (ex_int (rx_ixT (atI_nat (j := 1) rfl) (ax_nil ⟨_, _, rfl, ?_⟩))))))))))))
      dsimp only [List.set_cons_zero, List.set_cons_succ]
      refine w rfl shaped_s6 shaped_s1 (fun h => absurd h (by decide)) (fun _ => ?_)
      refine w rfl shaped_s6 shaped_s2 (fun h => absurd h (by decide)) (fun _ => ?_)
      refine w rfl shaped_s6 shaped_s3 (fun h => absurd h (by decide)) (fun _ => ?_)
      have hl : max a.deep b.deep + 1 < dep + 1 := hl
      have hb : bitsL a + bitsL b + 1 ≤ 3500 := hb
      refine sx_seq (sx_par (ax_cons (ex_call (fun _ => .nil) (ax_cons (ex_var rfl (ax_cons (ex_var rfl (ax_nil ?_))))))))
      refine ⟨[_, _], (a, y), rfl, rfl, rfl, ⟨by show a.deep < dep; omega, hk.1, by show bitsL a ≤ 3500; omega, hs.1⟩, fun r hr => ?_, fun C hC => hC.elim⟩
      obtain ⟨rfl, zp⟩ := hr
      refine ax_cons (ex_call (fun _ => .nil) (ax_cons (ex_op (ex_var rfl (ex_int (rx_ixT (atI_nat (j := 2) rfl) (ax_cons (ex_var rfl (ax_nil ?_)))))))))
      refine ⟨[_, _], (b, y), rfl, rfl, rfl, ⟨by show b.deep < dep; omega, hk.2, by show bitsL b ≤ 3500; omega, hs.2⟩, fun r hr => ?_, fun C hC => hC.elim⟩
      obtain ⟨rfl, zq⟩ := hr
      have zp : Sz (bitsL a) (growL y a) := zp
      have zq : Sz (bitsL b) (growL y b) := zq
      refine ax_nil ⟨_, _, rfl, ?_⟩
      dsimp only [List.set_cons_zero, List.set_cons_succ]
      refine sx_ret (ex_if (tx_test (ex_op (ex_var rfl (ex_str (rx_eqD shaped_s6 shaped_s5 ⟨_, rfl, fun h => ?_, fun h => ?_⟩))))))
      · exact absurd h (by decide +kernel)
      · refine ex_call (fun _ => .nil) (ax_cons (ex_var rfl (ax_cons (ex_var rfl (ax_nil ?_)))))
        exact ⟨[_, _], (growL y a, growL y b), rfl, rfl, rfl, ⟨zp.mono (by omega), zq.mono (by omega)⟩, fun r hr => ⟨_, rfl, hr, sz_sub2 zp zq⟩, fun C hC => hC.elim⟩
abbrev spr__law_names (K : PySem.W.Frag) (A : Ad) (dep : Nat) : Sp := spD K 1 (fun l : Len => [encL l]) (fun l => l.deep < dep ∧ (namesL l).length ≤ 1000) (fun l r => r = .list ((namesL l).map .str)) (fun _ _ => False)
abbrev sp__law_names (K : PySem.W.Frag) (A : Ad) : Sp := spr__law_names K A 9
theorem okr__law_names {P : Program} {w : World} {K : PySem.W.Frag} {mg : Str → Option Value} {base : Heap} {A : Ad} (T : Txt K mg A)  :
    ∀ dep : Nat, FnG P w K mg base (0 + dep) A.f__law_names A.d__law_names ["length"] (spr__law_names K A dep)
  | 0 => fn_void (by simp)
  | dep + 1 => by
    have G__law_names := okr__law_names (P := P) (w := w) (base := base) T  dep
    show FnG P w K mg base ((0 + dep) + 1) A.f__law_names A.d__law_names ["length"] (spr__law_names K A (dep + 1))
    refine fn_data T.F__law_names sc__law_names rfl fun cdv A' outer s H E hgd hr => ⟨_, (pss_cons (ps_if (pt_cmpR (op_eqD hr.units) (pe_ix ix_tup (pv 0) pe_int (fun _ _ => rfl)) pe_str (nomark _)) (pss_one (ps_ret (pe_lst pa_nil))) pss_nil)
  (pss_cons (ps_if (pt_cmpR (op_eqD hr.units) (pe_ix ix_tup (pv 0) pe_int (fun _ _ => rfl)) pe_str (nomark _)) (pss_one (ps_ret (pe_lst (pa_cons (pe_ix ix_tup (pv 0) pe_int (fun _ _ => rfl)) pa_nil)))) pss_nil)
  (pss_cons (ps_set (i := 1) sc__law_names.nd rfl (.inl rfl) (pe_lst pa_nil))
  (pss_cons (ps_for (passes_of rfl) rfl (pi_tup (pe_slice sl_tup (pv 0) (po_some pe_int) po_none)) (pg_name (i := 2) sc__law_names.nd rfl (.inl rfl)) (pss_one (ps_if (pt_val (pe_callB (call_isiB (K := K) rfl) (by rfl) T.z_isinstance (by decide +kernel) (pa_cons (pe_ix ix_tup (pv 2) pe_int (fun _ _ => rfl)) (pa_cons (pe_bltn (v := .ty "str") (by rfl) T.z_str (by decide +kernel) rfl) pa_nil)))) (pss_one (ps_set (i := 1) sc__law_names.nd rfl (.inl rfl) (pe_op op_catL (pv 1) (pe_G G__law_names hgd (hr.mono (by omega)) (by rfl) T.g__law_names T.k__law_names T.b__law_names .nil (fun σ => passAt (takes_of rfl rfl rfl rfl) σ) (pa_cons (pv 2) pa_nil))))) pss_nil)))
  (pss_one (ps_ret (pv 1))))))), ?_⟩
    rintro l ⟨hl, hm⟩
    show SX K _ _ [.dat (encL l), .no, .no] _
    try dsimp only [bodyK] at *
    have hl : l.deep < dep + 1 := hl
    have hm : (namesL l).length ≤ 1000 := hm
    have w : ∀ {W : WX} {x : Str} {t u : TS} {δ : Sto} {R : Ends3} {ds : List PyData} {y : Str}, δ = [.dat (.tuple (.str y :: ds)), .no, .no] → SeqAt.shaped (.str y) = true → SeqAt.shaped (.str x) = true →
        (decide (y = x) = true → SX K W t δ (R.nxt fun δ' => SX K W u δ' R)) → (decide (y = x) = false → SX K W u δ R) → SX K W (tSeq (tIfS (tTest (tOp (rEqD K) (tOp (rIxT K) (tVar 0) (tC (.int 0))) (tC (.str x)))) t tNext) u) δ R := fun e s1 s2 q1 q2 => by
      subst e
      refine sx_guard _ (tx_test (ex_op (ex_op (ex_var rfl (ex_int (rx_ixT (atI_nat (j := 0) rfl) (ex_str (rx_eqD s1 s2 ⟨_, rfl, rfl, rfl⟩)))))))) (fun h => q1 ?_) (fun h => q2 ?_)
      · rw [← h]; simp only [PyData.eqv]; rw [Bool.eq_iff_iff]; simp
      · rw [← h]; simp only [PyData.eqv]; rw [Bool.eq_iff_iff]; simp
    cases l with
    | num q =>
      show SX K _ _ [.dat (.tuple [.str "num", dR q]), .no, .no] _
      refine w rfl shaped_s1 shaped_s1 (fun _ => ?_) (fun h => absurd h (by decide))
      exact sx_ret (ex_listL (ax_nil ⟨[], rfl, by decide, _, rfl, rfl⟩))
    | of x =>
      show SX K _ _ [.dat (.tuple [.str "of", .str x]), .no, .no] _
      refine w rfl shaped_s2 shaped_s1 (fun h => absurd h (by decide)) (fun _ => ?_)
      refine w rfl shaped_s2 shaped_s2 (fun _ => ?_) (fun h => absurd h (by decide))
      refine sx_ret (ex_listL (ax_cons (ex_op (ex_var rfl (ex_int (rx_ixT (atI_nat (j := 1) rfl) (ax_nil ⟨[_], rfl, Nat.le_of_ble_eq_true rfl, _, rfl, rfl⟩)))))))
    | times q l =>
      show SX K _ _ [.dat (.tuple [.str "times", dR q, encL l]), .no, .no] _
      refine w rfl shaped_s3 shaped_s1 (fun h => absurd h (by decide)) (fun _ => ?_)
      refine w rfl shaped_s3 shaped_s2 (fun h => absurd h (by decide)) (fun _ => ?_)
      have hl : l.deep + 1 < dep + 1 := hl
      have hm : (namesL l).length ≤ 1000 := hm
      refine sx_seq (sx_asg (ex_listL (ax_nil ⟨[], rfl, by decide, _, rfl, ?_⟩)))
      refine sx_seq (sx_forT tg_name (fun ds k δ' => ds = [dR q, encL l] ∧ ∃ o, δ' = [.dat (.tuple [.str "times", dR q, encL l]), .dat (.list ((if k = 0 then [] else if k = 1 then [] else namesL l).map .str)), o]) (ex_slT (ex_var rfl (ox_some (ex_int ⟨_, rfl, ox_none ⟨_, rfl, not_whole3, _, rfl, ⟨rfl, _, rfl⟩, ?_, ?_⟩⟩)))))
      · rintro k d δ' hk ⟨_, o, rfl⟩
        match k, hk with
        | 0, hk =>
          cases hk
          refine ⟨trivial, sx_if (tx_B ?_)⟩
          refine ex_CB (ax_cons (ex_op (ex_var rfl (ex_int (rx_ixT (atI_nat (j := 0) rfl) (ax_cons (ex_cv (ax_nil (vx_isi (kit_str _) ⟨_, rfl, fun h => (Bool.false_ne_true h).elim, fun _ => ?_⟩)))))))))
          exact sx_next ⟨rfl, _, rfl⟩
        | 1, hk =>
          cases hk
          obtain ⟨y, r, e⟩ := enc_head l
          refine ⟨trivial, sx_if (tx_B ?_)⟩
          refine ex_CB (ax_cons (ex_op (ex_var rfl (ex_int ?_))))
          rw [e]
          refine rx_ixT (atI_nat (j := 0) rfl) (ax_cons (ex_cv (ax_nil (vx_isi (kit_str _) ⟨_, rfl, fun _ => ?_, fun h => (Bool.false_ne_true h.symm).elim⟩))))
          rw [← e]
          refine sx_asg (ex_F (p := fun ds δ' => ds = ([] ++ namesL l).map .str ∧ δ' = [.dat (.tuple [.str "times", dR q, encL l]), .dat (.list []), .dat (encL l)]) (fx_op (ex_var rfl (ex_call (fun _ => .nil) (ax_cons (ex_var rfl (ax_nil ?_)))))) fun ds δ' ⟨e1, e2⟩ => ⟨_, rfl, by rw [e1, e2]; exact ⟨rfl, _, rfl⟩⟩)
          refine ⟨[_], l, rfl, rfl, rfl, ⟨by show l.deep < dep; omega, hm⟩, fun r hr => ?_, fun C hC => hC.elim⟩
          subst hr
          exact ⟨_, rf_cat (by show 0 + ((namesL l).map PyData.str).length ≤ 1000000; rw [List.length_map]; omega), by rw [List.nil_append]; rfl, rfl⟩
        | k + 2, hk => cases hk
      · rintro δ' ⟨_, o, rfl⟩
        exact sx_ret (ex_var rfl ⟨_, rfl, rfl⟩)
    | plus a b =>
      show SX K _ _ [.dat (.tuple [.str "plus", encL a, encL b]), .no, .no] _
      refine w rfl shaped_s5 shaped_s1 (fun h => absurd h (by decide)) (fun _ => ?_)
      refine w rfl shaped_s5 shaped_s2 (fun h => absurd h (by decide)) (fun _ => ?_)
      have hl : max a.deep b.deep + 1 < dep + 1 := hl
      have hm : (namesL a ++ namesL b).length ≤ 1000 := hm
      rw [List.length_append] at hm
      refine sx_seq (sx_asg (ex_listL (ax_nil ⟨[], rfl, by decide, _, rfl, ?_⟩)))
      refine sx_seq (sx_forT tg_name (fun ds k δ' => ds = [encL a, encL b] ∧ ∃ o, δ' = [.dat (.tuple [.str "plus", encL a, encL b]), .dat (.list ((if k = 0 then [] else if k = 1 then namesL a else namesL a ++ namesL b).map .str)), o]) (ex_slT (ex_var rfl (ox_some (ex_int ⟨_, rfl, ox_none ⟨_, rfl, not_whole3, _, rfl, ⟨rfl, _, rfl⟩, ?_, ?_⟩⟩)))))
      · rintro k d δ' hk ⟨_, o, rfl⟩
        have part : ∀ {l : Len} {acc : List Str} {R : Ends3}, l.deep < dep → (namesL l).length ≤ 1000 → acc.length ≤ 1000 → R.nx [.dat (.tuple [.str "plus", encL a, encL b]), .dat (.list ((acc ++ namesL l).map .str)), .dat (encL l)] → SX K (W0 E) (tIfS (tB (tCB (rIsiD K) (tCons (tOp (rIxT K) (tVar 2) (tC (.int 0))) (tCons (tC (.ty "str")) tNil)))) (tAsg (tOp (rCatL K) (tVar 1) (tCallG (spr__law_names K A dep) [] (fun σ => WE (fun cls d x H => E cls d H) σ) (tCons (tVar 2) tNil))) (gName 1)) tNext) [.dat (.tuple [.str "plus", encL a, encL b]), .dat (.list (acc.map .str)), .dat (encL l)] R := fun {l acc R} h1 h2 h3 q => by
          obtain ⟨y, r, e⟩ := enc_head l
          refine sx_if (tx_B (ex_CB (ax_cons (ex_op (ex_var rfl (ex_int ?_))))))
          rw [e]
          refine rx_ixT (atI_nat (j := 0) rfl) (ax_cons (ex_cv (ax_nil (vx_isi (kit_str _) ⟨_, rfl, fun _ => ?_, fun h => (Bool.false_ne_true h.symm).elim⟩))))
          rw [← e]
          refine sx_asg (ex_F (p := fun ds δ' => ds = (acc ++ namesL l).map .str ∧ δ' = [.dat (.tuple [.str "plus", encL a, encL b]), .dat (.list (acc.map .str)), .dat (encL l)]) (fx_op (ex_var rfl (ex_call (fun _ => .nil) (ax_cons (ex_var rfl (ax_nil ?_)))))) fun ds δ' ⟨e1, e2⟩ => ⟨_, rfl, by rw [e1, e2]; exact q⟩)
          refine ⟨[_], l, rfl, rfl, rfl, ⟨h1, h2⟩, fun r hr => ?_, fun C hC => hC.elim⟩
          subst hr
          exact ⟨_, rf_cat (by rw [List.length_map, List.length_map]; omega), by rw [List.map_append], rfl⟩
        match k, hk with
        | 0, hk =>
          cases hk
          exact ⟨trivial, part (by omega) (by omega) (Nat.zero_le _) ⟨rfl, _, rfl⟩⟩
        | 1, hk =>
          cases hk
          exact ⟨trivial, part (acc := namesL a) (by omega) (by omega) (by omega) ⟨rfl, _, rfl⟩⟩
        | k + 2, hk => cases hk
      · rintro δ' ⟨_, o, rfl⟩
        exact sx_ret (ex_var rfl ⟨_, rfl, rfl⟩)
    | minus a b =>
      show SX K _ _ [.dat (.tuple [.str "minus", encL a, encL b]), .no, .no] _
      refine w rfl shaped_s6 shaped_s1 (fun h => absurd h (by decide)) (fun _ => ?_)
      refine w rfl shaped_s6 shaped_s2 (fun h => absurd h (by decide)) (fun _ => ?_)
      have hl : max a.deep b.deep + 1 < dep + 1 := hl
      have hm : (namesL a ++ namesL b).length ≤ 1000 := hm
      rw [List.length_append] at hm
      refine sx_seq (sx_asg (ex_listL (ax_nil ⟨[], rfl, by decide, _, rfl, ?_⟩)))
      refine sx_seq (sx_forT tg_name (fun ds k δ' => ds = [encL a, encL b] ∧ ∃ o, δ' = [.dat (.tuple [.str "minus", encL a, encL b]), .dat (.list ((if k = 0 then [] else if k = 1 then namesL a else namesL a ++ namesL b).map .str)), o]) (ex_slT (ex_var rfl (ox_some (ex_int ⟨_, rfl, ox_none ⟨_, rfl, not_whole3, _, rfl, ⟨rfl, _, rfl⟩, ?_, ?_⟩⟩)))))
      · rintro k d δ' hk ⟨_, o, rfl⟩
        have part : ∀ {l : Len} {acc : List Str} {R : Ends3}, l.deep < dep → (namesL l).length ≤ 1000 → acc.length ≤ 1000 → R.nx [.dat (.tuple [.str "minus", encL a, encL b]), .dat (.list ((acc ++ namesL l).map .str)), .dat (encL l)] → SX K (W0 E) (tIfS (tB (tCB (rIsiD K) (tCons (tOp (rIxT K) (tVar 2) (tC (.int 0))) (tCons (tC (.ty "str")) tNil)))) (tAsg (tOp (rCatL K) (tVar 1) (tCallG (spr__law_names K A dep) [] (fun σ => WE (fun cls d x H => E cls d H) σ) (tCons (tVar 2) tNil))) (gName 1)) tNext) [.dat (.tuple [.str "minus", encL a, encL b]), .dat (.list (acc.map .str)), .dat (encL l)] R := fun {l acc R} h1 h2 h3 q => by
          obtain ⟨y, r, e⟩ := enc_head l
          refine sx_if (tx_B (ex_CB (ax_cons (ex_op (ex_var rfl (ex_int ?_))))))
          rw [e]
          refine rx_ixT (atI_nat (j := 0) rfl) (ax_cons (ex_cv (ax_nil (vx_isi (kit_str _) ⟨_, rfl, fun _ => ?_, fun h => (Bool.false_ne_true h.symm).elim⟩))))
          rw [← e]
          refine sx_asg (ex_F (p := fun ds δ' => ds = (acc ++ namesL l).map .str ∧ δ' = [.dat (.tuple [.str "minus", encL a, encL b]), .dat (.list (acc.map .str)), .dat (encL l)]) (fx_op (ex_var rfl (ex_call (fun _ => .nil) (ax_cons (ex_var rfl (ax_nil ?_)))))) fun ds δ' ⟨e1, e2⟩ => ⟨_, rfl, by rw [e1, e2]; exact q⟩)
          refine ⟨[_], l, rfl, rfl, rfl, ⟨h1, h2⟩, fun r hr => ?_, fun C hC => hC.elim⟩
          subst hr
          exact ⟨_, rf_cat (by rw [List.length_map, List.length_map]; omega), by rw [List.map_append], rfl⟩
        match k, hk with
        | 0, hk =>
          cases hk
          exact ⟨trivial, part (by omega) (by omega) (Nat.zero_le _) ⟨rfl, _, rfl⟩⟩
        | 1, hk =>
          cases hk
          exact ⟨trivial, part (acc := namesL a) (by omega) (by omega) (by omega) ⟨rfl, _, rfl⟩⟩
        | k + 2, hk => cases hk
      · rintro δ' ⟨_, o, rfl⟩
        exact sx_ret (ex_var rfl ⟨_, rfl, rfl⟩)
abbrev sp__law_is_ratio (K : PySem.W.Frag) (A : Ad) : Sp := spD K 1 (fun d : PyData => [d]) (fun d => okR d ∧ okN d) (fun d r => r = .bool (isR d)) (fun _ _ => False)
theorem ok__law_is_ratio {P : Program} {w : World} {K : PySem.W.Frag} {mg : Str → Option Value} {base : Heap} {A : Ad} (T : Txt K mg A) (G_ratio : FnG P w K mg base 1 A.f_ratio A.d_ratio ["above", "below"] (sp_ratio K A)) :
    FnG P w K mg base 2 A.f__law_is_ratio A.d__law_is_ratio ["value"] (sp__law_is_ratio K A) := by
  refine fn_data T.F__law_is_ratio sc__law_is_ratio rfl fun cdv A' outer s H E hgd hr => ⟨_, (pss_cons (ps_if (PW.pt (pw_or (pt_not (pt_val (pe_callB (call_isiB (K := K) rfl) (by rfl) T.z_isinstance (by decide +kernel) (pa_cons (pv 0) (pa_cons (pe_bltn (v := .ty "tuple") (by rfl) T.z_tuple (by decide +kernel) rfl) pa_nil))))) (pw_or (pt_cmpR (op_neD hr.units) (pe_callB call_len_seq (by rfl) T.z_len (by decide +kernel) (pa_cons (pv 0) pa_nil)) pe_int (nomark _)) (pw_or1 (pt_cmpR (op_neD hr.units) (pe_lc (own := [("part", 1)]) (g := (gName 1)) (by rfl) sc__law_is_ratio.nd (pi_tup (pv 0)) (blkOk_by (own := [("part", 1)]) (N := ["value", "part"]) (sc := defScope s__law_is_ratio) (by decide +kernel)) (fun _ _ _ _ _ => (pg_name (i := 1) sc__law_is_ratio.nd rfl (.inl rfl))) (fun _ _ _ _ _ => (pts_one (PW.pt (pw_or (pt_val (pe_callB (call_isiB (K := K) rfl) (by rfl) T.z_isinstance (by decide +kernel) (pa_cons (pv 1) (pa_cons (pe_bltn (v := .ty "bool") (by rfl) T.z_bool (by decide +kernel) rfl) pa_nil)))) (pw_or1 (pt_not (pt_val (pe_callB (call_isiB (K := K) rfl) (by rfl) T.z_isinstance (by decide +kernel) (pa_cons (pv 1) (pa_cons (pe_bltn (v := .ty "int") (by rfl) T.z_int (by decide +kernel) rfl) pa_nil)))))))))) (fun _ _ _ _ _ => (pv 1))) (pe_lst pa_nil) (nomark _)))))) (pss_one (ps_ret pe_bl)) pss_nil)
  (pss_one (ps_ret (pe_and (pe_cmpR op_gt (pe_ix ix_tup (pv 0) pe_int (fun _ _ => rfl)) pe_int (nomark _)) (pe_one (pe_cmpR (op_eqD hr.units) (pe_G G_ratio hgd (hr.mono (by decide)) (by rfl) T.g_ratio T.k_ratio T.b_ratio .nil (fun σ => passAt (takes_of rfl rfl rfl rfl) σ) (pa_cons (pe_ix ix_tup (pv 0) pe_int (fun _ _ => rfl)) (pa_cons (pe_ix ix_tup (pv 0) pe_int (fun _ _ => rfl)) pa_nil))) (pv 0) (nomark _))))))), ?_⟩
  rintro d ⟨hd, hN⟩
  show SX K _ _ [.dat d, .no] _
  try dsimp only [bodyK] at *
  by_cases ht : ∃ ds, d = .tuple ds
  · obtain ⟨ds, rfl⟩ := ht
    have hsh : SeqAt.shaped (.tuple ds) = true := by
      cases hN with
      | any h1 _ _ _ => exact h1
    have hds : ∀ e ∈ ds, SeqAt.shaped e = true := fun e he => by
      cases hN with
      | any _ _ _ h4 =>
        cases h4 ds rfl e he with
        | any h1 _ _ _ => exact h1
    by_cases hl : ds.length = 2
    · obtain ⟨a, b, rfl⟩ : ∃ a b, ds = [a, b] := by
        match ds, hl with
        | [a, b], _ => exact ⟨a, b, rfl⟩
      have oth : ∀ {R : Ends3} {u : TS}, True := trivial
      refine sx_guard (!((isI a && !isB a) && (isI b && !isB b))) ?_ (fun h => ?_) (fun h => ?_)
      · refine tx_or (tx_not (tx_B (ex_CB (ax_cons (ex_var rfl (ax_cons (ex_cv (ax_nil (vx_isi (kit_tuple _) ⟨_, rfl, fun h => (Bool.false_ne_true h).elim, fun _ => ?_⟩)))))))))
        refine tx_or (tx_test (ex_op (ex_CB (ax_cons (ex_var rfl (ax_nil (vx_lenT (ex_int (rx_neD (shaped_int _) (shaped_int _) ⟨_, rfl, fun h => two_len h, fun _ => ?_⟩)))))))))
        refine tx_test (ex_op (ex_F (p := fun xs δ' => xs = [a, b].filter (fun e => isB e || !isI e) ∧ δ' = [.dat (.tuple [a, b]), .no]) ?_ ?_))
        · refine fx_lcT tgc_name (fun ds k acc δ' => ds = [a, b] ∧ acc = ([a, b].take k).filter (fun e => isB e || !isI e) ∧ δ' = [.dat (.tuple [a, b]), .no]) (ex_var rfl ⟨_, rfl, ?_, ⟨rfl, rfl, rfl⟩, ?_, ?_⟩)
          · intro i hi p es z
            have ei : i = 1 := by simpa using hi
            subst ei
            cases z
          · rintro k e acc δ' hk ⟨_, rfl, rfl⟩
            have hk2 := (List.getElem?_eq_some_iff.mp hk).1
            have hla : (([a, b].take k).filter (fun e => isB e || !isI e)).length < 1000000 := by
              have h1 := List.length_filter_le (fun e => isB e || !isI e) ([a, b].take k)
              have h2 : ([a, b].take k).length ≤ 2 := by rw [List.length_take]; exact Nat.min_le_right _ _
              omega
            have snoc : ([a, b].take (k + 1)).filter (fun e => isB e || !isI e) = ([a, b].take k).filter (fun e => isB e || !isI e) ++ (if (isB e || !isI e) = true then [e] else []) := by
              rw [List.take_add_one, hk, List.filter_append]
              congr 1
              cases h : (isB e || !isI e) <;> simp [h]
            refine ⟨trivial, tx_or (tx_B (ex_CB (ax_cons (ex_var rfl (ax_cons (ex_cv (ax_nil (vx_isi (kit_bool _) ⟨_, rfl, fun h => ?_, fun h => ?_⟩))))))))⟩
            · refine ⟨fun _ => ex_var rfl ⟨_, rfl, hla, rfl, ?_, rfl⟩, fun h => (Bool.false_ne_true h.symm).elim⟩
              rw [snoc, h]
              rfl
            · refine tx_not (tx_B (ex_CB (ax_cons (ex_var rfl (ax_cons (ex_cv (ax_nil (vx_isi (kit_int _) ⟨_, rfl, fun h2 => ?_, fun h2 => ?_⟩))))))))
              · refine ex_var rfl ⟨_, rfl, hla, rfl, ?_, rfl⟩
                rw [snoc, h, h2]
                rfl
              · refine ⟨rfl, ?_, rfl⟩
                rw [snoc, h, h2]
                simp
          · rintro acc δ' ⟨_, rfl, rfl⟩
            exact ⟨rfl, rfl⟩
        · rintro xs δ' ⟨rfl, rfl⟩
          refine ex_listL (ax_nil ⟨[], rfl, by decide, ?_⟩)
          refine rx_neD ?_ shaped_nil0 ⟨_, rfl, ?_, rfl⟩
          · exact shaped_list2 hsh
          · exact filter2 a b
      · repeat walk_at "m3"
        rw [Bool.not_eq_true', Bool.and_eq_false_iff] at h
        show _ = PyData.bool (isR _)
        rcases h with h | h
        · rw [not_whole_l h]
        · rw [not_whole_r h]
      · rw [Bool.not_eq_false', Bool.and_eq_true] at h
        obtain ⟨i, rfl⟩ := whole_int h.1
        obtain ⟨j, rfl⟩ := whole_int h.2
        have bi : Bd 9000 i := hd i (by simp)
        have bj : Bd 9000 j := hd j (by simp)
        refine sx_ret (ex_andV (ex_op (ex_op (ex_var rfl (ex_int (rx_ixT (atI_nat (j := 1) rfl) (ex_int (rx_ib ⟨_, rfl, fun h3 => ?_, fun h3 => ?_⟩))))))))
        · have j0 : 0 < j := of_decide_eq_true h3
          refine ex_op (ex_call (fun _ => .nil) (ax_cons (ex_op (ex_var rfl (ex_int (rx_ixT (atI_nat (j := 0) rfl) (ax_cons (ex_op (ex_var rfl (ex_int (rx_ixT (atI_nat (j := 1) rfl) (ax_nil ?_))))))))))))
          refine ⟨[_, _], (i, j), rfl, rfl, rfl, ⟨bi, bj⟩, fun r hr => ?_, fun C hC => ?_⟩
          · obtain ⟨_, rfl⟩ := hr
            refine ex_var rfl (rx_eqD (shaped_dR _) (shaped_ii i j) ⟨_, rfl, ?_⟩)
            exact congrArg PyData.bool (red_iff i j j0)
          · have : j = 0 := hC.1
            omega
        · have j0 : ¬ 0 < j := of_decide_eq_false h3
          refine ⟨_, rfl, ?_⟩
          show _ = PyData.bool (decide (1 ≤ j) && _)
          rw [decide_eq_false (by omega), Bool.false_and]
    · refine sx_guard true ?_ (fun _ => ?_) (fun h => by cases h)
      · refine tx_or (tx_not (tx_B (ex_CB (ax_cons (ex_var rfl (ax_cons (ex_cv (ax_nil (vx_isi (kit_tuple _) ⟨_, rfl, fun h => (Bool.false_ne_true h).elim, fun _ => ?_⟩)))))))))
        refine tx_or (tx_test (ex_op (ex_CB (ax_cons (ex_var rfl (ax_nil (vx_lenT (ex_int (rx_neD (shaped_int _) (shaped_int _) ⟨_, rfl, fun _ => ⟨rfl, rfl⟩, fun h => ?_⟩)))))))))
        rw [eqv_int, beq_eq_false_iff_ne.mpr (by omega)] at h
        cases h
      · repeat walk_at "m3"
        show _ = PyData.bool (isR _)
        match ds, hl with
        | [], _ => rfl
        | [x], _ => cases x <;> rfl
        | x :: y :: z :: t, _ => cases x <;> cases y <;> rfl
        | [a, b], h => exact absurd rfl h
  · have hT : M3.isT d = false := by
      cases d <;> first | rfl | exact absurd ⟨_, rfl⟩ ht
    have hR : isR d = false := by
      cases d <;> first | rfl | exact absurd ⟨_, rfl⟩ ht
    refine sx_guard true ?_ (fun _ => ?_) (fun h => by cases h)
    · refine tx_or (tx_not (tx_B (ex_CB (ax_cons (ex_var rfl (ax_cons (ex_cv (ax_nil (vx_isi (kit_tuple _) ⟨_, rfl, fun _ => ⟨rfl, rfl⟩, fun h => ?_⟩)))))))))
      rw [hT] at h
      cases h
    · repeat walk_at "m3"
      show _ = PyData.bool (isR _)
      rw [hR]
abbrev spr__law_is_right (K : PySem.W.Frag) (A : Ad) (dep : Nat) : Sp := spD K 2 (fun p : PyData × Nat => [p.1, .int p.2]) (fun p => p.2 < dep ∧ okN p.1) (fun p r => r = .bool (rightV p.2 p.1)) (fun _ _ => False)
abbrev sp__law_is_right (K : PySem.W.Frag) (A : Ad) : Sp := spr__law_is_right K A 9
theorem okr__law_is_right {P : Program} {w : World} {K : PySem.W.Frag} {mg : Str → Option Value} {base : Heap} {A : Ad} (T : Txt K mg A) (G__law_is_ratio : FnG P w K mg base 2 A.f__law_is_ratio A.d__law_is_ratio ["value"] (sp__law_is_ratio K A)) :
    ∀ dep : Nat, FnG P w K mg base (2 + dep) A.f__law_is_right A.d__law_is_right ["value", "depth"] (spr__law_is_right K A dep)
  | 0 => fn_void (by simp)
  | dep + 1 => by
    have G__law_is_right := okr__law_is_right (P := P) (w := w) (base := base) T G__law_is_ratio dep
    show FnG P w K mg base ((2 + dep) + 1) A.f__law_is_right A.d__law_is_right ["value", "depth"] (spr__law_is_right K A (dep + 1))
    refine fn_data T.F__law_is_right sc__law_is_right rfl fun cdv A' outer s H E hgd hr => ⟨_, (pss_cons (ps_if (PW.pt (pw_or (pt_cmpR (op_eqD hr.units) (pv 1) pe_int (nomark _)) (pw_or (pt_not (pt_val (pe_callB (call_isiB (K := K) rfl) (by rfl) T.z_isinstance (by decide +kernel) (pa_cons (pv 0) (pa_cons (pe_bltn (v := .ty "tuple") (by rfl) T.z_tuple (by decide +kernel) rfl) pa_nil))))) (pw_or (pt_cmpR op_lt (pe_callB call_len_seq (by rfl) T.z_len (by decide +kernel) (pa_cons (pv 0) pa_nil)) pe_int (nomark _)) (pw_or1 (pt_not (pt_val (pe_callB (call_isiB (K := K) rfl) (by rfl) T.z_isinstance (by decide +kernel) (pa_cons (pe_ix ix_tup (pv 0) pe_int (fun _ _ => rfl)) (pa_cons (pe_bltn (v := .ty "str") (by rfl) T.z_str (by decide +kernel) rfl) pa_nil)))))))))) (pss_one (ps_ret pe_bl)) pss_nil)
  (pss_cons (ps_if (pt_cmpR (op_eqD hr.units) (pe_ix ix_tup (pv 0) pe_int (fun _ _ => rfl)) pe_str (nomark _)) (pss_one (ps_ret (pe_and (pe_cmpR (op_eqD hr.units) (pe_callB call_len_seq (by rfl) T.z_len (by decide +kernel) (pa_cons (pv 0) pa_nil)) pe_int (nomark _)) (pe_one (pe_G G__law_is_ratio hgd (hr.mono (by omega)) (by rfl) T.g__law_is_ratio T.k__law_is_ratio T.b__law_is_ratio .nil (fun σ => passAt (takes_of rfl rfl rfl rfl) σ) (pa_cons (pe_ix ix_tup (pv 0) pe_int (fun _ _ => rfl)) pa_nil)))))) pss_nil)
  (pss_cons (ps_if (pt_cmpR (op_eqD hr.units) (pe_ix ix_tup (pv 0) pe_int (fun _ _ => rfl)) pe_str (nomark _)) (pss_one (ps_ret (pe_and (pe_cmpR (op_eqD hr.units) (pe_callB call_len_seq (by rfl) T.z_len (by decide +kernel) (pa_cons (pv 0) pa_nil)) pe_int (nomark _)) (pe_and (pe_callB (call_isiB (K := K) rfl) (by rfl) T.z_isinstance (by decide +kernel) (pa_cons (pe_ix ix_tup (pv 0) pe_int (fun _ _ => rfl)) (pa_cons (pe_bltn (v := .ty "str") (by rfl) T.z_str (by decide +kernel) rfl) pa_nil))) (pe_one (pe_cmpR (op_inD (units65 hr)) (pe_ix ix_tup (pv 0) pe_int (fun _ _ => rfl)) (pe_lst (pa_cons pe_str (pa_cons pe_str (pa_cons pe_str (pa_cons pe_str (pa_cons pe_str (pa_cons pe_str (pa_cons pe_str pa_nil)))))))) rfl)))))) pss_nil)
  (pss_cons (ps_if (PW.pt (pw_or (pt_cmpR (op_neD hr.units) (pe_callB call_len_seq (by rfl) T.z_len (by decide +kernel) (pa_cons (pv 0) pa_nil)) pe_int (nomark _)) (pw_or1 (pt_cmpR (op_notInD (units65 hr)) (pe_ix ix_tup (pv 0) pe_int (fun _ _ => rfl)) (pe_lst (pa_cons pe_str (pa_cons pe_str (pa_cons pe_str pa_nil)))) rfl)))) (pss_one (ps_ret pe_bl)) pss_nil)
  (pss_cons (ps_if (pt_cmpR (op_eqD hr.units) (pe_ix ix_tup (pv 0) pe_int (fun _ _ => rfl)) pe_str (nomark _)) (pss_one (ps_ret (pe_and (pe_G G__law_is_ratio hgd (hr.mono (by omega)) (by rfl) T.g__law_is_ratio T.k__law_is_ratio T.b__law_is_ratio .nil (fun σ => passAt (takes_of rfl rfl rfl rfl) σ) (pa_cons (pe_ix ix_tup (pv 0) pe_int (fun _ _ => rfl)) pa_nil)) (pe_one (pe_G G__law_is_right hgd (hr.mono (by omega)) (by rfl) T.g__law_is_right T.k__law_is_right T.b__law_is_right .nil (fun σ => passAt (takes_of rfl rfl rfl rfl) σ) (pa_cons (pe_ix ix_tup (pv 0) pe_int (fun _ _ => rfl)) (pa_cons (pe_op op_sub (pv 1) pe_int) pa_nil))))))) pss_nil)
  (pss_one (ps_ret (pe_and (pe_G G__law_is_right hgd (hr.mono (by omega)) (by rfl) T.g__law_is_right T.k__law_is_right T.b__law_is_right .nil (fun σ => passAt (takes_of rfl rfl rfl rfl) σ) (pa_cons (pe_ix ix_tup (pv 0) pe_int (fun _ _ => rfl)) (pa_cons (pe_op op_sub (pv 1) pe_int) pa_nil))) (pe_one (pe_G G__law_is_right hgd (hr.mono (by omega)) (by rfl) T.g__law_is_right T.k__law_is_right T.b__law_is_right .nil (fun σ => passAt (takes_of rfl rfl rfl rfl) σ) (pa_cons (pe_ix ix_tup (pv 0) pe_int (fun _ _ => rfl)) (pa_cons (pe_op op_sub (pv 1) pe_int) pa_nil)))))))))))), ?_⟩
    rintro ⟨v, n⟩ ⟨hn, hv⟩
    show SX K _ _ [.dat v, .dat (.int n)] _
    try dsimp only [bodyK] at *
    have hn : n < dep + 1 := hn
    have d0 : ∀ n : Nat, PyData.eqv (.int (n : Int)) (.int 0) = decide (n = 0) := fun n => by
      rw [eqv_int]
      exact decide_eq_decide.mpr (by omega)
    by_cases hgo : ∃ k w p rest, n = k + 1 ∧ v = .tuple (.str w :: p :: rest)
    · obtain ⟨k, w, p, rest, rfl, rfl⟩ := hgo
      refine sx_guard false ?_ (fun h => by cases h) (fun _ => ?_)
      · refine tx_or (tx_test (ex_op (ex_var rfl (ex_int (rx_eqD (shaped_int _) (shaped_int _) ⟨_, rfl, fun h => ?_, fun _ => ?_⟩)))))
        · rw [d0] at h
          cases h
        refine tx_or (tx_not (tx_B (ex_CB (ax_cons (ex_var rfl (ax_cons (ex_cv (ax_nil (vx_isi (kit_tuple _) ⟨_, rfl, fun h => (Bool.false_ne_true h).elim, fun _ => ?_⟩)))))))))
        refine tx_or (tx_test (ex_op (ex_CB (ax_cons (ex_var rfl (ax_nil (vx_lenT (ex_int (rx_ib ⟨_, rfl, fun h => ?_, fun _ => ?_⟩)))))))))
        · have := of_decide_eq_true h
          simp at this
          omega
        refine tx_not (tx_B (ex_CB (ax_cons (ex_op (ex_var rfl (ex_int (rx_ixT (atI_nat (j := 0) rfl) (ax_cons (ex_cv (ax_nil (vx_isi (kit_str _) ⟨_, rfl, rfl, rfl⟩)))))))))))
      have okP : okN p := by
        cases hv with
        | any _ _ _ h4 => exact h4 _ rfl p (by simp)
      have shW : SeqAt.shaped (.str w) = true := by
        cases hv with
        | any _ _ _ h4 =>
          cases h4 _ rfl (.str w) (by simp) with
          | any h1 _ _ _ => exact h1
      have shP : SeqAt.shaped p = true := by
        cases okP with
        | any h1 _ _ _ => exact h1
      have okRP : okR p := by
        cases okP with
        | any _ h2 _ _ => exact h2
      have word : ∀ {x : Str} {t u : TS} {R : Ends3}, SeqAt.shaped (.str x) = true → (eqS (.str w) x = true → SX K (W0 E) t [.dat (.tuple (.str w :: p :: rest)), .dat (.int (k + 1 : Nat))] (R.nxt fun δ' => SX K (W0 E) u δ' R)) → (eqS (.str w) x = false → SX K (W0 E) u [.dat (.tuple (.str w :: p :: rest)), .dat (.int (k + 1 : Nat))] R) → SX K (W0 E) (tSeq (tIfS (tTest (tOp (rEqD K) (tOp (rIxT K) (tVar 0) (tC (.int 0))) (tC (.str x)))) t tNext) u) [.dat (.tuple (.str w :: p :: rest)), .dat (.int (k + 1 : Nat))] R := fun hx q1 q2 => by
        refine sx_guard _ (tx_test (ex_op (ex_op (ex_var rfl (ex_int (rx_ixT (atI_nat (j := 0) rfl) (ex_str (rx_eqD shW hx ⟨_, rfl, rfl, rfl⟩)))))))) q1 q2
      have len2 : ∀ m : Nat, PyData.eqv (.int (((PyData.str w :: p :: rest).length : Nat) : Int)) (.int (m : Nat)) = decide (rest.length + 2 = m) := fun m => by
        rw [eqv_int]
        exact decide_eq_decide.mpr (by simp; omega)
      have unf := right_unf k w p rest
      refine word shaped_s1 (fun h => ?_) (fun h1 => ?_)
      · rw [if_pos h] at unf
        refine sx_ret (ex_andV (ex_op (ex_CB (ax_cons (ex_var rfl (ax_nil (vx_lenT (ex_int (rx_eqD (shaped_int _) (shaped_int _) ⟨_, rfl, fun h2 => ?_, fun h2 => ?_⟩)))))))))
        · have h2 := (len2 2).symm.trans h2
          refine ex_call (fun _ => .nil) (ax_cons (ex_op (ex_var rfl (ex_int (rx_ixT (atI_nat (j := 1) rfl) (ax_nil ?_))))))
          refine ⟨[_], p, rfl, rfl, rfl, ⟨okRP, okP⟩, fun r hr => ⟨_, rfl, ?_⟩, fun C hC => hC.elim⟩
          show r = PyData.bool (rightV (k + 1) _)
          rw [unf, h2, Bool.true_and]
          exact hr
        · have h2 := (len2 2).symm.trans h2
          refine ⟨_, rfl, ?_⟩
          show _ = PyData.bool (rightV (k + 1) _)
          rw [unf, h2, Bool.false_and]
      rw [if_neg (by rw [h1]; simp)] at unf
      refine word shaped_s2 (fun h => ?_) (fun h2 => ?_)
      · rw [if_pos h] at unf
        refine sx_ret (ex_andV (ex_op (ex_CB (ax_cons (ex_var rfl (ax_nil (vx_lenT (ex_int (rx_eqD (shaped_int _) (shaped_int _) ⟨_, rfl, fun h2 => ?_, fun h2 => ?_⟩)))))))))
        · have h2 := (len2 2).symm.trans h2
          refine ex_andV (ex_CB (ax_cons (ex_op (ex_var rfl (ex_int (rx_ixT (atI_nat (j := 1) rfl) (ax_cons (ex_cv (ax_nil (vx_isi (kit_str _) ⟨_, rfl, fun h3 => ?_, fun h3 => ?_⟩))))))))))
          · refine ex_op (ex_op (ex_var rfl (ex_int (rx_ixT (atI_nat (j := 1) rfl) (ex_listL ?_)))))
            repeat walk_at "m3e"
            refine ⟨[_, _, _, _, _, _, _], rfl, Nat.le_of_ble_eq_true rfl, rx_inL shP shaped_good ⟨_, rfl, ?_⟩⟩
            show _ = PyData.bool (rightV (k + 1) _)
            rw [unf, h2, h3, Bool.true_and, Bool.true_and]
            rfl
          · refine ⟨_, rfl, ?_⟩
            show _ = PyData.bool (rightV (k + 1) _)
            rw [unf, h2, h3, Bool.true_and, Bool.false_and]
        · have h2 := (len2 2).symm.trans h2
          refine ⟨_, rfl, ?_⟩
          show _ = PyData.bool (rightV (k + 1) _)
          rw [unf, h2, Bool.false_and]
      rw [if_neg (by rw [h2]; simp)] at unf
      refine sx_guard (!decide (rest.length + 2 = 3) || !(opWords.any fun z => PyData.eqv z (.str w))) ?_ (fun h3 => ?_) (fun h3 => ?_)
      · refine tx_or (tx_test (ex_op (ex_CB (ax_cons (ex_var rfl (ax_nil (vx_lenT (ex_int (rx_neD (shaped_int _) (shaped_int _) ⟨_, rfl, fun h => ?_, fun h => ?_⟩)))))))))
        · have h := (congrArg (fun z => !z) (len2 3)).symm.trans h
          rw [h]
          exact ⟨rfl, rfl⟩
        · have h := (congrArg (fun z => !z) (len2 3)).symm.trans h
          rw [h, Bool.false_or]
          refine tx_test (ex_op (ex_op (ex_var rfl (ex_int (rx_ixT (atI_nat (j := 0) rfl) (ex_listL ?_))))))
          repeat walk_at "m3e"
          exact rx_notInL shW shaped_ops ⟨_, rfl, rfl, rfl⟩
      · refine sx_ret (ex_bl ⟨_, rfl, ?_⟩)
        show _ = PyData.bool (rightV (k + 1) _)
        rw [unf]
        match rest, h3 with
        | [], _ => rfl
        | [o], h3 =>
          have h4 : (opWords.any fun z => PyData.eqv z (.str w)) = false := by simpa using h3
          show _ = PyData.bool (if _ = true then _ else false)
          rw [h4]
          rfl
        | _ :: _ :: _, _ => rfl
      rw [Bool.or_eq_false_iff, Bool.not_eq_false', Bool.not_eq_false', decide_eq_true_eq] at h3
      obtain ⟨o, rfl⟩ : ∃ o, rest = [o] := by
        match rest, h3.1 with
        | [o], _ => exact ⟨o, rfl⟩
      have okO : okN o := by
        cases hv with
        | any _ _ _ h4 => exact h4 _ rfl o (by simp)
      have unf : rightV (k + 1) (.tuple [.str w, p, o]) = (if eqS (.str w) "times" = true then isR p && rightV k o else rightV k p && rightV k o) := by
        rw [unf]
        show (if _ = true then _ else false) = _
        rw [if_pos h3.2]
      have sub : ((k + 1 : Nat) : Int) - 1 = (k : Int) := by omega
      refine word shaped_s3 (fun h => ?_) (fun h => ?_)
      · rw [if_pos h] at unf
        refine sx_ret (ex_andV (ex_call (fun _ => .nil) (ax_cons (ex_op (ex_var rfl (ex_int (rx_ixT (atI_nat (j := 1) rfl) (ax_nil ?_))))))))
        refine ⟨[_], p, rfl, rfl, rfl, ⟨okRP, okP⟩, fun r hr => ⟨_, congrArg Vw.d hr, fun h5 => ?_, fun h5 => ?_⟩, fun C hC => hC.elim⟩
        · refine ex_call (fun _ => .nil) (ax_cons (ex_op (ex_var rfl (ex_int (rx_ixT (atI_nat (j := 2) rfl) (ax_cons (ex_op (ex_var rfl (ex_int (rx_ii (ax_nil ?_)))))))))))
          refine ⟨[_, _], (o, k), by rw [sub]; rfl, rfl, rfl, ⟨by show k < dep; omega, okO⟩, fun r hr => ⟨_, rfl, ?_⟩, fun C hC => hC.elim⟩
          show r = PyData.bool (rightV (k + 1) _)
          rw [unf, h5, Bool.true_and]
          exact hr
        · refine ⟨_, rfl, ?_⟩
          show _ = PyData.bool (rightV (k + 1) _)
          rw [unf, h5, Bool.false_and]
      · rw [if_neg (by rw [h]; simp)] at unf
        refine sx_ret (ex_andV (ex_call (fun _ => .nil) (ax_cons (ex_op (ex_var rfl (ex_int (rx_ixT (atI_nat (j := 1) rfl) (ax_cons (ex_op (ex_var rfl (ex_int (rx_ii (ax_nil ?_)))))))))))))
        refine ⟨[_, _], (p, k), by rw [sub]; rfl, rfl, rfl, ⟨by show k < dep; omega, okP⟩, fun r hr => ⟨_, congrArg Vw.d hr, fun h5 => ?_, fun h5 => ?_⟩, fun C hC => hC.elim⟩
        · refine ex_call (fun _ => .nil) (ax_cons (ex_op (ex_var rfl (ex_int (rx_ixT (atI_nat (j := 2) rfl) (ax_cons (ex_op (ex_var rfl (ex_int (rx_ii (ax_nil ?_)))))))))))
          refine ⟨[_, _], (o, k), by rw [sub]; rfl, rfl, rfl, ⟨by show k < dep; omega, okO⟩, fun r hr => ⟨_, rfl, ?_⟩, fun C hC => hC.elim⟩
          show r = PyData.bool (rightV (k + 1) _)
          rw [unf, h5, Bool.true_and]
          exact hr
        · refine ⟨_, rfl, ?_⟩
          show _ = PyData.bool (rightV (k + 1) _)
          rw [unf, h5, Bool.false_and]
    · have hR : rightV n v = false := right_other hgo
      refine sx_guard true ?_ (fun _ => sx_ret (ex_bl ⟨_, rfl, by show _ = PyData.bool (rightV n v); rw [hR]⟩)) (fun h => by cases h)
      refine tx_or (tx_test (ex_op (ex_var rfl (ex_int (rx_eqD (shaped_int _) (shaped_int _) ⟨_, rfl, fun h => ⟨rfl, rfl⟩, fun h => ?_⟩)))))
      have n0 : n ≠ 0 := fun z => by
        have := (d0 n).symm.trans h
        rw [z] at this
        cases this
      obtain ⟨k, rfl⟩ : ∃ k, n = k + 1 := ⟨n - 1, by omega⟩
      refine tx_or (tx_not (tx_B (ex_CB (ax_cons (ex_var rfl (ax_cons (ex_cv (ax_nil (vx_isi (kit_tuple _) ⟨_, rfl, fun _ => ⟨rfl, rfl⟩, fun h => ?_⟩)))))))))
      obtain ⟨ds, rfl⟩ : ∃ ds, v = .tuple ds := by
        cases v with
        | tuple ds => exact ⟨ds, rfl⟩
        | _ => simp [M3.isT] at h
      refine tx_or (tx_test (ex_op (ex_CB (ax_cons (ex_var rfl (ax_nil (vx_lenT (ex_int (rx_ib ⟨_, rfl, fun _ => ⟨rfl, rfl⟩, fun h => ?_⟩)))))))))
      have h := of_decide_eq_false h
      obtain ⟨x, p, rest, rfl⟩ : ∃ x p rest, ds = x :: p :: rest := by
        match ds, h with
        | [], h => exact absurd (by decide) h
        | [x], h => exact absurd (show ((1 : Nat) : Int) < 2 by decide) h
        | x :: p :: rest, _ => exact ⟨x, p, rest, rfl⟩
      refine tx_not (tx_B (ex_CB (ax_cons (ex_op (ex_var rfl (ex_int (rx_ixT (atI_nat (j := 0) rfl) (ax_cons (ex_cv (ax_nil (vx_isi (kit_str _) ⟨_, rfl, ?_, rfl⟩)))))))))))
      cases x with
      | str w => exact absurd ⟨k, w, p, rest, rfl, rfl⟩ hgo
      | _ => rfl
abbrev sp__law_draws (K : PySem.W.Frag) (A : Ad) : Sp := spF K 1 (fun ns : List Int => [.list (ns.map .int)]) (fun ns => ns.length ≤ 63) (fun _ ds => Drw ds)
theorem ok__law_draws {P : Program} {w : World} {K : PySem.W.Frag} {mg : Str → Option Value} {base : Heap} {A : Ad} (T : Txt K mg A)  :
    FnG P w K mg base 1 A.f__law_draws A.d__law_draws ["script"] (sp__law_draws K A) := by
  refine fn_fresh T.F__law_draws sc__law_draws rfl fun cdv A' outer s H E hgd hr => ⟨_, (pss_cons (ps_set (i := 1) sc__law_draws.nd rfl (.inl rfl) (pe_lst pa_nil))
  (pss_cons (ps_for (passes_of rfl) rfl (pi_list (pv 0)) (pg_name (i := 2) sc__law_draws.nd rfl (.inl rfl)) (pss_cons (ps_set (i := 3) sc__law_draws.nd rfl (.inl rfl) (pe_callB call_abs (by rfl) T.z_abs (by decide +kernel) (pa_cons (pv 2) pa_nil)))
  (pss_cons (ps_if (pt_cmpR op_lt (pv 3) (pe_op op_pow pe_int pe_int) (nomark _)) (pss_cons (ps_set (i := 4) sc__law_draws.nd rfl (.inl rfl) (pe_op op_modN (pe_callTy call_int1 (by rfl) T.z_int (by decide +kernel) (pa_cons (pe_op op_add (pe_op op_mulA (pv 3) pe_int) pe_int) pa_nil)) pe_int))
  (pss_cons (ps_expr (pe_bm PySem.F.plainAttrs_list PySem.F.slot_list_append PySem.F.type_list_append mt_append (pv 1) (pa_cons (pe_op op_modN (pe_callTy call_int1 (by rfl) T.z_int (by decide +kernel) (pa_cons (pe_op op_add (pe_op op_mulA (pv 4) pe_int) (pv 3)) pa_nil)) pe_int) pa_nil)))
  (pss_cons (ps_expr (pe_bm PySem.F.plainAttrs_list PySem.F.slot_list_append PySem.F.type_list_append mt_append (pv 1) (pa_cons (pe_op op_modN (pe_callTy call_int1 (by rfl) T.z_int (by decide +kernel) (pa_cons (pe_op op_add (pv 4) (pe_op op_fdX (pv 3) pe_int)) pa_nil)) pe_int) pa_nil)))
  (pss_one (ps_set (i := 3) sc__law_draws.nd rfl (.inl rfl) pe_int))))) pss_nil)
  (pss_one (ps_for (passes_of rfl) rfl (pi_range1 (by rfl) T.z_range (pa_cons pe_int pa_nil)) (pg_name (i := 5) sc__law_draws.nd rfl (.inl rfl)) (pss_one (ps_if (pt_cmpR op_gt (pv 3) pe_int (nomark _)) (pss_cons (ps_expr (pe_bm PySem.F.plainAttrs_list PySem.F.slot_list_append PySem.F.type_list_append mt_append (pv 1) (pa_cons (pe_op op_modN (pe_callTy call_int1 (by rfl) T.z_int (by decide +kernel) (pa_cons (pv 3) pa_nil)) pe_int) pa_nil)))
  (pss_one (ps_set (i := 3) sc__law_draws.nd rfl (.inl rfl) (pe_op op_fdX (pv 3) pe_int)))) pss_nil)))))))
  (pss_cons (ps_set (i := 6) sc__law_draws.nd rfl (.inl rfl) pe_int)
  (pss_cons (ps_if (pt_cmpR op_gt (pe_callB call_len_seq (by rfl) T.z_len (by decide +kernel) (pa_cons (pv 0) pa_nil)) pe_int (nomark _)) (pss_one (ps_set (i := 6) sc__law_draws.nd rfl (.inl rfl) (pe_op op_add pe_int (pe_callB call_abs (by rfl) T.z_abs (by decide +kernel) (pa_cons (pe_ix ix_list (pv 0) pe_int (fun _ _ => rfl)) pa_nil))))) pss_nil)
  (pss_cons (ps_for (passes_of rfl) rfl (pi_range1 (by rfl) T.z_range (pa_cons pe_int pa_nil)) (pg_name (i := 5) sc__law_draws.nd rfl (.inl rfl)) (pss_cons (ps_set (i := 6) sc__law_draws.nd rfl (.inl rfl) (pe_op op_modN (pe_callTy call_int1 (by rfl) T.z_int (by decide +kernel) (pa_cons (pe_op op_add (pe_op op_mulA (pv 6) pe_int) pe_int) pa_nil)) pe_int))
  (pss_one (ps_expr (pe_bm PySem.F.plainAttrs_list PySem.F.slot_list_append PySem.F.type_list_append mt_append (pv 1) (pa_cons (pe_op op_fdX (pv 6) pe_int) pa_nil))))))
  (pss_one (ps_ret (pe_listRev rfl (by rfl) T.z_list (by rfl) T.z_reversed (pv 1))))))))), ?_⟩
  intro ns hl
  show SX K _ _ [.dat (.list (ns.map .int)), .no, .no, .no, .no, .no, .no] _
  try dsimp only [bodyK] at *
  refine sx_seq (sx_asgF (fx_lst (ax_nil ⟨[], rfl, by decide, fun p => ?_⟩)))
  dsimp only [List.set_cons_zero, List.set_cons_succ]
  -- for cell in script
  refine sx_cut (fun δ' => ∃ (L : List Int) (a b c d e : Sl), (∀ x ∈ L, 0 ≤ x ∧ x < 2147483648) ∧ L.length ≤ 5000 ∧ δ' = [.dat (.list (ns.map .int)), .ml p (L.map .int), a, b, c, d, e]) ?_ ?_
  · refine sx_forL tg_name (fun ds k δ' => ∃ (L : List Int) (a b c d e : Sl), (∀ x ∈ L, 0 ≤ x ∧ x < 2147483648) ∧ L.length ≤ 62 * k ∧ δ' = [.dat (.list (ns.map .int)), .ml p (L.map .int), a, b, c, d, e]) ?_
    refine ex_var rfl ⟨_, rfl, ⟨[], .no, .no, .no, .no, .no, (fun _ h => nomatch h), by simp, rfl⟩, ?_, ?_⟩
    · rintro k x δ' hk ⟨L, a, b, c, d, e, hL, hn, rfl⟩
      obtain ⟨i, hi⟩ : ∃ i, x = .int i := by
        rw [List.getElem?_map] at hk
        cases hn : ns[k]? with
        | none => rw [hn] at hk; cases hk
        | some i => rw [hn] at hk; exact ⟨i, (Option.some.inj hk).symm⟩
      subst hi
      have hkl : k < ns.length := by
        have := (List.getElem?_eq_some_iff.mp hk).1
        simpa using this
      refine ⟨trivial, ?_⟩
      dsimp only [List.set_cons_zero, List.set_cons_succ]
      refine sx_seq (sx_asg ?_)
      repeat walk_at "m3e"
      dsimp only [List.set_cons_zero, List.set_cons_succ]
      generalize hz : (if i < 0 then -i else i) = z
      have z0 : 0 ≤ z := by omega
      refine sx_cut (fun δ' => ∃ (L : List Int) (y : Int) (c d e : Sl), (∀ x ∈ L, 0 ≤ x ∧ x < 2147483648) ∧ L.length ≤ 62 * k + 2 ∧ 0 ≤ y ∧ δ' = [.dat (.list (ns.map .int)), .ml p (L.map .int), .dat (.int i), .dat (.int y), c, d, e]) ?_ ?_
      · refine sx_if ?_
        repeat walk_at "m3e"
        refine rx_Ci ⟨by decide, by decide, by decide⟩ ?_
        repeat walk_at "m3e"
        refine ⟨fun h => ?_, fun h => ?_⟩
        · repeat walk_at "m3"
          refine rx_Ci (mulS (by decide) (by decide)) ?_
          repeat walk_at "m3"
          refine rx_Ci (by decide) ?_
          repeat walk_at "m3e"
          dsimp only [List.set_cons_zero, List.set_cons_succ]
          generalize hy : (z * 48271 + 11).fmod 2147483647 = y
          have y1 : 0 ≤ y ∧ y < 2147483647 := hy ▸ fmod_in (by decide)
          refine sx_seq (sx_drop (ex_append (i := 1) ?_ ⟨_, _, rfl⟩))
          repeat walk_at "m3"
          refine rx_Ci (mulS (by decide) (by decide)) ?_
          repeat walk_at "m3"
          refine rx_Ci (by decide) ?_
          refine ⟨_, p, _, rfl, rfl, by rw [List.length_map]; omega, ?_⟩
          dsimp only [List.set_cons_zero, List.set_cons_succ]
          have y2 := fmod_in (i := y * 69621 + z) (j := 2147483629) (by decide)
          have y3 := fmod_in (i := y + z.fdiv 7) (j := 1000003) (by decide)
          refine sx_seq (sx_drop (ex_append (i := 1) ?_ ⟨_, _, rfl⟩))
          repeat walk_at "m3"
          refine rx_Ci ⟨by decide, by decide⟩ ?_
          repeat walk_at "m3"
          refine rx_Ci (by decide) ?_
          refine ⟨_, p, _, rfl, rfl, by simp; omega, ?_⟩
          dsimp only [List.set_cons_zero, List.set_cons_succ]
          rw [map_snoc, map_snoc]
          repeat walk_at "m3"
          refine ⟨L ++ [_] ++ [_], 0, _, d, e, in_snoc (in_snoc hL ⟨y2.1, by omega⟩) ⟨y3.1, by omega⟩, by simp; omega, by decide, rfl⟩
        · repeat walk_at "m3"
          exact ⟨L, z, c, d, e, hL, by omega, z0, rfl⟩
      · rintro δ' ⟨L, y, c, d, e, hL, hn, hy, rfl⟩
        refine sx_forR1 tg_name (fun j δ' => ∃ (L : List Int) (y : Int) (c d e : Sl), (∀ x ∈ L, 0 ≤ x ∧ x < 2147483648) ∧ L.length ≤ 62 * k + 2 + j ∧ 0 ≤ y ∧ δ' = [.dat (.list (ns.map .int)), .ml p (L.map .int), .dat (.int i), .dat (.int y), c, d, e]) ?_
        repeat walk_at "m3"
        refine ⟨by decide, ⟨L, y, c, d, e, hL, by omega, hy, rfl⟩, ?_, ?_⟩
        · rintro j x δ' hj ⟨L, y, c, d, e, hL, hn, hy, rfl⟩
          obtain ⟨hj2, rfl⟩ := rangeD_at hj
          refine ⟨trivial, ?_⟩
          dsimp only [List.set_cons_zero, List.set_cons_succ]
          refine sx_if ?_
          repeat walk_at "m3"
          refine ⟨fun h => ?_, fun h => ?_⟩
          · refine sx_seq (sx_drop (ex_append (i := 1) ?_ ⟨_, _, rfl⟩))
            repeat walk_at "m3"
            refine rx_Ci (by decide) ?_
            refine ⟨_, p, _, rfl, rfl, by rw [List.length_map]; omega, ?_⟩
            dsimp only [List.set_cons_zero, List.set_cons_succ]
            rw [map_snoc]
            have y1 := fmod_in (i := y) (j := 997) (by decide)
            repeat walk_at "m3"
            refine rx_Ci ⟨by decide, by decide⟩ ⟨_, rfl, ?_⟩
            dsimp only [List.set_cons_zero, List.set_cons_succ]
            refine ⟨L ++ [_], _, c, _, e, in_snoc hL ⟨y1.1, by omega⟩, by simp; omega, ?_, rfl⟩
            exact Int.fdiv_nonneg hy (by decide)
          · repeat walk_at "m3"
            exact ⟨L, y, c, _, e, hL, by omega, hy, rfl⟩
        · rintro δ' ⟨L, y, c, d, e, hL, hn, hy, rfl⟩
          have e60 : (rangeD 0 (60 : Int).toNat).length = 60 := by simp [rangeD]
          rw [e60] at hn
          exact ⟨L, _, _, c, d, e, hL, by omega, rfl⟩
    · rintro δ' ⟨L, a, b, c, d, e, hL, hn, rfl⟩
      exact ⟨L, a, b, c, d, e, hL, by rw [List.length_map] at hn; omega, rfl⟩
  · rintro δ' ⟨L, a, b, c, d, e, hL, hn, rfl⟩
    refine sx_seq (sx_asg ?_)
    repeat walk_at "m3e"
    dsimp only [List.set_cons_zero, List.set_cons_succ]
    refine sx_cut (fun δ' => ∃ (y : Int), δ' = [.dat (.list (ns.map .int)), .ml p (L.map .int), a, b, c, d, .dat (.int y)]) ?_ ?_
    · refine sx_if ?_
      repeat walk_at "m3"
      refine ⟨fun h => ?_, fun h => ?_⟩
      · have h1 : 0 < ns.length := by have := of_decide_eq_true h; simp at this; omega
        obtain ⟨n0, r, rfl⟩ : ∃ n0 r, ns = n0 :: r := by
          cases ns with
          | nil => cases h1
          | cons n0 r => exact ⟨n0, r, rfl⟩
        repeat walk_at "m3"
        refine rx_ixL (atI_nat (j := 0) rfl) ?_
        repeat walk_at "m3"
        exact ⟨_, rfl⟩
      · repeat walk_at "m3"
        exact ⟨_, rfl⟩
    · rintro δ' ⟨y, rfl⟩
      refine sx_cut (fun δ' => ∃ (L : List Int) (d e : Sl), (∀ x ∈ L, 0 ≤ x ∧ x < 2147483648) ∧ δ' = [.dat (.list (ns.map .int)), .ml p (L.map .int), a, b, c, d, e]) ?_ ?_
      · refine sx_forR1 tg_name (fun j δ' => ∃ (L : List Int) (y : Int) (d : Sl), (∀ x ∈ L, 0 ≤ x ∧ x < 2147483648) ∧ L.length ≤ 5000 + j ∧ δ' = [.dat (.list (ns.map .int)), .ml p (L.map .int), a, b, c, d, .dat (.int y)]) ?_
        repeat walk_at "m3"
        refine ⟨by decide, ⟨L, y, d, hL, by omega, rfl⟩, ?_, ?_⟩
        · rintro j x δ' hj ⟨L, y, d, hL, hn, rfl⟩
          obtain ⟨hj2, rfl⟩ := rangeD_at hj
          refine ⟨trivial, ?_⟩
          dsimp only [List.set_cons_zero, List.set_cons_succ]
          repeat walk_at "m3"
          refine rx_Ci (mulS (by decide) (by decide)) ?_
          repeat walk_at "m3"
          refine rx_Ci (by decide) ⟨_, rfl, ?_⟩
          dsimp only [List.set_cons_zero, List.set_cons_succ]
          generalize hy : (y * 48271 + 69621).fmod 2147483647 = z
          have z1 : 0 ≤ z ∧ z < 2147483647 := hy ▸ fmod_in (by decide)
          refine sx_drop (ex_append (i := 1) ?_ ⟨_, _, rfl⟩)
          repeat walk_at "m3"
          refine rx_Ci ⟨by decide, by decide⟩ ?_
          have hj3 : j < 900 := hj2
          refine ⟨_, p, _, rfl, rfl, by rw [List.length_map]; omega, ?_⟩
          dsimp only [List.set_cons_zero, List.set_cons_succ]
          rw [map_snoc]
          refine ⟨L ++ [_], _, _, in_snoc hL ⟨?_, ?_⟩, by simp; omega, rfl⟩
          · exact Int.fdiv_nonneg z1.1 (by decide)
          · rw [Int.fdiv_eq_ediv_of_nonneg _ (by decide)]
            omega
        · rintro δ' ⟨L, y, d, hL, _, rfl⟩
          exact ⟨L, d, _, hL, rfl⟩
      · rintro δ' ⟨L, d, e, hL, rfl⟩
        refine sx_retF 0 (by simp) (fx_listRev (ex_mvar rfl ⟨_, fun q => ?_, .inr ⟨1, p, rfl, rfl⟩⟩))
        exact ⟨0, q, _, rfl, rfl, L.reverse, by rw [List.map_reverse], fun x hx => hL x (List.mem_reverse.mp hx)⟩
abbrev sp__law_take (K : PySem.W.Frag) (A : Ad) : Sp := spM K 1 (fun b : Int => [.int b]) (fun es b => Drw es ∧ 0 < b) (fun _ b d fs => Drw fs ∧ ∃ r : Int, d = .int r ∧ 0 ≤ r ∧ r < b)
theorem ok__law_take {P : Program} {w : World} {K : PySem.W.Frag} {mg : Str → Option Value} {base : Heap} {A : Ad} (T : Txt K mg A)  :
    FnG P w K mg base 1 A.f__law_take A.d__law_take ["draws", "bound"] (sp__law_take K A) := by
  refine fn_mut T.F__law_take sc__law_take rfl fun cdv A' outer s H E hgd hr => ⟨_, (pss_cons (ps_if (pt_cmpR (op_eqD hr.units) (pe_callB call_len_seq (by rfl) T.z_len (by decide +kernel) (pa_cons (pv 0) pa_nil)) pe_int (nomark _)) (pss_one (ps_ret pe_int)) pss_nil)
  (pss_one (ps_ret (pe_op op_modN (pe_callTy call_int1 (by rfl) T.z_int (by decide +kernel) (pa_cons (pe_bm0 PySem.F.plainAttrs_list PySem.F.slot_list_pop PySem.F.type_list_pop mt_pop (pv 0)) pa_nil)) (pv 1))))), ?_⟩
  rintro p es b ⟨⟨L, rfl, hL⟩, hb⟩
  show SX K _ _ [.ml p (L.map .int), .dat (.int b)] _
  try dsimp only [bodyK] at *
  refine sx_guard (decide (L.length = 0)) ?_ (fun h => ?_) (fun h => ?_)
  · refine tx_test (ex_op (ex_CB (ax_cons (ex_mvar rfl (ax_nil (vx_lenM rfl ?_))))))
    repeat walk_at "m3"
    refine ⟨?_, rfl⟩
    rw [eqv_int, List.length_map]
    by_cases c : L.length = 0
    · simp [c]
    · have : ¬ (L.length : Int) = 0 := by omega
      simp [c]
  · repeat walk_at "m3"
    exact ⟨_, _, rfl, rfl, ⟨L, rfl, hL⟩, 0, rfl, by decide, hb⟩
  · have h0 : L ≠ [] := fun z => of_decide_eq_false h (by rw [z]; rfl)
    have eL := (List.dropLast_concat_getLast h0).symm
    generalize L.dropLast = M at eL
    generalize L.getLast h0 = y at eL
    clear h h0
    subst eL
    refine sx_ret (ex_op (ex_CB (ax_cons (ex_pop (i := 0) (p := p) (ds := M.map .int) (d := .int y) ?_ ?_))))
    · simp
    · dsimp only [List.set_cons_zero, List.set_cons_succ]
      repeat walk_at "m3"
      refine rx_Ci (by omega) ?_
      have z := fmod_in (i := y) hb
      exact ⟨_, _, rfl, rfl, ⟨M, rfl, fun x hx => hL x (List.mem_append_left _ hx)⟩, _, rfl, z.1, z.2⟩
abbrev sp__law_ratio (K : PySem.W.Frag) (A : Ad) : Sp := spM K 0 (fun _ : Unit => []) (fun es _ => Drw es) (fun _ _ d fs => Drw fs ∧ ∃ q : Rat, d = dR q ∧ Sz 62 q)
theorem ok__law_ratio {P : Program} {w : World} {K : PySem.W.Frag} {mg : Str → Option Value} {base : Heap} {A : Ad} (T : Txt K mg A) (G__law_take : FnG P w K mg base 1 A.f__law_take A.d__law_take ["draws", "bound"] (sp__law_take K A)) (G_ratio : FnG P w K mg base 1 A.f_ratio A.d_ratio ["above", "below"] (sp_ratio K A)) :
    FnG P w K mg base 2 A.f__law_ratio A.d__law_ratio ["draws"] (sp__law_ratio K A) := by
  refine fn_mut T.F__law_ratio sc__law_ratio rfl fun cdv A' outer s H E hgd hr => ⟨_, (pss_cons (ps_set (i := 1) sc__law_ratio.nd rfl (.inl rfl) (pe_G G__law_take hgd (hr.mono (by decide)) (by rfl) T.g__law_take T.k__law_take T.b__law_take .nil (fun σ => passAt (takes_of rfl rfl rfl rfl) σ) (pa_cons (pv 0) (pa_cons pe_int pa_nil))))
  (pss_cons (ps_if (pt_cmpR op_lt (pv 1) pe_int (nomark _)) (pss_one (ps_ret (pe_G G_ratio hgd (hr.mono (by decide)) (by rfl) T.g_ratio T.k_ratio T.bd_ratio T.vd_ratio (fun σ => passAt (takes_of rfl rfl rfl rfl) σ) (pa_cons (pe_op op_sub (pe_G G__law_take hgd (hr.mono (by decide)) (by rfl) T.g__law_take T.k__law_take T.b__law_take .nil (fun σ => passAt (takes_of rfl rfl rfl rfl) σ) (pa_cons (pv 0) (pa_cons pe_int pa_nil))) pe_int) pa_nil)))) pss_nil)
  (pss_cons (ps_if (pt_cmpR (op_eqD hr.units) (pv 1) pe_int (nomark _)) (pss_one (ps_ret (pe_G G_ratio hgd (hr.mono (by decide)) (by rfl) T.g_ratio T.k_ratio T.b_ratio .nil (fun σ => passAt (takes_of rfl rfl rfl rfl) σ) (pa_cons (pe_op op_sub (pe_op op_pow (pe_op op_add (pe_G G__law_take hgd (hr.mono (by decide)) (by rfl) T.g__law_take T.k__law_take T.b__law_take .nil (fun σ => passAt (takes_of rfl rfl rfl rfl) σ) (pa_cons (pv 0) (pa_cons pe_int pa_nil))) pe_int) pe_int) (pe_G G__law_take hgd (hr.mono (by decide)) (by rfl) T.g__law_take T.k__law_take T.b__law_take .nil (fun σ => passAt (takes_of rfl rfl rfl rfl) σ) (pa_cons (pv 0) (pa_cons pe_int pa_nil)))) (pa_cons (pe_op op_add (pe_G G__law_take hgd (hr.mono (by decide)) (by rfl) T.g__law_take T.k__law_take T.b__law_take .nil (fun σ => passAt (takes_of rfl rfl rfl rfl) σ) (pa_cons (pv 0) (pa_cons pe_int pa_nil))) pe_int) pa_nil))))) pss_nil)
  (pss_one (ps_ret (pe_G G_ratio hgd (hr.mono (by decide)) (by rfl) T.g_ratio T.k_ratio T.b_ratio .nil (fun σ => passAt (takes_of rfl rfl rfl rfl) σ) (pa_cons (pe_op op_sub (pe_G G__law_take hgd (hr.mono (by decide)) (by rfl) T.g__law_take T.k__law_take T.b__law_take .nil (fun σ => passAt (takes_of rfl rfl rfl rfl) σ) (pa_cons (pv 0) (pa_cons pe_int pa_nil))) pe_int) (pa_cons (pe_op op_add pe_int (pe_G G__law_take hgd (hr.mono (by decide)) (by rfl) T.g__law_take T.k__law_take T.b__law_take .nil (fun σ => passAt (takes_of rfl rfl rfl rfl) σ) (pa_cons (pv 0) (pa_cons pe_int pa_nil)))) pa_nil)))))))), ?_⟩
  rintro p es ⟨⟩ hd
  show SX K _ _ [.ml p es, .no] _
  try dsimp only [bodyK] at *
  refine sx_seq (sx_asg ?_)
  refine ex_callM (ax_cons (ex_mvar rfl (ax_cons (ex_int (ax_nil ⟨_, p, _, rfl, rfl, rfl, ⟨hd, by decide⟩, fun d fs h => ?_⟩)))))
  obtain ⟨hd, i, rfl, i0, i1⟩ := h
  refine ⟨_, rfl, ?_⟩
  dsimp only [List.set_cons_zero, List.set_cons_succ]
  refine sx_guard (decide (i < 5)) ?_ (fun c => ?_) (fun c => ?_)
  · repeat walk_at "m3"
    exact ⟨rfl, rfl⟩
  · refine sx_ret (ex_call (dds := [.int 1]) (fun _ => .cons (.int 1) .nil) (ax_cons (ex_op ?_)))
    refine ex_callM (ax_cons (ex_mvar rfl (ax_cons (ex_int (ax_nil ⟨_, p, _, rfl, rfl, rfl, ⟨hd, by decide⟩, fun d fs h => ?_⟩)))))
    obtain ⟨hd, r, rfl, r0, r1⟩ := h
    repeat walk_at "m3"
    have b1 : Bd 9 (r - 3) := ⟨by omega⟩
    have b2 : Bd 9 (1 : Int) := ⟨by decide⟩
    refine ⟨[_], (r - 3, 1), rfl, rfl, rfl, ⟨b1.mono (by decide), b2.mono (by decide)⟩, fun d hd2 => ?_, fun C hC => ?_⟩
    · obtain ⟨_, rfl⟩ := hd2
      exact ⟨_, _, rfl, rfl, hd, _, rfl, (sz_divInt b1 b2 (by decide)).mono (by decide)⟩
    · exact absurd hC.1 Int.one_ne_zero
  · refine sx_guard (decide (i = 11)) ?_ (fun c => ?_) (fun c => ?_)
    · repeat walk_at "m3"
      exact ⟨by rw [eqv_int]; rfl, rfl⟩
    · refine sx_ret (ex_call (fun _ => .nil) (ax_cons (ex_op (ex_op (ex_op ?_)))))
      refine ex_callM (ax_cons (ex_mvar rfl (ax_cons (ex_int (ax_nil ⟨_, p, _, rfl, rfl, rfl, ⟨hd, by decide⟩, fun d fs h => ?_⟩)))))
      obtain ⟨hd, r, rfl, r0, r1⟩ := h
      repeat walk_at "m3"
      refine rx_Ci ⟨by decide, by decide, by omega⟩ ?_
      refine ex_callM (ax_cons (ex_mvar rfl (ax_cons (ex_int (ax_nil ⟨_, p, _, rfl, rfl, rfl, ⟨hd, by decide⟩, fun d fs h => ?_⟩)))))
      obtain ⟨hd, s, rfl, s0, s1⟩ := h
      repeat walk_at "m3"
      refine ex_callM (ax_cons (ex_mvar rfl (ax_cons (ex_int (ax_nil ⟨_, p, _, rfl, rfl, rfl, ⟨hd, by decide⟩, fun d fs h => ?_⟩)))))
      obtain ⟨hd, u, rfl, u0, u1⟩ := h
      repeat walk_at "m3"
      have b1 : Bd 61 ((r + 1) ^ (3 : Int).toNat - s) := by
        have e : (r + 1) ^ (3 : Int).toNat = (r + 1) * (r + 1) * (r + 1) := by
          show (r + 1) ^ 3 = _
          grind
        rw [e]
        refine ⟨?_⟩
        have h1 : (r + 1) * (r + 1) ≤ 999983 * 999983 := Int.mul_le_mul (by omega) (by omega) (by omega) (by decide)
        have h2 : 0 ≤ (r + 1) * (r + 1) := Int.mul_nonneg (by omega) (by omega)
        have h3 : (r + 1) * (r + 1) * (r + 1) ≤ 999983 * 999983 * 999983 := Int.mul_le_mul h1 (by omega) (by omega) (by decide)
        have h4 : 0 ≤ (r + 1) * (r + 1) * (r + 1) := Int.mul_nonneg h2 (by omega)
        omega
      have b2 : Bd 61 (u + 1) := ⟨by omega⟩
      refine ⟨[_, _], (_, _), rfl, rfl, rfl, ⟨b1.mono (by decide), b2.mono (by decide)⟩, fun d hd2 => ?_, fun C hC => ?_⟩
      · obtain ⟨_, rfl⟩ := hd2
        exact ⟨_, _, rfl, rfl, hd, _, rfl, (sz_divInt b1 b2 (by omega)).mono (by decide)⟩
      · have := hC.1
        omega
    · refine sx_ret (ex_call (fun _ => .nil) (ax_cons (ex_op ?_)))
      refine ex_callM (ax_cons (ex_mvar rfl (ax_cons (ex_int (ax_nil ⟨_, p, _, rfl, rfl, rfl, ⟨hd, by decide⟩, fun d fs h => ?_⟩)))))
      obtain ⟨hd, r, rfl, r0, r1⟩ := h
      repeat walk_at "m3"
      refine ex_callM (ax_cons (ex_mvar rfl (ax_cons (ex_int (ax_nil ⟨_, p, _, rfl, rfl, rfl, ⟨hd, by decide⟩, fun d fs h => ?_⟩)))))
      obtain ⟨hd, u, rfl, u0, u1⟩ := h
      repeat walk_at "m3"
      have b1 : Bd 61 (r - 20) := ⟨by omega⟩
      have b2 : Bd 61 (1 + u) := ⟨by omega⟩
      refine ⟨[_, _], (_, _), rfl, rfl, rfl, ⟨b1.mono (by decide), b2.mono (by decide)⟩, fun d hd2 => ?_, fun C hC => ?_⟩
      · obtain ⟨_, rfl⟩ := hd2
        exact ⟨_, _, rfl, rfl, hd, _, rfl, (sz_divInt b1 b2 (by omega)).mono (by decide)⟩
      · have := hC.1
        omega
abbrev sp__law_small (K : PySem.W.Frag) (A : Ad) : Sp := spM K 0 (fun _ : Unit => []) (fun es _ => Drw es) (fun _ _ d fs => Drw fs ∧ ∃ q : Rat, d = dR q ∧ Sz 62 q)
theorem ok__law_small {P : Program} {w : World} {K : PySem.W.Frag} {mg : Str → Option Value} {base : Heap} {A : Ad} (T : Txt K mg A) (G_ratio : FnG P w K mg base 1 A.f_ratio A.d_ratio ["above", "below"] (sp_ratio K A)) (G__law_take : FnG P w K mg base 1 A.f__law_take A.d__law_take ["draws", "bound"] (sp__law_take K A)) :
    FnG P w K mg base 2 A.f__law_small A.d__law_small ["draws"] (sp__law_small K A) := by
  refine fn_mut T.F__law_small sc__law_small rfl fun cdv A' outer s H E hgd hr => ⟨_, (pss_one (ps_ret (pe_G G_ratio hgd (hr.mono (by decide)) (by rfl) T.g_ratio T.k_ratio T.bd_ratio T.vd_ratio (fun σ => passAt (takes_of rfl rfl rfl rfl) σ) (pa_cons (pe_op op_sub (pe_G G__law_take hgd (hr.mono (by decide)) (by rfl) T.g__law_take T.k__law_take T.b__law_take .nil (fun σ => passAt (takes_of rfl rfl rfl rfl) σ) (pa_cons (pv 0) (pa_cons pe_int pa_nil))) pe_int) pa_nil)))), ?_⟩
  rintro p es ⟨⟩ hd
  show SX K _ _ [.ml p es] _
  refine sx_ret (ex_call (dds := [.int 1]) (fun _ => .cons (.int 1) .nil) (ax_cons (ex_op ?_)))
  refine ex_callM (ax_cons (ex_mvar rfl (ax_cons (ex_int (ax_nil ⟨_, p, _, rfl, rfl, rfl, ⟨hd, by decide⟩, fun d fs h => ?_⟩)))))
  obtain ⟨hd, i, rfl, i0, i1⟩ := h
  repeat walk_at "m3e"
  have b1 : Bd 61 (i - 2) := ⟨Nat.lt_of_lt_of_le (show (i - 2).natAbs < 100 by omega) (by decide)⟩
  have b2 : Bd 61 1 := ⟨by decide⟩
  refine ⟨[_], (i - 2, 1), rfl, rfl, rfl, ⟨b1.mono (by decide), b2.mono (by decide)⟩, fun d hd2 => ?_, fun C hC => absurd hC.1 Int.one_ne_zero⟩
  obtain ⟨_, rfl⟩ := hd2
  exact ⟨_, _, rfl, rfl, hd, _, rfl, (sz_divInt b1 b2 (by decide)).mono (by decide)⟩
abbrev spr__law_any_length (K : PySem.W.Frag) (A : Ad) (dep : Nat) : Sp := spM K 1 (fun n : Nat => [.int n]) (fun es n => Drw es ∧ n < dep) (fun _ n d fs => Drw fs ∧ ∃ l, d = encL l ∧ goodL l ∧ l.deep ≤ n)
abbrev sp__law_any_length (K : PySem.W.Frag) (A : Ad) : Sp := spr__law_any_length K A 4
theorem okr__law_any_length {P : Program} {w : World} {K : PySem.W.Frag} {mg : Str → Option Value} {base : Heap} {A : Ad} (T : Txt K mg A) (G__law_take : FnG P w K mg base 1 A.f__law_take A.d__law_take ["draws", "bound"] (sp__law_take K A)) (G__law_ratio : FnG P w K mg base 2 A.f__law_ratio A.d__law_ratio ["draws"] (sp__law_ratio K A)) :
    ∀ dep : Nat, FnG P w K mg base (2 + dep) A.f__law_any_length A.d__law_any_length ["draws", "depth"] (spr__law_any_length K A dep)
  | 0 => fn_voidM (by simp)
  | dep + 1 => by
    have G__law_any_length := okr__law_any_length (P := P) (w := w) (base := base) T G__law_take G__law_ratio dep
    show FnG P w K mg base ((2 + dep) + 1) A.f__law_any_length A.d__law_any_length ["draws", "depth"] (spr__law_any_length K A (dep + 1))
    refine fn_mut T.F__law_any_length sc__law_any_length rfl fun cdv A' outer s H E hgd hr => ⟨_, (pss_cons (ps_set (i := 2) sc__law_any_length.nd rfl (.inl rfl) (pe_G G__law_take hgd (hr.mono (by omega)) (by rfl) T.g__law_take T.k__law_take T.b__law_take .nil (fun σ => passAt (takes_of rfl rfl rfl rfl) σ) (pa_cons (pv 0) (pa_cons pe_int pa_nil))))
  (pss_cons (ps_if (PW.pt (pw_and (pt_cmpR op_gt (pv 1) pe_int (nomark _)) (pw_and1 (pt_cmpR op_lt (pv 2) pe_int (nomark _))))) (pss_one (ps_ret (pe_tup (pa_cons (pe_ix ix_list (pe_lst (pa_cons pe_str (pa_cons pe_str pa_nil))) (pv 2) (fun _ _ => rfl)) (pa_cons (pe_G G__law_any_length hgd (hr.mono (by omega)) (by rfl) T.g__law_any_length T.k__law_any_length T.b__law_any_length .nil (fun σ => passAt (takes_of rfl rfl rfl rfl) σ) (pa_cons (pv 0) (pa_cons (pe_op op_sub (pv 1) pe_int) pa_nil))) (pa_cons (pe_G G__law_any_length hgd (hr.mono (by omega)) (by rfl) T.g__law_any_length T.k__law_any_length T.b__law_any_length .nil (fun σ => passAt (takes_of rfl rfl rfl rfl) σ) (pa_cons (pv 0) (pa_cons (pe_op op_sub (pv 1) pe_int) pa_nil))) pa_nil)))))) pss_nil)
  (pss_cons (ps_if (PW.pt (pw_and (pt_cmpR op_gt (pv 1) pe_int (nomark _)) (pw_and1 (pt_cmpR (op_eqD hr.units) (pv 2) pe_int (nomark _))))) (pss_one (ps_ret (pe_tup (pa_cons pe_str (pa_cons (pe_G G__law_ratio hgd (hr.mono (by omega)) (by rfl) T.g__law_ratio T.k__law_ratio T.b__law_ratio .nil (fun σ => passAt (takes_of rfl rfl rfl rfl) σ) (pa_cons (pv 0) pa_nil)) (pa_cons (pe_G G__law_any_length hgd (hr.mono (by omega)) (by rfl) T.g__law_any_length T.k__law_any_length T.b__law_any_length .nil (fun σ => passAt (takes_of rfl rfl rfl rfl) σ) (pa_cons (pv 0) (pa_cons (pe_op op_sub (pv 1) pe_int) pa_nil))) pa_nil)))))) pss_nil)
  (pss_cons (ps_if (pt_cmpR (op_eqD hr.units) (pv 2) pe_int (nomark _)) (pss_one (ps_ret (pe_tup (pa_cons pe_str (pa_cons (pe_G G__law_ratio hgd (hr.mono (by omega)) (by rfl) T.g__law_ratio T.k__law_ratio T.b__law_ratio .nil (fun σ => passAt (takes_of rfl rfl rfl rfl) σ) (pa_cons (pv 0) pa_nil)) pa_nil))))) pss_nil)
  (pss_one (ps_ret (pe_tup (pa_cons pe_str (pa_cons (pe_ix ix_list (pe_lst (pa_cons pe_str (pa_cons pe_str (pa_cons pe_str pa_nil)))) (pe_G G__law_take hgd (hr.mono (by omega)) (by rfl) T.g__law_take T.k__law_take T.b__law_take .nil (fun σ => passAt (takes_of rfl rfl rfl rfl) σ) (pa_cons (pv 0) (pa_cons pe_int pa_nil))) (fun _ _ => rfl)) pa_nil))))))))), ?_⟩
    rintro p es n ⟨hd, hn⟩
    show SX K _ _ [.ml p es, .dat (.int n), .no] _
    try dsimp only [bodyK] at *
    have hn : n < dep + 1 := hn
    refine sx_seq (sx_asg (ex_callM (ax_cons (ex_mvar rfl (ax_cons (ex_int (ax_nil ⟨_, p, _, rfl, rfl, rfl, ⟨hd, by decide⟩, fun d fs h => ?_⟩)))))))
    obtain ⟨hd, i, rfl, i0, i1⟩ := h
    refine ⟨_, rfl, ?_⟩
    dsimp only [List.set_cons_zero, List.set_cons_succ]
    refine sx_guard (decide (0 < n) && decide (i < 2)) ?_ (fun h => ?_) (fun h => ?_)
    · refine tx_and (tx_test (ex_op (ex_var rfl (ex_int (rx_ib ⟨_, rfl, fun h => ?_, fun h => ?_⟩)))))
      · refine tx_test (ex_op (ex_var rfl (ex_int (rx_ib ⟨_, rfl, ?_, rfl⟩))))
        rw [decide_eq_true (show 0 < n by have := of_decide_eq_true h; omega), Bool.true_and]
      · rw [decide_eq_false (show ¬ 0 < n by have := of_decide_eq_false h; omega), Bool.false_and]
        exact ⟨rfl, rfl⟩
    · rw [Bool.and_eq_true, decide_eq_true_eq, decide_eq_true_eq] at h
      obtain ⟨m, rfl⟩ : ∃ m, n = m + 1 := ⟨n - 1, by omega⟩
      have sub : ((m + 1 : Nat) : Int) - 1 = (m : Int) := by omega
      refine sx_ret (ex_tup (ax_cons (ex_op (ex_listL ?_))))
      repeat walk_at "m3e"
      have two : ∃ y : Str, (y = "plus" ∨ y = "minus") ∧ atI [PyData.str "plus", .str "minus"] i = some (.str y) := by
        have : i = 0 ∨ i = 1 := by omega
        rcases this with rfl | rfl
        · exact ⟨_, .inl rfl, atI_nat (j := 0) rfl⟩
        · exact ⟨_, .inr rfl, atI_nat (j := 1) rfl⟩
      obtain ⟨y, hy, hat⟩ := two
      refine rx_ixL hat ?_
      refine ax_cons (ex_callM (ax_cons (ex_mvar rfl (ax_cons (ex_op (ex_var rfl (ex_int (rx_ii (ax_nil ⟨m, p, _, by rw [sub]; rfl, rfl, rfl, ⟨hd, by omega⟩, fun d fs h => ?_⟩)))))))))
      obtain ⟨hd, a, rfl, ga, da⟩ := h
      refine ax_cons (ex_callM (ax_cons (ex_mvar rfl (ax_cons (ex_op (ex_var rfl (ex_int (rx_ii (ax_nil ⟨m, p, _, by rw [sub]; rfl, rfl, rfl, ⟨hd, by omega⟩, fun d fs h => ?_⟩)))))))))
      obtain ⟨hd, b, rfl, gb, db⟩ := h
      refine ax_nil ⟨[_, _, _], rfl, Nat.le_of_ble_eq_true rfl, ?_⟩
      rcases hy with rfl | rfl
      · exact ⟨_, _, rfl, rfl, hd, .plus a b, rfl, ⟨ga, gb⟩, by show max a.deep b.deep + 1 ≤ m + 1; omega⟩
      · exact ⟨_, _, rfl, rfl, hd, .minus a b, rfl, ⟨ga, gb⟩, by show max a.deep b.deep + 1 ≤ m + 1; omega⟩
    refine sx_guard (decide (0 < n) && decide (i = 2)) ?_ (fun h => ?_) (fun h => ?_)
    · refine tx_and (tx_test (ex_op (ex_var rfl (ex_int (rx_ib ⟨_, rfl, fun h => ?_, fun h => ?_⟩)))))
      · refine tx_test (ex_op (ex_var rfl (ex_int (rx_eqD (shaped_int _) (shaped_int _) ⟨_, rfl, ?_, rfl⟩))))
        rw [decide_eq_true (show 0 < n by have := of_decide_eq_true h; omega), Bool.true_and, eqv_int]
        rfl
      · rw [decide_eq_false (show ¬ 0 < n by have := of_decide_eq_false h; omega), Bool.false_and]
        exact ⟨rfl, rfl⟩
    · rw [Bool.and_eq_true, decide_eq_true_eq, decide_eq_true_eq] at h
      obtain ⟨m, rfl⟩ : ∃ m, n = m + 1 := ⟨n - 1, by omega⟩
      have sub : ((m + 1 : Nat) : Int) - 1 = (m : Int) := by omega
      refine sx_ret (ex_tup (ax_cons (ex_str (ax_cons (ex_callM (ax_cons (ex_mvar rfl (ax_nil ⟨(), p, _, rfl, rfl, rfl, hd, fun d fs h => ?_⟩))))))))
      obtain ⟨hd, q, rfl, zq⟩ := h
      refine ax_cons (ex_callM (ax_cons (ex_mvar rfl (ax_cons (ex_op (ex_var rfl (ex_int (rx_ii (ax_nil ⟨m, p, _, by rw [sub]; rfl, rfl, rfl, ⟨hd, by omega⟩, fun d fs h => ?_⟩)))))))))
      obtain ⟨hd, a, rfl, ga, da⟩ := h
      refine ax_nil ⟨[_, _, _], rfl, Nat.le_of_ble_eq_true rfl, ?_⟩
      exact ⟨_, _, rfl, rfl, hd, .times q a, rfl, ⟨zq, ga⟩, by show a.deep + 1 ≤ m + 1; omega⟩
    refine sx_guard (decide (i = 3)) ?_ (fun h => ?_) (fun h => ?_)
    · refine tx_test (ex_op (ex_var rfl (ex_int (rx_eqD (shaped_int _) (shaped_int _) ⟨_, rfl, ?_, rfl⟩))))
      rw [eqv_int]
      rfl
    · refine sx_ret (ex_tup (ax_cons (ex_str (ax_cons (ex_callM (ax_cons (ex_mvar rfl (ax_nil ⟨(), p, _, rfl, rfl, rfl, hd, fun d fs h => ?_⟩))))))))
      obtain ⟨hd, q, rfl, zq⟩ := h
      refine ax_nil ⟨[_, _], rfl, Nat.le_of_ble_eq_true rfl, ?_⟩
      exact ⟨_, _, rfl, rfl, hd, .num q, rfl, zq, Nat.zero_le _⟩
    · refine sx_ret (ex_tup (ax_cons (ex_str (ax_cons (ex_op (ex_listL ?_))))))
      repeat walk_at "m3e"
      refine ex_callM (ax_cons (ex_mvar rfl (ax_cons (ex_int (ax_nil ⟨_, p, _, rfl, rfl, rfl, ⟨hd, by decide⟩, fun d fs h => ?_⟩)))))
      obtain ⟨hd, j, rfl, j0, j1⟩ := h
      obtain ⟨x, hx, hat⟩ := three_w j0 j1
      refine rx_ixL hat (ax_nil ⟨[_, _], rfl, Nat.le_of_ble_eq_true rfl, ?_⟩)
      exact ⟨_, _, rfl, rfl, hd, .of x, rfl, hx, Nat.zero_le _⟩
abbrev sp__law_told (K : PySem.W.Frag) (A : Ad) : Sp := spD K 2 (fun p : Len × Nums => [encL p.1, numD p.2]) (fun p => p.1.deep < 9 ∧ okL p.1 ∧ p.2 ≠ [] ∧ (∀ e ∈ p.2, Sz 100 e.2) ∧ bitsL p.1 ≤ 3500) (fun p r => (∃ w, worthL p.2 p.1 = some w ∧ r = dR w ∧ Sz (bitsL p.1) w) ∨ (worthL p.2 p.1 = none ∧ r = .str "there")) (fun _ _ => False)
theorem ok__law_told {P : Program} {w : World} {K : PySem.W.Frag} {mg : Str → Option Value} {base : Heap} {A : Ad} (T : Txt K mg A) (G_length_worth : FnG P w K mg base 12 A.f_length_worth A.d_length_worth ["length", "numbers"] (sp_length_worth K A)) :
    FnG P w K mg base 13 A.f__law_told A.d__law_told ["length", "numbers"] (sp__law_told K A) := by
  refine fn_data T.F__law_told sc__law_told rfl fun cdv A' outer s H E hgd hr => ⟨_, (pss_one (ps_try_many rfl rfl (takes_of rfl rfl rfl rfl) (fun W pn xe tk _ => (pss_one (ps_ret (pe_G G_length_worth hgd (hr.mono (by decide)) (by rfl) T.g_length_worth T.k_length_worth T.b_length_worth .nil (fun σ => passAt tk σ) (pa_cons (pv 0) (pa_cons (pv 1) pa_nil)))))) (HdsOk.cons ⟨rfl, by decide, .inl T.g_NotThere⟩ (fun a oe cls d pn _ _ => (pss_one (ps_ret pe_str))) (HdsOk.cons ⟨rfl, by decide, .inl T.g_MitreError⟩ (fun a oe cls d pn _ _ => (pss_one (ps_ret pe_str))) HdsOk.nil)))), ?_⟩
  rintro ⟨l, kvs⟩ hp
  show SX K _ _ [.dat (encL l), .dat (numD kvs)] _
  try dsimp only [bodyK] at *
  refine sx_try2 (c1 := .ref A.C_NotThere) (c2 := .ref A.C_MitreError) (tb := fun W => tRet (tCallG (sp_length_worth K A) [] (WE W) (tCons (tVar 0) (tCons (tVar 1) tNil)))) (t1 := fun _ _ _ => tRet (tC (.str "there"))) (t2 := fun _ _ _ => tRet (tC (.str "other"))) fun W' => ?_
  refine sx_ret (ex_call (fun _ => .nil) (ax_cons (ex_var rfl (ax_cons (ex_var rfl (ax_nil ?_))))))
  refine ⟨[_, _], (l, kvs), rfl, rfl, rfl, hp, fun d hd => ⟨d, rfl, .inl hd⟩, fun C hC => ?_⟩
  obtain ⟨hn, rfl⟩ := hC
  exact ⟨T.m_NotThere, fun a => sx_ret (ex_str ⟨_, rfl, .inr ⟨hn, rfl⟩⟩)⟩
abbrev sp__law_bent (K : PySem.W.Frag) (A : Ad) : Sp := spM K 1 (fun ds : List PyData => [.tuple ds]) (fun es ds => Drw es ∧ 1 ≤ ds.length ∧ ds.length ≤ 3) (fun _ ds d fs => Drw fs ∧ ∃ es, d = .tuple es ∧ Bent ds es)
theorem ok__law_bent {P : Program} {w : World} {K : PySem.W.Frag} {mg : Str → Option Value} {base : Heap} {A : Ad} (T : Txt K mg A) (G__law_take : FnG P w K mg base 1 A.f__law_take A.d__law_take ["draws", "bound"] (sp__law_take K A)) :
    FnG P w K mg base 2 A.f__law_bent A.d__law_bent ["draws", "value"] (sp__law_bent K A) := by
  refine fn_mut T.F__law_bent sc__law_bent rfl fun cdv A' outer s H E hgd hr => ⟨_, (pss_cons (ps_set (i := 2) sc__law_bent.nd rfl (.inl rfl) (pe_callTy call_list_of (by rfl) T.z_list (by decide +kernel) (pa_cons (pv 1) pa_nil)))
  (pss_cons (ps_set (i := 3) sc__law_bent.nd rfl (.inl rfl) (pe_G G__law_take hgd (hr.mono (by decide)) (by rfl) T.g__law_take T.k__law_take T.b__law_take .nil (fun σ => passAt (takes_of rfl rfl rfl rfl) σ) (pa_cons (pv 0) (pa_cons (pe_callB call_len_seq (by rfl) T.z_len (by decide +kernel) (pa_cons (pv 2) pa_nil)) pa_nil))))
  (pss_cons (ps_set (i := 4) sc__law_bent.nd rfl (.inl rfl) (pe_lst (pa_cons pe_str (pa_cons pe_str (pa_cons pe_str (pa_cons pe_str (pa_cons pe_non (pa_cons pe_int (pa_cons (pe_tup (pa_cons pe_int (pa_cons pe_int pa_nil))) (pa_cons (pe_tup (pa_cons pe_int (pa_cons pe_int pa_nil))) (pa_cons pe_str (pa_cons pe_str (pa_cons (pe_tup (pa_cons pe_str (pa_cons (pe_tup (pa_cons pe_int (pa_cons pe_int pa_nil))) pa_nil))) (pa_cons pe_bl pa_nil))))))))))))))
  (pss_cons (ps_set (i := 5) sc__law_bent.nd rfl (.inl rfl) (pe_G G__law_take hgd (hr.mono (by decide)) (by rfl) T.g__law_take T.k__law_take T.b__law_take .nil (fun σ => passAt (takes_of rfl rfl rfl rfl) σ) (pa_cons (pv 0) (pa_cons pe_int pa_nil))))
  (pss_cons (ps_if (pt_cmpR (op_eqD hr.units) (pv 5) pe_int (nomark _)) (pss_one (ps_asg (pe_ix ix_list (pv 4) (pe_G G__law_take hgd (hr.mono (by decide)) (by rfl) T.g__law_take T.k__law_take T.b__law_take .nil (fun σ => passAt (takes_of rfl rfl rfl rfl) σ) (pa_cons (pv 0) (pa_cons pe_int pa_nil))) (fun _ _ => rfl)) (pg_sub (pv 2) (pv 3) set_list))) pss_nil)
  (pss_cons (ps_if (pt_cmpR (op_eqD hr.units) (pv 5) pe_int (nomark _)) (pss_one (ps_expr (pe_bm PySem.F.plainAttrs_list PySem.F.slot_list_pop PySem.F.type_list_pop mt_popAt (pv 2) (pa_cons (pv 3) pa_nil)))) pss_nil)
  (pss_cons (ps_if (pt_cmpR (op_eqD hr.units) (pv 5) pe_int (nomark _)) (pss_one (ps_expr (pe_bm PySem.F.plainAttrs_list PySem.F.slot_list_insert PySem.F.type_list_insert mt_insert (pv 2) (pa_cons (pv 3) (pa_cons (pe_ix ix_list (pv 4) (pe_G G__law_take hgd (hr.mono (by decide)) (by rfl) T.g__law_take T.k__law_take T.b__law_take .nil (fun σ => passAt (takes_of rfl rfl rfl rfl) σ) (pa_cons (pv 0) (pa_cons pe_int pa_nil))) (fun _ _ => rfl)) pa_nil))))) pss_nil)
  (pss_one (ps_ret (pe_callTy call_tuple_of (by rfl) T.z_tuple (by decide +kernel) (pa_cons (pv 2) pa_nil))))))))))), ?_⟩
  rintro p es ds ⟨hd, hl1, hl3⟩
  show SX K _ _ [.ml p es, .dat (.tuple ds), .no, .no, .no, .no] _
  try dsimp only [bodyK] at *
  refine sx_seq (sx_asgF (fx_listOf (ex_var rfl ⟨ds, .inr rfl, fun pr => ?_⟩)))
  dsimp only [List.set_cons_zero, List.set_cons_succ]
  refine sx_seq (sx_asg (ex_callM (ax_cons (ex_mvar rfl (ax_cons (ex_CB (ax_cons (ex_mvar rfl (ax_nil (vx_lenM rfl (ax_nil ⟨_, p, _, rfl, rfl, rfl, ⟨hd, by omega⟩, fun d fs h => ?_⟩)))))))))))
  obtain ⟨hd, i, rfl, i0, i1⟩ := h
  obtain ⟨n, rfl⟩ : ∃ n : Nat, i = n := ⟨i.toNat, by omega⟩
  have hn : n < ds.length := by omega
  refine ⟨_, rfl, ?_⟩
  dsimp only [List.set_cons_zero, List.set_cons_succ]
  refine sx_seq (sx_asg (ex_listL ?_))
  repeat walk_at "m3e"
  refine ⟨[_, _, _, _, _, _, _, _, _, _, _, _], rfl, Nat.le_of_ble_eq_true rfl, _, rfl, ?_⟩
  dsimp only [List.set_cons_zero, List.set_cons_succ]
  refine sx_seq (sx_asg (ex_callM (ax_cons (ex_mvar rfl (ax_cons (ex_int (ax_nil ⟨_, p, _, rfl, rfl, rfl, ⟨hd, by decide⟩, fun d fs h => ?_⟩)))))))
  obtain ⟨hd, kd, rfl, k0, k3⟩ := h
  refine ⟨_, rfl, ?_⟩
  dsimp only [List.set_cons_zero, List.set_cons_succ]
  refine sx_cut (fun δ' => ∃ fs row, Drw fs ∧ ((kd = 0 ∧ ∃ o ∈ odds, row = ds.set n o) ∨ (kd ≠ 0 ∧ row = ds)) ∧ δ' = [.ml p fs, .dat (.tuple ds), .ml pr row, .dat (.int n), .dat (.list odds), .dat (.int kd)]) ?_ ?_
  · refine sx_if (tx_test (ex_op (ex_var rfl (ex_int (rx_eqD (shaped_int _) (shaped_int _) ⟨_, rfl, fun h => ?_, fun h => ?_⟩)))))
    · rw [eqv_int, beq_iff_eq] at h
      refine sx_setI rfl (ex_op (ex_var rfl (ex_callM (ax_cons (ex_mvar rfl (ax_cons (ex_int (ax_nil ⟨_, p, _, rfl, rfl, rfl, ⟨hd, by decide⟩, fun d fs h2 => ?_⟩))))))))
      obtain ⟨hd, j, rfl, j0, j1⟩ := h2
      obtain ⟨o, ho, hat⟩ := odd_at j0 j1
      refine rx_ixL hat ⟨_, rfl, ex_var rfl ⟨_, n, ds, rfl, rfl, ixN_nat hn, ?_⟩⟩
      exact ⟨_, _, hd, .inl ⟨h, o, ho, rfl⟩, rfl⟩
    · rw [eqv_int, beq_eq_false_iff_ne] at h
      exact sx_next ⟨_, _, hd, .inr ⟨h, rfl⟩, rfl⟩
  rintro δ' ⟨fs, row, hd, hr, rfl⟩
  refine sx_cut (fun δ' => ∃ fs row, Drw fs ∧ ((kd = 0 ∧ ∃ o ∈ odds, row = ds.set n o) ∨ (kd = 1 ∧ row = ds.eraseIdx n) ∨ (kd = 2 ∧ row = ds)) ∧ δ' = [.ml p fs, .dat (.tuple ds), .ml pr row, .dat (.int n), .dat (.list odds), .dat (.int kd)]) ?_ ?_
  · refine sx_if (tx_test (ex_op (ex_var rfl (ex_int (rx_eqD (shaped_int _) (shaped_int _) ⟨_, rfl, fun h => ?_, fun h => ?_⟩)))))
    · rw [eqv_int, beq_iff_eq] at h
      obtain ⟨_, rfl⟩ : kd ≠ 0 ∧ row = ds := hr.resolve_left fun z => by omega
      refine sx_drop (ex_popI rfl (ex_var rfl ⟨_, n, row[n], row, rfl, rfl, by omega, by omega, seqIx_nat hn, List.getElem?_eq_getElem hn, ?_⟩))
      exact ⟨_, _, hd, .inr (.inl ⟨h, rfl⟩), rfl⟩
    · rw [eqv_int, beq_eq_false_iff_ne] at h
      refine sx_next ⟨_, _, hd, ?_, rfl⟩
      rcases hr with hr | ⟨z, hr⟩
      · exact .inl hr
      · exact .inr (.inr ⟨by omega, hr⟩)
  rintro δ' ⟨fs, row, hd, hr, rfl⟩
  refine sx_cut (fun δ' => ∃ fs row o, Drw fs ∧ Bent ds row ∧ δ' = [.ml p fs, .dat (.tuple ds), .ml pr row, .dat (.int n), .dat (.list odds), o]) ?_ ?_
  · refine sx_if (tx_test (ex_op (ex_var rfl (ex_int (rx_eqD (shaped_int _) (shaped_int _) ⟨_, rfl, fun h => ?_, fun h => ?_⟩)))))
    · rw [eqv_int, beq_iff_eq] at h
      have e : row = ds := by
        rcases hr with ⟨z, _⟩ | ⟨z, _⟩ | ⟨_, e⟩
        · omega
        · omega
        · exact e
      subst e
      refine sx_drop (ex_insert (i := 2) (ax_cons (ex_var rfl (ax_cons (ex_op (ex_var rfl (ex_callM (ax_cons (ex_mvar rfl (ax_cons (ex_int (ax_nil ⟨_, p, _, rfl, rfl, rfl, ⟨hd, by decide⟩, fun d fs h2 => ?_⟩))))))))))) ⟨_, _, rfl⟩)
      obtain ⟨hd, j, rfl, j0, j1⟩ := h2
      obtain ⟨o, ho, hat⟩ := odd_at j0 j1
      refine rx_ixL hat (ax_nil ⟨n, o, pr, row, rfl, rfl, by omega, by omega, ?_⟩)
      exact ⟨_, _, _, hd, ⟨n, hn, .inr ⟨o, ho, .inr rfl⟩⟩, rfl⟩
    · rw [eqv_int, beq_eq_false_iff_ne] at h
      refine sx_next ⟨_, _, _, hd, ⟨n, hn, ?_⟩, rfl⟩
      rcases hr with ⟨_, o, ho, e⟩ | ⟨_, e⟩ | ⟨z, _⟩
      · exact .inr ⟨o, ho, .inl e⟩
      · exact .inl e
      · omega
  rintro δ' ⟨fs, row, o, hd, hB, rfl⟩
  refine sx_ret (ex_tupOf rfl ⟨_, _, rfl, rfl, hd, _, rfl, hB⟩)
abbrev sp_numbers_in (K : PySem.W.Frag) (A : Ad) : Sp := spD K 1 (fun l : Len => [encL l]) (fun l => l.deep < 9 ∧ (namesL l).length ≤ 1000) (fun l r => ∃ ss, SortOf ss (namesL l) ∧ r = .list (ss.map .str)) (fun _ _ => False)
theorem ok_numbers_in {P : Program} {w : World} {K : PySem.W.Frag} {mg : Str → Option Value} {base : Heap} {A : Ad} (T : Txt K mg A) (G_names_within : FnG P w K mg base 9 A.f_names_within A.d_names_within ["length"] (sp_names_within K A)) :
    FnG P w K mg base 10 A.f_numbers_in A.d_numbers_in ["length"] (sp_numbers_in K A) := by
  refine fn_data T.F_numbers_in sc_numbers_in rfl fun cdv A' outer s H E hgd hr => ⟨_, (pss_one (ps_ret (pe_sortset rfl (by rfl) T.z_sorted (by rfl) T.z_set (pe_G G_names_within hgd (hr.mono (by decide)) (by rfl) T.g_names_within T.k_names_within T.b_names_within .nil (fun σ => passAt (takes_of rfl rfl rfl rfl) σ) (pa_cons (pv 0) pa_nil))))), ?_⟩
  rintro l ⟨hl, hm⟩
  show SX K _ _ [.dat (encL l)] _
  try dsimp only [bodyK] at *
  refine sx_ret (ex_F (p := fun ds _ => ∃ ss, SortOf ss (namesL l) ∧ ds = ss.map .str) (fx_sortset (ex_call (fun _ => .nil) (ax_cons (ex_var rfl (ax_nil ?_))))) fun ds δ' ⟨ss, h1, h2⟩ => ⟨_, rfl, ss, h1, by rw [h2]⟩)
  refine ⟨[_], l, rfl, rfl, rfl, ⟨hl, hm⟩, fun r hr => ?_, fun C hC => hC.elim⟩
  subst hr
  exact ⟨namesL l, rfl, by omega, fun ss so => ⟨ss, so, rfl⟩⟩
abbrev spr__law_worth (K : PySem.W.Frag) (A : Ad) (dep : Nat) : Sp := spD K 2 (fun p : Len × Nums => [encL p.1, numD p.2]) (fun p => p.1.deep < dep ∧ okL p.1 ∧ p.2 ≠ [] ∧ (∀ e ∈ p.2, Sz 100 e.2) ∧ bitsL p.1 ≤ 3500 ∧ ∃ w, worthL p.2 p.1 = some w) (fun p r => ∃ w, worthL p.2 p.1 = some w ∧ r = dR w ∧ Sz (bitsL p.1) w) (fun _ _ => False)
abbrev sp__law_worth (K : PySem.W.Frag) (A : Ad) : Sp := spr__law_worth K A 9
theorem okr__law_worth {P : Program} {w : World} {K : PySem.W.Frag} {mg : Str → Option Value} {base : Heap} {A : Ad} (T : Txt K mg A) (G_times : FnG P w K mg base 2 A.f_times A.d_times ["one", "other"] (sp_times K A)) (G_minus : FnG P w K mg base 3 A.f_minus A.d_minus ["one", "other"] (sp_minus K A)) (G_plus : FnG P w K mg base 2 A.f_plus A.d_plus ["one", "other"] (sp_plus K A)) :
    ∀ dep : Nat, FnG P w K mg base (3 + dep) A.f__law_worth A.d__law_worth ["length", "numbers"] (spr__law_worth K A dep)
  | 0 => fn_void (by simp)
  | dep + 1 => by
    have G__law_worth := okr__law_worth (P := P) (w := w) (base := base) T G_times G_minus G_plus dep
    show FnG P w K mg base ((3 + dep) + 1) A.f__law_worth A.d__law_worth ["length", "numbers"] (spr__law_worth K A (dep + 1))
    refine fn_data T.F__law_worth sc__law_worth rfl fun cdv A' outer s H E hgd hr => ⟨_, (pss_cons (ps_if (pt_cmpR (op_eqD hr.units) (pe_ix ix_tup (pv 0) pe_int (fun _ _ => rfl)) pe_str (nomark _)) (pss_one (ps_ret (pe_ix ix_tup (pv 0) pe_int (fun _ _ => rfl)))) pss_nil)
  (pss_cons (ps_if (pt_cmpR (op_eqD hr.units) (pe_ix ix_tup (pv 0) pe_int (fun _ _ => rfl)) pe_str (nomark _)) (pss_one (ps_ret (pe_dget (hu_of hr) (pv 1) (pe_ix ix_tup (pv 0) pe_int (fun _ _ => rfl)) (fun _ _ => rfl)))) pss_nil)
  (pss_cons (ps_if (pt_cmpR (op_eqD hr.units) (pe_ix ix_tup (pv 0) pe_int (fun _ _ => rfl)) pe_str (nomark _)) (pss_one (ps_ret (pe_G G_times hgd (hr.mono (by omega)) (by rfl) T.g_times T.k_times T.b_times .nil (fun σ => passAt (takes_of rfl rfl rfl rfl) σ) (pa_cons (pe_ix ix_tup (pv 0) pe_int (fun _ _ => rfl)) (pa_cons (pe_G G__law_worth hgd (hr.mono (by omega)) (by rfl) T.g__law_worth T.k__law_worth T.b__law_worth .nil (fun σ => passAt (takes_of rfl rfl rfl rfl) σ) (pa_cons (pe_ix ix_tup (pv 0) pe_int (fun _ _ => rfl)) (pa_cons (pv 1) pa_nil))) pa_nil))))) pss_nil)
  (pss_cons (ps_par (i := 2) (j := 3) (by rfl) sc__law_worth.nd rfl rfl (by decide) rfl rfl (pa_cons (pe_G G__law_worth hgd (hr.mono (by omega)) (by rfl) T.g__law_worth T.k__law_worth T.b__law_worth .nil (fun σ => passAt (takes_of rfl rfl rfl rfl) σ) (pa_cons (pe_ix ix_tup (pv 0) pe_int (fun _ _ => rfl)) (pa_cons (pv 1) pa_nil))) (pa_cons (pe_G G__law_worth hgd (hr.mono (by omega)) (by rfl) T.g__law_worth T.k__law_worth T.b__law_worth .nil (fun σ => passAt (takes_of rfl rfl rfl rfl) σ) (pa_cons (pe_ix ix_tup (pv 0) pe_int (fun _ _ => rfl)) (pa_cons (pv 1) pa_nil))) pa_nil)) (by rfl))
  (pss_one (ps_ret (pe_pick (pe_ix ix_list (pe_lst (pa_cons (pe_glob (v := (.ref A.f_minus)) (by rfl) T.g_minus rfl) (pa_cons (pe_glob (v := (.ref A.f_plus)) (by rfl) T.g_plus rfl) pa_nil))) (pe_callTy call_int1 (by rfl) T.z_int (by decide +kernel) (pa_cons (pe_cmpR (op_eqD hr.units) (pe_ix ix_tup (pv 0) pe_int (fun _ _ => rfl)) pe_str (nomark _)) pa_nil)) (fun _ _ => rfl)) G_minus G_plus hgd (hr.mono (by omega)) (hr.mono (by omega)) T.k_minus T.k_plus T.b_minus T.b_plus (fun σ => passAt (takes_of rfl rfl rfl rfl) σ) (pa_cons (pv 2) (pa_cons (pv 3) pa_nil))))))))), ?_⟩
    rintro ⟨l, kvs⟩ ⟨hl, hk, hne, hz, hb, hw⟩
    show SX K _ _ [.dat (encL l), .dat (numD kvs), .no, .no] _
    try dsimp only [bodyK] at *
    have hl : l.deep < dep + 1 := hl
    have hb : bitsL l ≤ 3500 := hb
    have hk : okL l := hk
    have hw : ∃ w, worthL kvs l = some w := hw
    have hne : kvs ≠ [] := hne
    have hne2 : (kvs.map fun p => ((.inr p.1 : Key), dR p.2)) ≠ [] := fun z => hne (List.map_eq_nil_iff.mp z)
    have w : ∀ {W : WX} {x : Str} {t u : TS} {δ : Sto} {R : Ends3} {ds : List PyData} {y : Str}, δ = [.dat (.tuple (.str y :: ds)), .dat (numD kvs), .no, .no] → SeqAt.shaped (.str y) = true → SeqAt.shaped (.str x) = true →
        (decide (y = x) = true → SX K W t δ (R.nxt fun δ' => SX K W u δ' R)) → (decide (y = x) = false → SX K W u δ R) → SX K W (tSeq (tIfS (tTest (tOp (rEqD K) (tOp (rIxT K) (tVar 0) (tC (.int 0))) (tC (.str x)))) t tNext) u) δ R := fun e s1 s2 q1 q2 => by
      subst e
      refine sx_guard _ (tx_test (ex_op (ex_op (ex_var rfl (ex_int (rx_ixT (atI_nat (j := 0) rfl) (ex_str (rx_eqD s1 s2 ⟨_, rfl, rfl, rfl⟩)))))))) (fun h => q1 ?_) (fun h => q2 ?_)
      · rw [← h]; simp only [PyData.eqv]; rw [Bool.eq_iff_iff]; simp
      · rw [← h]; simp only [PyData.eqv]; rw [Bool.eq_iff_iff]; simp
    cases l with
    | num q =>
      show SX K _ _ [.dat (.tuple [.str "num", dR q]), .dat (numD kvs), .no, .no] _
      refine w rfl shaped_s1 shaped_s1 (fun _ => ?_) (fun h => absurd h (by decide))
      exact sx_ret (ex_op (ex_var rfl (ex_int (rx_ixT (atI_nat (j := 1) rfl) ⟨_, rfl, q, rfl, rfl, (show Sz 62 q from hk).mono (by show 62 ≤ 100; decide)⟩))))
    | of x =>
      show SX K _ _ [.dat (.tuple [.str "of", .str x]), .dat (numD kvs), .no, .no] _
      refine w rfl shaped_s2 shaped_s1 (fun h => absurd h (by decide)) (fun _ => ?_)
      refine w rfl shaped_s2 shaped_s2 (fun _ => ?_) (fun h => absurd h (by decide))
      have e := lk_num kvs x
      obtain ⟨q, hq⟩ := hw
      have hq : lkN kvs x = some q := hq
      obtain ⟨k, hm⟩ := lkN_mem hq
      refine sx_ret (ex_dget hne2 (ex_var rfl ⟨rfl, ex_op (ex_var rfl (ex_int (rx_ixT (atI_nat (j := 1) rfl) ⟨.inr x, dR q, rfl, by rw [e, hq]; rfl, _, rfl, q, hq, rfl, hz _ hm⟩)))⟩))
    | times q l =>
      show SX K _ _ [.dat (.tuple [.str "times", dR q, encL l]), .dat (numD kvs), .no, .no] _
      refine w rfl shaped_s3 shaped_s1 (fun h => absurd h (by decide)) (fun _ => ?_)
      refine w rfl shaped_s3 shaped_s2 (fun h => absurd h (by decide)) (fun _ => ?_)
      refine w rfl shaped_s3 shaped_s3 (fun _ => ?_) (fun h => absurd h (by decide))
      have hl : l.deep + 1 < dep + 1 := hl
      have hb : 62 + bitsL l ≤ 3500 := hb
      obtain ⟨p, hp⟩ : ∃ p, worthL kvs l = some p := by
        cases h1 : worthL kvs l with
        | none => simp [worthL, h1] at hw
        | some p => exact ⟨p, rfl⟩
      refine sx_ret (ex_call (fun _ => .nil) (ax_cons (ex_op (ex_var rfl (ex_int (rx_ixT (atI_nat (j := 1) rfl) (ax_cons (ex_call (fun _ => .nil) (ax_cons (ex_op (ex_var rfl (ex_int (rx_ixT (atI_nat (j := 2) rfl) (ax_cons (ex_var rfl (ax_nil ?_))))))))))))))))
      refine ⟨[_, _], (l, kvs), rfl, rfl, rfl, ⟨by show l.deep < dep; omega, hk.2, hne, hz, by show bitsL l ≤ 3500; omega, _, hp⟩, fun r hr => ?_, fun C hC => hC.elim⟩
      obtain ⟨p', hp', rfl, zp⟩ := hr
      have zp : Sz (bitsL l) p' := zp
      have hp' : worthL kvs l = some p' := hp'
      exact ax_nil ⟨[_, _], (q, p'), rfl, rfl, rfl, ⟨hk.1.mono (by decide), zp.mono (by omega)⟩, fun r hr => ⟨_, rfl, q * p', by show (worthL kvs l).map _ = _; rw [hp']; rfl, hr, sz_mul2 hk.1 zp⟩, fun C hC => hC.elim⟩
    | plus a b =>
      show SX K _ _ [.dat (.tuple [.str "plus", encL a, encL b]), .dat (numD kvs), .no, .no] _
      refine w rfl shaped_s5 shaped_s1 (fun h => absurd h (by decide)) (fun _ => ?_)
      refine w rfl shaped_s5 shaped_s2 (fun h => absurd h (by decide)) (fun _ => ?_)
      refine w rfl shaped_s5 shaped_s3 (fun h => absurd h (by decide)) (fun _ => ?_)
      have hl : max a.deep b.deep + 1 < dep + 1 := hl
      have hb : bitsL a + bitsL b + 1 ≤ 3500 := hb
      obtain ⟨p, q, hp, hq⟩ : ∃ p q, worthL kvs a = some p ∧ worthL kvs b = some q := by
        cases h1 : worthL kvs a with
        | none => simp [worthL, h1] at hw
        | some p => cases h2 : worthL kvs b with
          | none => simp [worthL, h1, h2] at hw
          | some q => exact ⟨p, q, rfl, rfl⟩
      refine sx_seq (sx_par (ax_cons (ex_call (fun _ => .nil) (ax_cons (ex_op (ex_var rfl (ex_int (rx_ixT (atI_nat (j := 1) rfl) (ax_cons (ex_var rfl (ax_nil ?_)))))))))))
      refine ⟨[_, _], (a, kvs), rfl, rfl, rfl, ⟨by show a.deep < dep; omega, hk.1, hne, hz, by show bitsL a ≤ 3500; omega, _, hp⟩, fun r hr => ?_, fun C hC => hC.elim⟩
      obtain ⟨p', hp', rfl, zp⟩ := hr
      have ep : p' = p := Option.some.inj (hp'.symm.trans hp)
      subst ep
      refine ax_cons (ex_call (fun _ => .nil) (ax_cons (ex_op (ex_var rfl (ex_int (rx_ixT (atI_nat (j := 2) rfl) (ax_cons (ex_var rfl (ax_nil ?_)))))))))
      refine ⟨[_, _], (b, kvs), rfl, rfl, rfl, ⟨by show b.deep < dep; omega, hk.2, hne, hz, by show bitsL b ≤ 3500; omega, _, hq⟩, fun r hr => ?_, fun C hC => hC.elim⟩
      obtain ⟨q', hq', rfl, zq⟩ := hr
      have eq : q' = q := Option.some.inj (hq'.symm.trans hq)
      subst eq
      have zp : Sz (bitsL a) p' := zp
      have zq : Sz (bitsL b) q' := zq
      refine ax_nil ⟨_, _, rfl, ?_⟩
      dsimp only [List.set_cons_zero, List.set_cons_succ]
      refine sx_ret (ex_pick (ex_ixTwo (ex_CB (ax_cons (ex_op (ex_op (ex_var rfl (ex_int (rx_ixT (atI_nat (j := 0) rfl) (ex_str (rx_eqD shaped_s5 shaped_s5 (ax_nil (vx_intB ?_)))))))))))))
      refine .inr ⟨rfl, .inr ⟨rfl, ex_call (fun _ => .nil) (ax_cons (ex_var rfl (ax_cons (ex_var rfl (ax_nil ?_)))))⟩⟩
      exact ⟨[_, _], (p', q'), rfl, rfl, rfl, ⟨zp.mono (by omega), zq.mono (by omega)⟩, fun r hr => ⟨_, rfl, p' + q', by show (worthL kvs a).bind _ = _; rw [hp]; show (worthL kvs b).map _ = _; rw [hq]; rfl, hr, sz_add2 zp zq⟩, fun C hC => hC.elim⟩
    | minus a b =>
      show SX K _ _ [.dat (.tuple [.str "minus", encL a, encL b]), .dat (numD kvs), .no, .no] _
      refine w rfl shaped_s6 shaped_s1 (fun h => absurd h (by decide)) (fun _ => ?_)
      refine w rfl shaped_s6 shaped_s2 (fun h => absurd h (by decide)) (fun _ => ?_)
      refine w rfl shaped_s6 shaped_s3 (fun h => absurd h (by decide)) (fun _ => ?_)
      have hl : max a.deep b.deep + 1 < dep + 1 := hl
      have hb : bitsL a + bitsL b + 1 ≤ 3500 := hb
      obtain ⟨p, q, hp, hq⟩ : ∃ p q, worthL kvs a = some p ∧ worthL kvs b = some q := by
        cases h1 : worthL kvs a with
        | none => simp [worthL, h1] at hw
        | some p => cases h2 : worthL kvs b with
          | none => simp [worthL, h1, h2] at hw
          | some q => exact ⟨p, q, rfl, rfl⟩
      refine sx_seq (sx_par (ax_cons (ex_call (fun _ => .nil) (ax_cons (ex_op (ex_var rfl (ex_int (rx_ixT (atI_nat (j := 1) rfl) (ax_cons (ex_var rfl (ax_nil ?_)))))))))))
      refine ⟨[_, _], (a, kvs), rfl, rfl, rfl, ⟨by show a.deep < dep; omega, hk.1, hne, hz, by show bitsL a ≤ 3500; omega, _, hp⟩, fun r hr => ?_, fun C hC => hC.elim⟩
      obtain ⟨p', hp', rfl, zp⟩ := hr
      have ep : p' = p := Option.some.inj (hp'.symm.trans hp)
      subst ep
      refine ax_cons (ex_call (fun _ => .nil) (ax_cons (ex_op (ex_var rfl (ex_int (rx_ixT (atI_nat (j := 2) rfl) (ax_cons (ex_var rfl (ax_nil ?_)))))))))
      refine ⟨[_, _], (b, kvs), rfl, rfl, rfl, ⟨by show b.deep < dep; omega, hk.2, hne, hz, by show bitsL b ≤ 3500; omega, _, hq⟩, fun r hr => ?_, fun C hC => hC.elim⟩
      obtain ⟨q', hq', rfl, zq⟩ := hr
      have eq : q' = q := Option.some.inj (hq'.symm.trans hq)
      subst eq
      have zp : Sz (bitsL a) p' := zp
      have zq : Sz (bitsL b) q' := zq
      refine ax_nil ⟨_, _, rfl, ?_⟩
      dsimp only [List.set_cons_zero, List.set_cons_succ]
      refine sx_ret (ex_pick (ex_ixTwo (ex_CB (ax_cons (ex_op (ex_op (ex_var rfl (ex_int (rx_ixT (atI_nat (j := 0) rfl) (ex_str (rx_eqD shaped_s6 shaped_s5 (ax_nil (vx_intB ?_)))))))))))))
      refine .inl ⟨rfl, .inl ⟨rfl, ex_call (fun _ => .nil) (ax_cons (ex_var rfl (ax_cons (ex_var rfl (ax_nil ?_)))))⟩⟩
      exact ⟨[_, _], (p', q'), rfl, rfl, rfl, ⟨zp.mono (by omega), zq.mono (by omega)⟩, fun r hr => ⟨_, rfl, p' - q', by show (worthL kvs a).bind _ = _; rw [hp]; show (worthL kvs b).map _ = _; rw [hq]; rfl, hr, sz_sub2 zp zq⟩, fun C hC => hC.elim⟩
abbrev sp_law (K : PySem.W.Frag) (A : Ad) : Sp := spScript K
theorem ok_law {P : Program} {w : World} {K : PySem.W.Frag} {mg : Str → Option Value} {base : Heap} {A : Ad} (T : Txt K mg A) (G__law_draws : FnG P w K mg base 1 A.f__law_draws A.d__law_draws ["script"] (sp__law_draws K A)) (G__law_ratio : FnG P w K mg base 2 A.f__law_ratio A.d__law_ratio ["draws"] (sp__law_ratio K A)) (G__law_small : FnG P w K mg base 2 A.f__law_small A.d__law_small ["draws"] (sp__law_small K A)) (G_ratio : FnG P w K mg base 1 A.f_ratio A.d_ratio ["above", "below"] (sp_ratio K A)) (G__law_any_length : FnG P w K mg base 6 A.f__law_any_length A.d__law_any_length ["draws", "depth"] (sp__law_any_length K A)) (G__law_bent : FnG P w K mg base 2 A.f__law_bent A.d__law_bent ["draws", "value"] (sp__law_bent K A)) (G_is_length : FnG P w K mg base 13 A.f_is_length A.d_is_length ["value"] (sp_is_length K A)) (G_length_worth : FnG P w K mg base 12 A.f_length_worth A.d_length_worth ["length", "numbers"] (sp_length_worth K A)) (G_plus : FnG P w K mg base 2 A.f_plus A.d_plus ["one", "other"] (sp_plus K A)) (G__law_names : FnG P w K mg base 9 A.f__law_names A.d__law_names ["length"] (sp__law_names K A)) (G_numbers_in : FnG P w K mg base 10 A.f_numbers_in A.d_numbers_in ["length"] (sp_numbers_in K A)) (G__law_is_right : FnG P w K mg base 11 A.f__law_is_right A.d__law_is_right ["value", "depth"] (sp__law_is_right K A)) (G_times : FnG P w K mg base 2 A.f_times A.d_times ["one", "other"] (sp_times K A)) (G__law_told : FnG P w K mg base 13 A.f__law_told A.d__law_told ["length", "numbers"] (sp__law_told K A)) (G__law_worth : FnG P w K mg base 12 A.f__law_worth A.d__law_worth ["length", "numbers"] (sp__law_worth K A)) (G_growth : FnG P w K mg base 12 A.f_growth A.d_growth ["length", "name"] (sp_growth K A)) (G_minus : FnG P w K mg base 3 A.f_minus A.d_minus ["one", "other"] (sp_minus K A)) :
    FnG P w K mg base 14 A.f_law A.d_law ["script"] (sp_law K A) := by
  refine fn_data T.F_law sc_law rfl fun cdv A' outer s H E hgd hr => ⟨_, (pss_cons (ps_set (i := 1) sc_law.nd rfl (.inl rfl) (pe_G G__law_draws hgd (hr.mono (by decide)) (by rfl) T.g__law_draws T.k__law_draws T.b__law_draws .nil (fun σ => passAt (takes_of rfl rfl rfl rfl) σ) (pa_cons (pv 0) pa_nil)))
  (pss_cons (ps_set (i := 2) sc_law.nd rfl (.inr rfl) (pe_frz (pe_disp (pps_cons pe_str (pe_G G__law_ratio hgd (hr.mono (by decide)) (by rfl) T.g__law_ratio T.k__law_ratio T.b__law_ratio .nil (fun σ => passAt (takes_of rfl rfl rfl rfl) σ) (pa_cons (pv 1) pa_nil)) (pps_cons pe_str (pe_G G__law_small hgd (hr.mono (by decide)) (by rfl) T.g__law_small T.k__law_small T.b__law_small .nil (fun σ => passAt (takes_of rfl rfl rfl rfl) σ) (pa_cons (pv 1) pa_nil)) (pps_cons pe_str (pe_G G__law_ratio hgd (hr.mono (by decide)) (by rfl) T.g__law_ratio T.k__law_ratio T.b__law_ratio .nil (fun σ => passAt (takes_of rfl rfl rfl rfl) σ) (pa_cons (pv 1) pa_nil)) (pps_cons pe_str (pe_G G_ratio hgd (hr.mono (by decide)) (by rfl) T.g_ratio T.k_ratio T.bd_ratio T.vd_ratio (fun σ => passAt (takes_of rfl rfl rfl rfl) σ) (pa_cons pe_int pa_nil)) pps_nil)))) (by decide) (by decide) (by decide) (by decide))))
  (pss_cons (ps_for (passes_of rfl) rfl (pi_range1 (by rfl) T.z_range (pa_cons pe_int pa_nil)) (pg_name (i := 3) sc_law.nd rfl (.inl rfl)) (pss_cons (ps_set (i := 4) sc_law.nd rfl (.inl rfl) (pe_G G__law_any_length hgd (hr.mono (by decide)) (by rfl) T.g__law_any_length T.k__law_any_length T.b__law_any_length .nil (fun σ => passAt (takes_of rfl rfl rfl rfl) σ) (pa_cons (pv 1) (pa_cons pe_int pa_nil))))
  (pss_cons (ps_if (PW.pt (pw_or (pt_cmpR op_isnot_bl (pe_G G_is_length hgd (hr.mono (by decide)) (by rfl) T.g_is_length T.k_is_length T.b_is_length .nil (fun σ => passAt (takes_of rfl rfl rfl rfl) σ) (pa_cons (pv 4) pa_nil)) pe_bl (nomark _)) (pw_or1 (pt_cmpR op_ne (pe_callB (cr_repr hgd hr.units) (by rfl) T.z_repr (by decide +kernel) (pa_cons (pe_G G__law_told hgd (hr.mono (by decide)) (by rfl) T.g__law_told T.k__law_told T.b__law_told .nil (fun σ => passAt (takes_of rfl rfl rfl rfl) σ) (pa_cons (pv 4) (pa_cons (pv 2) pa_nil))) pa_nil)) (pe_callB (cr_repr hgd hr.units) (by rfl) T.z_repr (by decide +kernel) (pa_cons (pe_G G__law_worth hgd (hr.mono (by decide)) (by rfl) T.g__law_worth T.k__law_worth T.b__law_worth .nil (fun σ => passAt (takes_of rfl rfl rfl rfl) σ) (pa_cons (pv 4) (pa_cons (pv 2) pa_nil))) pa_nil)) (nomark _))))) (pss_one (ps_ret pe_bl)) pss_nil)
  (pss_cons (ps_set (i := 5) sc_law.nd rfl (.inl rfl) (pe_sortset rfl (by rfl) T.z_sorted (by rfl) T.z_set (pe_G G__law_names hgd (hr.mono (by decide)) (by rfl) T.g__law_names T.k__law_names T.b__law_names .nil (fun σ => passAt (takes_of rfl rfl rfl rfl) σ) (pa_cons (pv 4) pa_nil))))
  (pss_cons (ps_if (pt_cmpR op_ne (pe_callB (cr_repr hgd hr.units) (by rfl) T.z_repr (by decide +kernel) (pa_cons (pe_G G_numbers_in hgd (hr.mono (by decide)) (by rfl) T.g_numbers_in T.k_numbers_in T.b_numbers_in .nil (fun σ => passAt (takes_of rfl rfl rfl rfl) σ) (pa_cons (pv 4) pa_nil)) pa_nil)) (pe_callB (cr_repr hgd hr.units) (by rfl) T.z_repr (by decide +kernel) (pa_cons (pv 5) pa_nil)) (nomark _)) (pss_one (ps_ret pe_bl)) pss_nil)
  (pss_cons (ps_for (passes_of rfl) rfl (pi_list (pe_lst (pa_cons pe_str (pa_cons pe_str (pa_cons pe_str (pa_cons pe_str pa_nil)))))) (pg_name (i := 6) sc_law.nd rfl (.inr rfl)) (pss_cons (ps_set (i := 7) sc_law.nd rfl (.inl rfl) (pe_callTy (call_dictC (K := K)) (by rfl) T.z_dict (by decide +kernel) (pa_cons (pv 2) pa_nil)))
  (pss_cons (ps_dput (hu_of hr) (pv 7) (pv 6) (pe_G G_plus hgd (hr.mono (by decide)) (by rfl) T.g_plus T.k_plus T.b_plus .nil (fun σ => passAt (takes_of rfl rfl rfl rfl) σ) (pa_cons (pe_dget (hu_of hr) (pv 2) (pv 6) (fun _ _ => rfl)) (pa_cons (pe_G G_ratio hgd (hr.mono (by decide)) (by rfl) T.g_ratio T.k_ratio T.bd_ratio T.vd_ratio (fun σ => passAt (takes_of rfl rfl rfl rfl) σ) (pa_cons pe_int pa_nil)) pa_nil))) rfl)
  (pss_cons (ps_frz (ps_if (pt_cmpR op_ne (pe_callB (cr_repr hgd hr.units) (by rfl) T.z_repr (by decide +kernel) (pa_cons (pe_G G_growth hgd (hr.mono (by decide)) (by rfl) T.g_growth T.k_growth T.b_growth .nil (fun σ => passAt (takes_of rfl rfl rfl rfl) σ) (pa_cons (pv 4) (pa_cons (pv 6) pa_nil))) pa_nil)) (pe_callB (cr_repr hgd hr.units) (by rfl) T.z_repr (by decide +kernel) (pa_cons (pe_G G_minus hgd (hr.mono (by decide)) (by rfl) T.g_minus T.k_minus T.b_minus .nil (fun σ => passAt (takes_of rfl rfl rfl rfl) σ) (pa_cons (pe_G G__law_worth hgd (hr.mono (by decide)) (by rfl) T.g__law_worth T.k__law_worth T.b__law_worth .nil (fun σ => passAt (takes_of rfl rfl rfl rfl) σ) (pa_cons (pv 4) (pa_cons (pv 7) pa_nil))) (pa_cons (pe_G G__law_worth hgd (hr.mono (by decide)) (by rfl) T.g__law_worth T.k__law_worth T.b__law_worth .nil (fun σ => passAt (takes_of rfl rfl rfl rfl) σ) (pa_cons (pv 4) (pa_cons (pv 2) pa_nil))) pa_nil))) pa_nil)) (nomark _)) (pss_one (ps_ret pe_bl)) pss_nil))
  (pss_cons (ps_set (i := 8) sc_law.nd rfl (.inl rfl) (pe_frz (pe_callTy (call_dictP rfl) (by rfl) T.z_dict (by decide +kernel) (pa_cons (pe_lc (own := [("other", 13)]) (g := (gName 13)) (by rfl) sc_law.nd (pi_keys (pv 2)) (blkOk_by (own := [("other", 13)]) (N := ["script", "draws", "numbers", "turn", "length", "names", "name", "more", "less", "value", "deep", "k", "told", "other"]) (sc := defScope s_law) (by decide +kernel)) (fun _ _ _ _ _ => (pg_name (i := 13) sc_law.nd rfl (.inl rfl))) (fun _ _ _ _ _ => (pts_one (pt_cmpR (show OpR _ (compareOp .NotEq) (rNeD K) from op_neD hr.units) (pv 13) (pv 6) (nomark _)))) (fun _ _ _ _ _ => (pe_tup (pa_cons (pv 13) (pa_cons (pe_dget (hu_of hr) (pv 2) (pv 13) (fun _ _ => rfl)) pa_nil))))) pa_nil))))
  (pss_one (ps_if (pt_cmpR (op_neD hr.units) (pe_cmpR (op_eqD hr.units) (pe_G G__law_told hgd (hr.mono (by decide)) (by rfl) T.g__law_told T.k__law_told T.b__law_told .nil (fun σ => passAt (takes_of rfl rfl rfl rfl) σ) (pa_cons (pv 4) (pa_cons (pv 8) pa_nil))) pe_str (nomark _)) (pe_cmpR (op_inD (units65 hr)) (pv 6) (pv 5) rfl) (nomark _)) (pss_one (ps_ret pe_bl)) pss_nil)))))))
  (pss_cons (ps_set (i := 9) sc_law.nd rfl (.inl rfl) (pe_G G__law_bent hgd (hr.mono (by decide)) (by rfl) T.g__law_bent T.k__law_bent T.b__law_bent .nil (fun σ => passAt (takes_of rfl rfl rfl rfl) σ) (pa_cons (pv 1) (pa_cons (pv 4) pa_nil))))
  (pss_one (ps_if (pt_cmpR op_ne (pe_callB (cr_repr hgd hr.units) (by rfl) T.z_repr (by decide +kernel) (pa_cons (pe_G G_is_length hgd (hr.mono (by decide)) (by rfl) T.g_is_length T.k_is_length T.b_is_length .nil (fun σ => passAt (takes_of rfl rfl rfl rfl) σ) (pa_cons (pv 9) pa_nil)) pa_nil)) (pe_callB (cr_repr hgd hr.units) (by rfl) T.z_repr (by decide +kernel) (pa_cons (pe_G G__law_is_right hgd (hr.mono (by decide)) (by rfl) T.g__law_is_right T.k__law_is_right T.b__law_is_right .nil (fun σ => passAt (takes_of rfl rfl rfl rfl) σ) (pa_cons (pv 9) (pa_cons pe_int pa_nil))) pa_nil)) (nomark _)) (pss_one (ps_ret pe_bl)) pss_nil)))))))))
  (pss_cons (ps_set (i := 10) sc_law.nd rfl (.inl rfl) (pe_tup (pa_cons pe_str (pa_cons pe_str pa_nil))))
  (pss_cons (ps_for (passes_of rfl) rfl (pi_range1 (by rfl) T.z_range (pa_cons pe_int pa_nil)) (pg_name (i := 11) sc_law.nd rfl (.inl rfl)) (pss_one (ps_set (i := 10) sc_law.nd rfl (.inl rfl) (pe_tup (pa_cons pe_str (pa_cons (pe_G G_ratio hgd (hr.mono (by decide)) (by rfl) T.g_ratio T.k_ratio T.bd_ratio T.vd_ratio (fun σ => passAt (takes_of rfl rfl rfl rfl) σ) (pa_cons pe_int pa_nil)) (pa_cons (pv 10) pa_nil)))))))
  (pss_cons (ps_set (i := 12) sc_law.nd rfl (.inl rfl) (pe_lst (pa_cons (pe_G G_is_length hgd (hr.mono (by decide)) (by rfl) T.g_is_length T.k_is_length T.b_is_length .nil (fun σ => passAt (takes_of rfl rfl rfl rfl) σ) (pa_cons (pv 10) pa_nil)) (pa_cons (pe_G G_is_length hgd (hr.mono (by decide)) (by rfl) T.g_is_length T.k_is_length T.b_is_length .nil (fun σ => passAt (takes_of rfl rfl rfl rfl) σ) (pa_cons (pe_tup (pa_cons pe_str (pa_cons (pe_tup (pa_cons pe_str (pa_cons (pe_G G_ratio hgd (hr.mono (by decide)) (by rfl) T.g_ratio T.k_ratio T.bd_ratio T.vd_ratio (fun σ => passAt (takes_of rfl rfl rfl rfl) σ) (pa_cons pe_int pa_nil)) pa_nil))) (pa_cons (pv 10) pa_nil)))) pa_nil)) (pa_cons (pe_G G_length_worth hgd (hr.mono (by decide)) (by rfl) T.g_length_worth T.k_length_worth T.b_length_worth .nil (fun σ => passAt (takes_of rfl rfl rfl rfl) σ) (pa_cons (pv 10) (pa_cons (pv 2) pa_nil))) pa_nil)))))
  (pss_one (ps_ret (pe_cmpR op_eq (pe_callB (cr_repr hgd hr.units) (by rfl) T.z_repr (by decide +kernel) (pa_cons (pv 12) pa_nil)) (pe_callB (cr_repr hgd hr.units) (by rfl) T.z_repr (by decide +kernel) (pa_cons (pe_lst (pa_cons pe_bl (pa_cons pe_bl (pa_cons (pe_G G_times hgd (hr.mono (by decide)) (by rfl) T.g_times T.k_times T.b_times .nil (fun σ => passAt (takes_of rfl rfl rfl rfl) σ) (pa_cons (pe_G G_ratio hgd (hr.mono (by decide)) (by rfl) T.g_ratio T.k_ratio T.bd_ratio T.vd_ratio (fun σ => passAt (takes_of rfl rfl rfl rfl) σ) (pa_cons pe_int pa_nil)) (pa_cons (pe_dget (hu_of hr) (pv 2) pe_str (fun _ _ => rfl)) pa_nil))) pa_nil)))) pa_nil)) (nomark _)))))))))), ?_⟩
  intro ns hl
  show SX K _ _ [.dat (.list (ns.map .int)), .no, .no, .no, .no, .no, .no, .no, .no, .no, .no, .no, .no, .no] _
  try dsimp only [bodyK] at *
  refine sx_seq (sx_asgF (fx_call ?_))
  repeat walk_at "m3e"
  refine ⟨[_], ns, rfl, rfl, rfl, hl, fun es hd p => ?_⟩
  dsimp only [List.set_cons_zero, List.set_cons_succ]
  refine sx_seq (sx_asg (ex_frzN (nx_disp (px_cons (ex_str ⟨.inr "a", rfl, ex_callM (ax_cons (ex_mvar rfl (ax_nil ⟨(), p, _, rfl, rfl, rfl, hd, fun d fs h => ?_⟩)))⟩)))))
  obtain ⟨hd, qa, rfl, za⟩ := h
  refine ⟨_, rfl, px_cons (ex_str ⟨.inr "b2", rfl, ex_callM (ax_cons (ex_mvar rfl (ax_nil ⟨(), p, _, rfl, rfl, rfl, hd, fun d fs h => ?_⟩)))⟩)⟩
  obtain ⟨hd, qb, rfl, zb⟩ := h
  refine ⟨_, rfl, px_cons (ex_str ⟨.inr "w", rfl, ex_callM (ax_cons (ex_mvar rfl (ax_nil ⟨(), p, _, rfl, rfl, rfl, hd, fun d fs h => ?_⟩)))⟩)⟩
  obtain ⟨hd, qw, rfl, zw⟩ := h
  refine ⟨_, rfl, px_cons (ex_str ⟨.inr "x", rfl, ex_call (dds := [.int 1]) (fun _ => .cons (.int 1) .nil) (ax_cons (ex_int (ax_nil ⟨[_], (9, 1), rfl, rfl, rfl, ⟨Bd.lit (by decide +kernel), Bd.lit (by decide +kernel)⟩, fun r hr => ⟨r, rfl, px_nil ⟨Nat.le_of_ble_eq_true rfl, ?_⟩⟩, fun C hC => absurd hC.1 (by decide)⟩)))⟩)⟩
  obtain ⟨_, rfl⟩ := hr
  refine ⟨_, rfl, _, rfl, ?_⟩
  dsimp only [List.set_cons_zero, List.set_cons_succ]
  rw [show (dR (Rat.divInt (9 : Int) (1 : Int))) = dR 9 from congrArg dR (by decide +kernel), merge_nums]
  have zN := nums_sz za zb zw
  refine sx_cut (fun δ' => ∃ (es : List PyData) (o3 o4 o5 o6 o7 o8 o9 : Sl), Drw es ∧ δ' = [.dat (.list (ns.map .int)), .ml p es, .dat (numD (numsL qa qb qw)), o3, o4, o5, o6, o7, o8, o9, .no, .no, .no, .no]) ?_ ?_
  · refine sx_forR1 tg_name (fun t δ' => ∃ (es : List PyData) (o3 o4 o5 o6 o7 o8 o9 : Sl), Drw es ∧ δ' = [.dat (.list (ns.map .int)), .ml p es, .dat (numD (numsL qa qb qw)), o3, o4, o5, o6, o7, o8, o9, .no, .no, .no, .no]) ?_
    repeat walk_at "m3e"
    refine ⟨by decide, ⟨_, _, _, _, _, _, _, _, hd, rfl⟩, ?_, fun δ' q => q⟩
    rintro t x δ' ht ⟨es, o3, o4, o5, o6, o7, o8, o9, hd, rfl⟩
    refine ⟨trivial, ?_⟩
    dsimp only [List.set_cons_zero, List.set_cons_succ]
    -- length
    refine sx_seq (sx_asg (ex_callM (ax_cons (ex_mvar rfl (ax_cons (ex_int (ax_nil ⟨3, p, _, rfl, rfl, rfl, ⟨hd, by decide⟩, fun d fs h => ?_⟩)))))))
    obtain ⟨hd, l, rfl, gl, dl⟩ := h
    refine ⟨_, rfl, ?_⟩
    dsimp only [List.set_cons_zero, List.set_cons_succ]
    have hb := bits_3 dl
    obtain ⟨wl, hw⟩ := worth_nums gl qa qb qw
    have nm : ∀ x ∈ namesL l, isName (.str x) = true := fun x hx => (name_abw (names_good gl x hx)).1
    have n8 := names_8 dl
    -- is_length, worth
    refine sx_guard false ?_ (fun h => by cases h) (fun _ => ?_)
    · refine tx_or (tx_test (ex_op (ex_call (fun _ => .nil) (ax_cons (ex_var rfl (ax_nil ?_))))))
      refine ⟨[_], encL l, rfl, rfl, rfl, okN_enc gl (by omega), fun d hd2 => ?_, fun C hC => hC.elim⟩
      subst hd2
      refine ex_bl (rx_isnB ⟨_, rfl, fun h => ?_, fun _ => ?_⟩)
      · rw [nest_enc 8 nm, decide_eq_true (show l.deep < 8 by omega)] at h
        simp at h
      refine tx_test (ex_op (ex_CB (ax_cons (ex_call (fun _ => .nil) (ax_cons (ex_var rfl (ax_cons (ex_var rfl (ax_nil ?_)))))))))
      refine ⟨[_, _], (l, numsL qa qb qw), rfl, rfl, rfl, ⟨by show l.deep < 9; omega, okL_good gl, nums_ne qa qb qw, zN, by show bitsL l ≤ 3500; omega⟩, fun r hr => ?_, fun C hC => hC.elim⟩
      obtain ⟨w1, hw1, rfl, z1⟩ : ∃ w, worthL (numsL qa qb qw) l = some w ∧ r = dR w ∧ Sz (bitsL l) w := by
        rcases hr with hr | ⟨hn, _⟩
        · exact hr
        · have hn : worthL (numsL qa qb qw) l = none := hn
          rw [hn] at hw; cases hw
      refine ax_nil (vx_repr (rp_dR z1 (by omega)) (by decide) (by decide) ?_)
      refine ex_CB (ax_cons (ex_call (fun _ => .nil) (ax_cons (ex_var rfl (ax_cons (ex_var rfl (ax_nil ?_)))))))
      refine ⟨[_, _], (l, numsL qa qb qw), rfl, rfl, rfl, ⟨by show l.deep < 9; omega, okL_good gl, nums_ne qa qb qw, zN, by show bitsL l ≤ 3500; omega, _, hw⟩, fun r hr => ?_, fun C hC => hC.elim⟩
      obtain ⟨w2, hw2, rfl, z2⟩ := hr
      have e2 : w2 = w1 := Option.some.inj ((show worthL (numsL qa qb qw) l = some w2 from hw2).symm.trans hw1)
      subst e2
      exact ax_nil (vx_repr (rp_dR z1 (by omega)) (by decide) (by decide) (rx_neS ⟨_, rfl, shown_ne _, rfl⟩))
    -- names
    refine sx_seq (sx_asg (ex_F (p := fun ds δ' => ∃ ss, SortOf ss (namesL l) ∧ ds = ss.map .str ∧ δ' = [.dat (.list (ns.map .int)), .ml p fs, .dat (numD (numsL qa qb qw)), .dat x, .dat (encL l), o5, o6, o7, o8, o9, .no, .no, .no, .no]) (fx_sortset (ex_call (fun _ => .nil) (ax_cons (ex_var rfl (ax_nil ⟨[_], l, rfl, rfl, rfl, ⟨by show l.deep < 9; omega, by omega⟩, fun r hr => ⟨namesL l, congrArg Vw.d hr, by omega, fun ss so => ⟨ss, so, rfl, rfl⟩⟩, fun C hC => hC.elim⟩))))) fun ds δ' h => ?_))
    obtain ⟨ss, so, rfl, rfl⟩ := h
    refine ⟨_, rfl, ?_⟩
    dsimp only [List.set_cons_zero, List.set_cons_succ]
    obtain ⟨sa, s3⟩ := sorted_names gl so
    refine sx_guard false ?_ (fun h => by cases h) (fun _ => ?_)
    · refine tx_test (ex_op (ex_CB (ax_cons (ex_call (fun _ => .nil) (ax_cons (ex_var rfl (ax_nil ?_)))))))
      refine ⟨[_], l, rfl, rfl, rfl, ⟨by show l.deep < 9; omega, by omega⟩, fun r hr => ?_, fun C hC => hC.elim⟩
      obtain ⟨ss2, so2, rfl⟩ := hr
      rw [so2.once so]
      refine ax_nil (vx_repr (rp_names sa s3) (by decide) (by decide) ?_)
      exact ex_CB (ax_cons (ex_var rfl (ax_nil (vx_repr (rp_names sa s3) (by decide) (by decide) (rx_neS ⟨_, rfl, shown_ne _, rfl⟩)))))
    -- each name
    refine sx_cut (fun δ' => ∃ (o6 o7 o8 : Sl), δ' = [.dat (.list (ns.map .int)), .ml p fs, .dat (numD (numsL qa qb qw)), .dat x, .dat (encL l), .dat (.list (ss.map .str)), o6, o7, o8, o9, .no, .no, .no, .no]) ?_ ?_
    · refine sx_forL tg_name (fun ds k δ' => ds = [.str "a", .str "b2", .str "w", .str "x"] ∧ ∃ (o6 o7 o8 : Sl), δ' = [.dat (.list (ns.map .int)), .ml p fs, .dat (numD (numsL qa qb qw)), .dat x, .dat (encL l), .dat (.list (ss.map .str)), o6, o7, o8, o9, .no, .no, .no, .no]) ?_
      refine ex_listL ?_
      repeat walk_at "m3e"
      refine ⟨[_, _, _, _], rfl, Nat.le_of_ble_eq_true rfl, _, rfl, ⟨rfl, _, _, _, rfl⟩, ?_, fun δ' h => h.2⟩
      rintro k y δ' hk ⟨_, o6, o7, o8, rfl⟩
      obtain ⟨y, rfl, hy⟩ := four_at hk
      refine ⟨trivial, ?_⟩
      dsimp only [List.set_cons_zero, List.set_cons_succ]
      obtain ⟨q, hq, hq4⟩ := names4 hy qa qb qw
      have zq : Sz 62 q := by
        rcases hq4 with rfl | rfl | rfl | rfl
        · exact za
        · exact zb
        · exact zw
        · exact sz_nine
      have lk : lkD ((numsL qa qb qw).map kvD) (.inr y) = some (dR q) := by rw [lk_num, hq]; rfl
      -- more
      refine sx_seq (sx_asgN (nx_copy (ex_var rfl ⟨_, .d _, fun pm => ?_⟩)))
      dsimp only [List.set_cons_zero, List.set_cons_succ]
      refine sx_seq (sx_dput (i := 7) rfl (ex_call (fun _ => .nil) (ax_cons (ex_dget (kv_ne (nums_ne qa qb qw)) (ex_var rfl ⟨rfl, ex_var rfl ⟨.inr y, dR q, rfl, lk, ax_cons (ex_call (dds := [.int 1]) (fun _ => .cons (.int 1) .nil) (ax_cons (ex_int (ax_nil ⟨[_], (1, 1), rfl, rfl, rfl, ⟨Bd.lit (by decide +kernel), Bd.lit (by decide +kernel)⟩, fun r hr => ?_, fun C hC => absurd hC.1 (by decide)⟩))))⟩⟩)))))
      obtain ⟨_, rfl⟩ := hr
      rw [show (dR (Rat.divInt (1 : Int) (1 : Int))) = dR 1 from congrArg dR (by decide +kernel)]
      refine ax_nil ⟨[_, _], (q, 1), rfl, rfl, rfl, ⟨zq.mono (by decide), sz_o100.mono (by decide)⟩, fun r hr => ?_, fun C hC => hC.elim⟩
      refine ⟨r, rfl, ex_var rfl ⟨.inr y, _, rfl, rfl, by simp [numsL], ?_⟩⟩
      subst hr
      rw [put_more hy hq]
      dsimp only [List.set_cons_zero, List.set_cons_succ]
      obtain ⟨wm, hm⟩ := worth_more_some gl qa qb qw y
      -- growth
      refine sx_seq (sx_frzD (i := 7) rfl (sx_if (tx_test (ex_op (ex_CB (ax_cons (ex_call (fun _ => .nil) (ax_cons (ex_var rfl (ax_cons (ex_var rfl (ax_nil ?_))))))))))))
      refine ⟨[_, _], (l, y), rfl, rfl, rfl, ⟨by show l.deep < 9; omega, okL_good gl, by show bitsL l ≤ 3500; omega, okT_good gl hy⟩, fun r hr => ?_, fun C hC => hC.elim⟩
      obtain ⟨rfl, zg⟩ := hr
      have zg : Sz (bitsL l) (growL y l) := zg
      refine ax_nil (vx_repr (rp_dR zg (by omega)) (by decide) (by decide) ?_)
      refine ex_CB (ax_cons (ex_call (fun _ => .nil) (ax_cons (ex_call (fun _ => .nil) (ax_cons (ex_var rfl (ax_cons (ex_var rfl (ax_nil ?_)))))))))
      refine ⟨[_, _], (l, moreL (numsL qa qb qw) y), rfl, rfl, rfl, ⟨by show l.deep < 9; omega, okL_good gl, more_ne (nums_ne qa qb qw), more_sz za zb zw y, by show bitsL l ≤ 3500; omega, _, hm⟩, fun r hr => ?_, fun C hC => hC.elim⟩
      obtain ⟨w1, hw1, rfl, z1⟩ := hr
      refine ax_cons (ex_call (fun _ => .nil) (ax_cons (ex_var rfl (ax_cons (ex_var rfl (ax_nil ?_))))))
      refine ⟨[_, _], (l, numsL qa qb qw), rfl, rfl, rfl, ⟨by show l.deep < 9; omega, okL_good gl, nums_ne qa qb qw, zN, by show bitsL l ≤ 3500; omega, _, hw⟩, fun r hr => ?_, fun C hC => hC.elim⟩
      obtain ⟨w2, hw2, rfl, z2⟩ := hr
      have z1 : Sz (bitsL l) w1 := z1
      have z2 : Sz (bitsL l) w2 := z2
      refine ax_nil ⟨[_, _], (w1, w2), rfl, rfl, rfl, ⟨z1.mono (by omega), z2.mono (by omega)⟩, fun r hr => ?_, fun C hC => hC.elim⟩
      have hr : r = dR (w1 - w2) := hr
      rw [grow_is hw1 hw2] at hr
      subst hr
      refine ax_nil (vx_repr (rp_dR zg (by omega)) (by decide) (by decide) (rx_neS ⟨_, rfl, fun h => ?_, fun _ => sx_next ?_⟩))
      · rw [shown_ne] at h; cases h
      -- less
      obtain ⟨ml, ln⟩ := merge_less (qa := qa) (qb := qb) (qw := qw) hy
      refine sx_seq (sx_asg (ex_frzN (nx_pairs (ex_F (p := fun ds δ' => ds = (lessL (numsL qa qb qw) y).map (fun p => PyData.tuple [.str p.1, dR p.2]) ∧ δ' = [.dat (.list (ns.map .int)), .ml p fs, .dat (numD (numsL qa qb qw)), .dat x, .dat (encL l), .dat (.list (ss.map .str)), .dat (.str y), .dat (numD (moreL (numsL qa qb qw) y)), o8, o9, .no, .no, .no, .no]) ?_ fun ds δ' h => ?_))))
      · refine fx_lcY tgc_name (fun ds k acc δ' => ds = (numsL qa qb qw).map (fun p => PyData.str p.1) ∧ acc = (lessL ((numsL qa qb qw).take k) y).map (fun p => PyData.tuple [.str p.1, dR p.2]) ∧ δ' = [.dat (.list (ns.map .int)), .ml p fs, .dat (numD (numsL qa qb qw)), .dat x, .dat (encL l), .dat (.list (ss.map .str)), .dat (.str y), .dat (numD (moreL (numsL qa qb qw) y)), o8, o9, .no, .no, .no, .no]) (ix_K (ex_var rfl ⟨(numsL qa qb qw).map kvD, rfl, ?_, ⟨by rw [List.map_map]; rfl, rfl, rfl⟩, ?_, ?_⟩))
        · intro i hi p2 es2 z
          have ei : i = 13 := by simpa using hi
          subst ei
          cases z
        · rintro k e acc δ' hk ⟨_, rfl, rfl⟩
          rw [List.map_map, List.getElem?_map] at hk
          obtain ⟨p1, hp, rfl⟩ := Option.map_eq_some_iff.mp hk
          obtain ⟨hk4, hl1, hm1⟩ := nums_at hp
          have lk1 : lkD ((numsL qa qb qw).map kvD) (.inr p1.1) = some (dR p1.2) := by rw [lk_num, hl1]; rfl
          have hla : ((lessL ((numsL qa qb qw).take k) y).map (fun p => PyData.tuple [.str p.1, dR p.2])).length < 1000000 := by
            rw [List.length_map]
            have h1 : (lessL ((numsL qa qb qw).take k) y).length ≤ ((numsL qa qb qw).take k).length := List.length_filter_le ..
            have h2 : ((numsL qa qb qw).take k).length ≤ k := List.length_take_le ..
            omega
          refine ⟨trivial, tx_test (ex_op (ex_var rfl (ex_var rfl (rx_neD (shaped_4 hm1) (shaped_4 hy) ⟨_, rfl, fun h => ?_, fun h => ?_⟩))))⟩
          · have hne : ¬ p1.1 = y := by simpa [PyData.eqv, kD] using h
            refine ex_tup (ax_cons (ex_var rfl (ax_cons (ex_dget (kv_ne (nums_ne qa qb qw)) (ex_var rfl ⟨rfl, ex_var rfl ⟨.inr p1.1, _, rfl, lk1, ax_nil ⟨[_, _], rfl, Nat.le_of_ble_eq_true rfl, _, rfl, hla, rfl, ?_, rfl⟩⟩⟩)))))
            rw [less_snoc hp, if_neg hne, List.map_append]
            rfl
          · have he : p1.1 = y := by simpa [PyData.eqv, kD] using h
            refine ⟨rfl, ?_, rfl⟩
            rw [less_snoc hp, if_pos he, List.append_nil]
        · rintro acc δ' ⟨_, rfl, rfl⟩
          exact ⟨rfl, rfl⟩
      obtain ⟨rfl, rfl⟩ := h
      refine ⟨(lessL (numsL qa qb qw) y).map kvD, by rw [List.map_map]; rfl, _, rfl, _, rfl, ?_⟩
      rw [ml]
      dsimp only [List.set_cons_zero, List.set_cons_succ]
      have tl := told_less (kvs := numsL qa qb qw) (y := y) (l := l) fun x hx => lk_nums (names_good gl x hx)
      have fin : ∀ {b : Bool}, b = decide (y ∈ ss) → (!PyData.eqv (.bool b) (.bool ((ss.map PyData.str).any fun z => PyData.eqv z (.str y)))) = false := fun {b} e => by
        rw [any_names, ← e]; exact gone_ne b
      refine sx_if (tx_test (ex_op (ex_op (ex_call (fun _ => .nil) (ax_cons (ex_var rfl (ax_cons (ex_var rfl (ax_nil ?_)))))))))
      refine ⟨[_, _], (l, lessL (numsL qa qb qw) y), rfl, rfl, rfl, ⟨by show l.deep < 9; omega, okL_good gl, ln, less_sz zN y, by show bitsL l ≤ 3500; omega⟩, fun r hr => ?_, fun C hC => hC.elim⟩
      rcases hr with ⟨w3, hw3, rfl, z3⟩ | ⟨hn, rfl⟩
      · have hw3 : worthL (lessL (numsL qa qb qw) y) l = some w3 := hw3
        have no : false = decide (y ∈ ss) := by
          rw [decide_eq_false]
          intro z
          have := tl.mpr ((so.2.2 y).mp z)
          rw [hw3] at this; cases this
        refine ex_str (rx_eqD (shaped_dR w3) shaped_there (ex_op (ex_var rfl (ex_var rfl (rx_inL (shaped_4 hy) (shaped_names sa) (rx_neD (shaped_bl _) (shaped_bl _) ⟨_, rfl, fun h => ?_, fun _ => sx_next ⟨rfl, _, _, _, rfl⟩⟩))))))
        rw [told_eq (r := .none), fin no] at h
        cases h
      · have hn : worthL (lessL (numsL qa qb qw) y) l = none := hn
        have yes : true = decide (y ∈ ss) := (decide_eq_true ((so.2.2 y).mpr (tl.mp hn))).symm
        refine ex_str (rx_eqD shaped_there shaped_there (ex_op (ex_var rfl (ex_var rfl (rx_inL (shaped_4 hy) (shaped_names sa) (rx_neD (shaped_bl _) (shaped_bl _) ⟨_, rfl, fun h => ?_, fun _ => sx_next ⟨rfl, _, _, _, rfl⟩⟩))))))
        rw [show PyData.eqv (.str "there") (.str "there") = true by decide +kernel, fin yes] at h
        cases h
    rintro δ' ⟨o6, o7, o8, rfl⟩
    have il : 1 ≤ (itemsL l).length ∧ (itemsL l).length ≤ 3 := by cases l <;> exact ⟨Nat.le_of_ble_eq_true rfl, Nat.le_of_ble_eq_true rfl⟩
    refine sx_seq (sx_asg (ex_callM (ax_cons (ex_mvar rfl (ax_cons (ex_var rfl (ax_nil ⟨itemsL l, p, _, by rw [enc_items]; rfl, rfl, rfl, ⟨hd, il⟩, fun d fs h => ?_⟩)))))))
    obtain ⟨hd, bs, rfl, hbent⟩ := h
    refine ⟨_, rfl, ?_⟩
    dsimp only [List.set_cons_zero, List.set_cons_succ]
    have okB := okN_bent gl (by omega) hbent
    have both := both_looks gl hbent
    refine sx_if (tx_test (ex_op (ex_CB (ax_cons (ex_call (fun _ => .nil) (ax_cons (ex_var rfl (ax_nil ?_))))))))
    refine ⟨[_], .tuple bs, rfl, rfl, rfl, okB, fun r hr => ?_, fun C hC => hC.elim⟩
    subst hr
    refine ax_nil (vx_repr (rp_bool _) (by decide) (by decide) ?_)
    refine ex_CB (ax_cons (ex_call (fun _ => .nil) (ax_cons (ex_var rfl (ax_cons (ex_int (ax_nil ?_)))))))
    refine ⟨[_, _], (.tuple bs, 8), rfl, rfl, rfl, ⟨by show 8 < 9; decide, okB⟩, fun r hr => ?_, fun C hC => hC.elim⟩
    have hr : r = .bool (rightV 8 (.tuple bs)) := hr
    rw [← both] at hr
    subst hr
    refine ax_nil (vx_repr (rp_bool _) (by decide) (by decide) (rx_neS ⟨_, rfl, fun h => ?_, fun _ => sx_next ⟨_, _, _, _, _, _, _, _, hd, rfl⟩⟩))
    rw [shown_ne] at h; cases h
  rintro δ' ⟨es, o3, o4, o5, o6, o7, o8, o9, hd, rfl⟩
  have hqw : lkN (numsL qa qb qw) "w" = some qw := rfl
  have DW := deep_worth (numsL qa qb qw) hqw
  have z2 : Sz 62 (2 : Rat) := ⟨⟨by decide⟩, ⟨by decide⟩⟩
  refine sx_seq (sx_asg (ex_tup (ax_cons (ex_str (ax_cons (ex_str (ax_nil ⟨[_, _], rfl, Nat.le_of_ble_eq_true rfl, _, rfl, ?_⟩)))))))
  dsimp only [List.set_cons_zero, List.set_cons_succ]
  refine sx_cut (fun δ' => ∃ (o11 : Sl), δ' = [.dat (.list (ns.map .int)), .ml p es, .dat (numD (numsL qa qb qw)), o3, o4, o5, o6, o7, o8, o9, .dat (encL (deepL 7)), o11, .no, .no]) ?_ ?_
  · refine sx_forR1 tg_name (fun k δ' => ∃ (o11 : Sl), δ' = [.dat (.list (ns.map .int)), .ml p es, .dat (numD (numsL qa qb qw)), o3, o4, o5, o6, o7, o8, o9, .dat (encL (deepL k)), o11, .no, .no]) ?_
    repeat walk_at "m3e"
    refine ⟨by decide, ⟨_, rfl⟩, ?_, fun δ' q => q⟩
    rintro k x δ' hk ⟨o11, rfl⟩
    refine ⟨trivial, ?_⟩
    dsimp only [List.set_cons_zero, List.set_cons_succ]
    refine sx_asg (ex_tup (ax_cons (ex_str (ax_cons (ex_call (dds := [.int 1]) (fun _ => .cons (.int 1) .nil) (ax_cons (ex_int (ax_nil ⟨[_], (2, 1), rfl, rfl, rfl, ⟨Bd.lit (by decide +kernel), Bd.lit (by decide +kernel)⟩, fun r hr => ?_, fun C hC => absurd hC.1 (by decide)⟩))))))))
    obtain ⟨_, rfl⟩ := hr
    rw [show (dR (Rat.divInt (2 : Int) (1 : Int))) = dR 2 from congrArg dR (by decide +kernel)]
    exact ax_cons (ex_var rfl (ax_nil ⟨[_, _, _], rfl, Nat.le_of_ble_eq_true rfl, _, rfl, _, rfl⟩))
  rintro δ' ⟨o11, rfl⟩
  have nmD : ∀ x ∈ namesL (deepL 7), isName (.str x) = true := fun x hx => (name_abw (names_good (deep_good 7) x hx)).1
  have g1 : goodL (.plus (.num 1) (deepL 7)) := ⟨⟨⟨by decide⟩, ⟨by decide⟩⟩, deep_good 7⟩
  have nm1 : ∀ x ∈ namesL (.plus (.num 1) (deepL 7)), isName (.str x) = true := fun x hx => (name_abw (names_good g1 x hx)).1
  have e1 : nestV 8 (encL (deepL 7)) = true := by rw [nest_enc 8 nmD]; decide +kernel
  have e2 : nestV 8 (encL (.plus (.num 1) (deepL 7))) = false := by rw [nest_enc 8 nm1]; decide +kernel
  have bD := deep_bits 7
  refine sx_seq (sx_asg (ex_listL (ax_cons (ex_call (fun _ => .nil) (ax_cons (ex_var rfl (ax_nil ?_)))))))
  refine ⟨[_], encL (deepL 7), rfl, rfl, rfl, okN_enc (deep_good 7) (by rw [deep_deep]; decide), fun r hr => ?_, fun C hC => hC.elim⟩
  rw [e1] at hr
  subst hr
  refine ax_cons (ex_call (fun _ => .nil) (ax_cons (ex_tup (ax_cons (ex_str (ax_cons (ex_tup (ax_cons (ex_str (ax_cons (ex_call (dds := [.int 1]) (fun _ => .cons (.int 1) .nil) (ax_cons (ex_int (ax_nil ⟨[_], (1, 1), rfl, rfl, rfl, ⟨Bd.lit (by decide +kernel), Bd.lit (by decide +kernel)⟩, fun r hr => ?_, fun C hC => absurd hC.1 (by decide)⟩))))))))))))))
  obtain ⟨_, rfl⟩ := hr
  rw [show (dR (Rat.divInt (1 : Int) (1 : Int))) = dR 1 from congrArg dR (by decide +kernel)]
  refine ax_nil ⟨[_, _], rfl, Nat.le_of_ble_eq_true rfl, ax_cons (ex_var rfl (ax_nil ⟨[_, _, _], rfl, Nat.le_of_ble_eq_true rfl, ax_nil ?_⟩))⟩
  refine ⟨[_], encL (.plus (.num 1) (deepL 7)), rfl, rfl, rfl, okN_enc g1 (by show max 0 (deepL 7).deep + 1 ≤ 40; rw [deep_deep]; decide), fun r hr => ?_, fun C hC => hC.elim⟩
  rw [e2] at hr
  subst hr
  refine ax_cons (ex_call (fun _ => .nil) (ax_cons (ex_var rfl (ax_cons (ex_var rfl (ax_nil ?_))))))
  refine ⟨[_, _], (deepL 7, numsL qa qb qw), rfl, rfl, rfl, ⟨by show (deepL 7).deep < 9; rw [deep_deep]; decide, okL_good (deep_good 7), nums_ne qa qb qw, zN, by show bitsL (deepL 7) ≤ 3500; rw [bD]; decide⟩, fun r hr => ?_, fun C hC => ?_⟩
  rotate_left
  · have hn : worthL (numsL qa qb qw) (deepL 7) = none := hC.1
    rw [DW] at hn; cases hn
  obtain ⟨w1, hw1, rfl, z1⟩ := hr
  have ew : w1 = 128 * qw := Option.some.inj ((show worthL (numsL qa qb qw) (deepL 7) = some w1 from hw1).symm.trans DW)
  have z1 : Sz (bitsL (deepL 7)) w1 := z1
  rw [bD, ew] at z1
  subst ew
  have z1 : Sz (100 + 62 * 7) (128 * qw) := z1
  have z128 : Sz 4000 (128 : Rat) := ⟨⟨by decide +kernel⟩, ⟨by decide +kernel⟩⟩
  refine ax_nil ⟨[_, _, _], rfl, Nat.le_of_ble_eq_true rfl, _, rfl, ?_⟩
  dsimp only [List.set_cons_zero, List.set_cons_succ]
  have RP : Rp 2 20 (.list [.bool true, .bool false, dR (128 * qw)]) := (rp_lst (k := 1) (rp_cons ((rp_bool _).mono (by decide) (Nat.le_refl 0)) (rp_cons ((rp_bool _).mono (by decide) (Nat.le_refl 0)) (rp_cons (m := 0) (rp_dR z1 (show 100 + 62 * 7 ≤ 1900 by decide)) rp_nil)))).mono (Nat.le_refl _) (by decide)
  refine sx_ret (ex_op (ex_CB (ax_cons (ex_var rfl (ax_nil (vx_repr RP (by decide) (by decide) ?_))))))
  refine ex_CB (ax_cons (ex_listL (ax_cons (ex_bl (ax_cons (ex_bl (ax_cons (ex_call (fun _ => .nil) (ax_cons (ex_call (dds := [.int 1]) (fun _ => .cons (.int 1) .nil) (ax_cons (ex_int (ax_nil ⟨[_], (128, 1), rfl, rfl, rfl, ⟨Bd.lit (by decide +kernel), Bd.lit (by decide +kernel)⟩, fun r hr => ?_, fun C hC => absurd hC.1 (by decide)⟩)))))))))))))
  obtain ⟨_, rfl⟩ := hr
  rw [show (dR (Rat.divInt (128 : Int) (1 : Int))) = dR 128 from congrArg dR (by decide +kernel)]
  have lk : lkD ((numsL qa qb qw).map kvD) (.inr "w") = some (dR qw) := by rw [lk_num, hqw]; rfl
  refine ax_cons (ex_dget (kv_ne (nums_ne qa qb qw)) (ex_var rfl ⟨rfl, ex_str ⟨.inr "w", _, rfl, lk, ax_nil ?_⟩⟩))
  refine ⟨[_, _], (128, qw), rfl, rfl, rfl, ⟨z128, zw.mono (by decide)⟩, fun r hr => ?_, fun C hC => hC.elim⟩
  have hr : r = dR (128 * qw) := hr
  subst hr
  refine ax_nil ⟨[_, _, _], rfl, Nat.le_of_ble_eq_true rfl, ax_nil (vx_repr RP (by decide) (by decide) (rx_eqS ⟨_, rfl, ?_⟩))⟩
  simp
end
theorem all_mk {P q : Program} {w : World} {K : PySem.W.Frag} {h : Heap} {mg : Str → Option Value} {fa : Addr} (X : K.In h) (G : h.Ns mainGlobals mg) (hfa : mg "law" = some (.ref fa)) (own : M3.OwnTabs K q mg h)
    {od0 an0 : Option Addr} {sl0 : Array (Option Value)} {oc0 kV0 dc0 pm0 ct0 : Value} {f0 : Addr} {cc0 : Addr} 
    (a0 : PySem.W.nsIn K mainGlobals "is_name" = some (some (.ref f0))) (l0 : K.lookup f0 = some ⟨oc0, od0, .func (PySem.W.fnOf "is_name" "is_name" (defArgs s_is_name) (defBody s_is_name) (defScope s_is_name) .none kV0 dc0 pm0 an0 (.ref cc0) ct0), sl0⟩) (c0 : PySem.W.codeIn K (.ref cc0) "is_name" = true) (k0 : PySem.W.keepIn K (.ref f0) = true)
    (hr0 : ((recsOf q).any fun e => e.name == ("is_name" : Str)) = true) (nT0 : K.lookup (M3.tabAt K cc0) = none) (hC0 : PySem.W.codeHdIn K cc0 (M3.tabAt K cc0) = true) {od1 an1 : Option Addr} {sl1 : Array (Option Value)} {oc1 kV1 dc1 pm1 cd1 ct1 : Value} {f1 : Addr} 
    (a1 : PySem.W.nsIn K mainGlobals "is_whole" = some (some (.ref f1))) (l1 : K.lookup f1 = some ⟨oc1, od1, .func (PySem.W.fnOf "is_whole" "is_whole" (defArgs s_is_whole) (defBody s_is_whole) (defScope s_is_whole) .none kV1 dc1 pm1 an1 cd1 ct1), sl1⟩) (c1 : PySem.W.codeIn K cd1 "is_whole" = true) (k1 : PySem.W.keepIn K (.ref f1) = true) {od2 an2 : Option Addr} {sl2 : Array (Option Value)} {oc2 kV2 dc2 pm2 cd2 ct2 : Value} {f2 : Addr} {t2 : Addr} {do2 : Value} {dd2 : Option Addr} {dn2 : Nat} {ds2 : Array (Option Value)} {dt2 : Tok} 
    (a2 : PySem.W.nsIn K mainGlobals "ratio" = some (some (.ref f2))) (l2 : K.lookup f2 = some ⟨oc2, od2, .func (PySem.W.fnOf "ratio" "ratio" (defArgs s_ratio) (defBody s_ratio) (defScope s_ratio) (.ref t2) kV2 dc2 pm2 an2 cd2 ct2), sl2⟩) (c2 : PySem.W.codeIn K cd2 "ratio" = true) (k2 : PySem.W.keepIn K (.ref f2) = true)  (e2 : K.lookup t2 = some ⟨do2, dd2, .seq #[.int 1 dt2] dn2, ds2⟩) {od3 an3 : Option Addr} {sl3 : Array (Option Value)} {oc3 kV3 dc3 pm3 cd3 ct3 : Value} {f3 : Addr} 
    (a3 : PySem.W.nsIn K mainGlobals "is_ratio" = some (some (.ref f3))) (l3 : K.lookup f3 = some ⟨oc3, od3, .func (PySem.W.fnOf "is_ratio" "is_ratio" (defArgs s_is_ratio) (defBody s_is_ratio) (defScope s_is_ratio) .none kV3 dc3 pm3 an3 cd3 ct3), sl3⟩) (c3 : PySem.W.codeIn K cd3 "is_ratio" = true) (k3 : PySem.W.keepIn K (.ref f3) = true) {od4 an4 : Option Addr} {sl4 : Array (Option Value)} {oc4 kV4 dc4 pm4 cd4 ct4 : Value} {f4 : Addr} 
    (a4 : PySem.W.nsIn K mainGlobals "plus" = some (some (.ref f4))) (l4 : K.lookup f4 = some ⟨oc4, od4, .func (PySem.W.fnOf "plus" "plus" (defArgs s_plus) (defBody s_plus) (defScope s_plus) .none kV4 dc4 pm4 an4 cd4 ct4), sl4⟩) (c4 : PySem.W.codeIn K cd4 "plus" = true) (k4 : PySem.W.keepIn K (.ref f4) = true) {od5 an5 : Option Addr} {sl5 : Array (Option Value)} {oc5 kV5 dc5 pm5 cd5 ct5 : Value} {f5 : Addr} 
    (a5 : PySem.W.nsIn K mainGlobals "opposite" = some (some (.ref f5))) (l5 : K.lookup f5 = some ⟨oc5, od5, .func (PySem.W.fnOf "opposite" "opposite" (defArgs s_opposite) (defBody s_opposite) (defScope s_opposite) .none kV5 dc5 pm5 an5 cd5 ct5), sl5⟩) (c5 : PySem.W.codeIn K cd5 "opposite" = true) (k5 : PySem.W.keepIn K (.ref f5) = true) {od6 an6 : Option Addr} {sl6 : Array (Option Value)} {oc6 kV6 dc6 pm6 cd6 ct6 : Value} {f6 : Addr} 
    (a6 : PySem.W.nsIn K mainGlobals "minus" = some (some (.ref f6))) (l6 : K.lookup f6 = some ⟨oc6, od6, .func (PySem.W.fnOf "minus" "minus" (defArgs s_minus) (defBody s_minus) (defScope s_minus) .none kV6 dc6 pm6 an6 cd6 ct6), sl6⟩) (c6 : PySem.W.codeIn K cd6 "minus" = true) (k6 : PySem.W.keepIn K (.ref f6) = true) {od7 an7 : Option Addr} {sl7 : Array (Option Value)} {oc7 kV7 dc7 pm7 cd7 ct7 : Value} {f7 : Addr} 
    (a7 : PySem.W.nsIn K mainGlobals "times" = some (some (.ref f7))) (l7 : K.lookup f7 = some ⟨oc7, od7, .func (PySem.W.fnOf "times" "times" (defArgs s_times) (defBody s_times) (defScope s_times) .none kV7 dc7 pm7 an7 cd7 ct7), sl7⟩) (c7 : PySem.W.codeIn K cd7 "times" = true) (k7 : PySem.W.keepIn K (.ref f7) = true) {od8 an8 : Option Addr} {sl8 : Array (Option Value)} {oc8 kV8 dc8 pm8 cd8 ct8 : Value} {f8 : Addr} 
    (a8 : PySem.W.nsIn K mainGlobals "is_leaf" = some (some (.ref f8))) (l8 : K.lookup f8 = some ⟨oc8, od8, .func (PySem.W.fnOf "is_leaf" "is_leaf" (defArgs s_is_leaf) (defBody s_is_leaf) (defScope s_is_leaf) .none kV8 dc8 pm8 an8 cd8 ct8), sl8⟩) (c8 : PySem.W.codeIn K cd8 "is_leaf" = true) (k8 : PySem.W.keepIn K (.ref f8) = true) {od9 an9 : Option Addr} {sl9 : Array (Option Value)} {oc9 kV9 dc9 pm9 cd9 ct9 : Value} {f9 : Addr} 
    (a9 : PySem.W.nsIn K mainGlobals "is_nested" = some (some (.ref f9))) (l9 : K.lookup f9 = some ⟨oc9, od9, .func (PySem.W.fnOf "is_nested" "is_nested" (defArgs s_is_nested) (defBody s_is_nested) (defScope s_is_nested) .none kV9 dc9 pm9 an9 cd9 ct9), sl9⟩) (c9 : PySem.W.codeIn K cd9 "is_nested" = true) (k9 : PySem.W.keepIn K (.ref f9) = true) {od10 an10 : Option Addr} {sl10 : Array (Option Value)} {oc10 kV10 dc10 pm10 cd10 ct10 : Value} {f10 : Addr} 
    (a10 : PySem.W.nsIn K mainGlobals "is_length" = some (some (.ref f10))) (l10 : K.lookup f10 = some ⟨oc10, od10, .func (PySem.W.fnOf "is_length" "is_length" (defArgs s_is_length) (defBody s_is_length) (defScope s_is_length) .none kV10 dc10 pm10 an10 cd10 ct10), sl10⟩) (c10 : PySem.W.codeIn K cd10 "is_length" = true) (k10 : PySem.W.keepIn K (.ref f10) = true) {od11 an11 : Option Addr} {sl11 : Array (Option Value)} {oc11 kV11 dc11 pm11 cd11 ct11 : Value} {f11 : Addr} 
    (a11 : PySem.W.nsIn K mainGlobals "length_worth" = some (some (.ref f11))) (l11 : K.lookup f11 = some ⟨oc11, od11, .func (PySem.W.fnOf "length_worth" "length_worth" (defArgs s_length_worth) (defBody s_length_worth) (defScope s_length_worth) .none kV11 dc11 pm11 an11 cd11 ct11), sl11⟩) (c11 : PySem.W.codeIn K cd11 "length_worth" = true) (k11 : PySem.W.keepIn K (.ref f11) = true) {od12 an12 : Option Addr} {sl12 : Array (Option Value)} {oc12 kV12 dc12 pm12 cd12 ct12 : Value} {f12 : Addr} 
    (a12 : PySem.W.nsIn K mainGlobals "names_within" = some (some (.ref f12))) (l12 : K.lookup f12 = some ⟨oc12, od12, .func (PySem.W.fnOf "names_within" "names_within" (defArgs s_names_within) (defBody s_names_within) (defScope s_names_within) .none kV12 dc12 pm12 an12 cd12 ct12), sl12⟩) (c12 : PySem.W.codeIn K cd12 "names_within" = true) (k12 : PySem.W.keepIn K (.ref f12) = true) {od13 an13 : Option Addr} {sl13 : Array (Option Value)} {oc13 kV13 dc13 pm13 cd13 ct13 : Value} {f13 : Addr} 
    (a13 : PySem.W.nsIn K mainGlobals "growth" = some (some (.ref f13))) (l13 : K.lookup f13 = some ⟨oc13, od13, .func (PySem.W.fnOf "growth" "growth" (defArgs s_growth) (defBody s_growth) (defScope s_growth) .none kV13 dc13 pm13 an13 cd13 ct13), sl13⟩) (c13 : PySem.W.codeIn K cd13 "growth" = true) (k13 : PySem.W.keepIn K (.ref f13) = true) {od14 an14 : Option Addr} {sl14 : Array (Option Value)} {oc14 kV14 dc14 pm14 cd14 ct14 : Value} {f14 : Addr} 
    (a14 : PySem.W.nsIn K mainGlobals "_law_names" = some (some (.ref f14))) (l14 : K.lookup f14 = some ⟨oc14, od14, .func (PySem.W.fnOf "_law_names" "_law_names" (defArgs s__law_names) (defBody s__law_names) (defScope s__law_names) .none kV14 dc14 pm14 an14 cd14 ct14), sl14⟩) (c14 : PySem.W.codeIn K cd14 "_law_names" = true) (k14 : PySem.W.keepIn K (.ref f14) = true) {od15 an15 : Option Addr} {sl15 : Array (Option Value)} {oc15 kV15 dc15 pm15 cd15 ct15 : Value} {f15 : Addr} 
    (a15 : PySem.W.nsIn K mainGlobals "_law_is_ratio" = some (some (.ref f15))) (l15 : K.lookup f15 = some ⟨oc15, od15, .func (PySem.W.fnOf "_law_is_ratio" "_law_is_ratio" (defArgs s__law_is_ratio) (defBody s__law_is_ratio) (defScope s__law_is_ratio) .none kV15 dc15 pm15 an15 cd15 ct15), sl15⟩) (c15 : PySem.W.codeIn K cd15 "_law_is_ratio" = true) (k15 : PySem.W.keepIn K (.ref f15) = true) {od16 an16 : Option Addr} {sl16 : Array (Option Value)} {oc16 kV16 dc16 pm16 cd16 ct16 : Value} {f16 : Addr} 
    (a16 : PySem.W.nsIn K mainGlobals "_law_is_right" = some (some (.ref f16))) (l16 : K.lookup f16 = some ⟨oc16, od16, .func (PySem.W.fnOf "_law_is_right" "_law_is_right" (defArgs s__law_is_right) (defBody s__law_is_right) (defScope s__law_is_right) .none kV16 dc16 pm16 an16 cd16 ct16), sl16⟩) (c16 : PySem.W.codeIn K cd16 "_law_is_right" = true) (k16 : PySem.W.keepIn K (.ref f16) = true) {od17 an17 : Option Addr} {sl17 : Array (Option Value)} {oc17 kV17 dc17 pm17 cd17 ct17 : Value} {f17 : Addr} 
    (a17 : PySem.W.nsIn K mainGlobals "_law_draws" = some (some (.ref f17))) (l17 : K.lookup f17 = some ⟨oc17, od17, .func (PySem.W.fnOf "_law_draws" "_law_draws" (defArgs s__law_draws) (defBody s__law_draws) (defScope s__law_draws) .none kV17 dc17 pm17 an17 cd17 ct17), sl17⟩) (c17 : PySem.W.codeIn K cd17 "_law_draws" = true) (k17 : PySem.W.keepIn K (.ref f17) = true) {od18 an18 : Option Addr} {sl18 : Array (Option Value)} {oc18 kV18 dc18 pm18 cd18 ct18 : Value} {f18 : Addr} 
    (a18 : PySem.W.nsIn K mainGlobals "_law_take" = some (some (.ref f18))) (l18 : K.lookup f18 = some ⟨oc18, od18, .func (PySem.W.fnOf "_law_take" "_law_take" (defArgs s__law_take) (defBody s__law_take) (defScope s__law_take) .none kV18 dc18 pm18 an18 cd18 ct18), sl18⟩) (c18 : PySem.W.codeIn K cd18 "_law_take" = true) (k18 : PySem.W.keepIn K (.ref f18) = true) {od19 an19 : Option Addr} {sl19 : Array (Option Value)} {oc19 kV19 dc19 pm19 cd19 ct19 : Value} {f19 : Addr} 
    (a19 : PySem.W.nsIn K mainGlobals "_law_ratio" = some (some (.ref f19))) (l19 : K.lookup f19 = some ⟨oc19, od19, .func (PySem.W.fnOf "_law_ratio" "_law_ratio" (defArgs s__law_ratio) (defBody s__law_ratio) (defScope s__law_ratio) .none kV19 dc19 pm19 an19 cd19 ct19), sl19⟩) (c19 : PySem.W.codeIn K cd19 "_law_ratio" = true) (k19 : PySem.W.keepIn K (.ref f19) = true) {od20 an20 : Option Addr} {sl20 : Array (Option Value)} {oc20 kV20 dc20 pm20 cd20 ct20 : Value} {f20 : Addr} 
    (a20 : PySem.W.nsIn K mainGlobals "_law_small" = some (some (.ref f20))) (l20 : K.lookup f20 = some ⟨oc20, od20, .func (PySem.W.fnOf "_law_small" "_law_small" (defArgs s__law_small) (defBody s__law_small) (defScope s__law_small) .none kV20 dc20 pm20 an20 cd20 ct20), sl20⟩) (c20 : PySem.W.codeIn K cd20 "_law_small" = true) (k20 : PySem.W.keepIn K (.ref f20) = true) {od21 an21 : Option Addr} {sl21 : Array (Option Value)} {oc21 kV21 dc21 pm21 cd21 ct21 : Value} {f21 : Addr} 
    (a21 : PySem.W.nsIn K mainGlobals "_law_any_length" = some (some (.ref f21))) (l21 : K.lookup f21 = some ⟨oc21, od21, .func (PySem.W.fnOf "_law_any_length" "_law_any_length" (defArgs s__law_any_length) (defBody s__law_any_length) (defScope s__law_any_length) .none kV21 dc21 pm21 an21 cd21 ct21), sl21⟩) (c21 : PySem.W.codeIn K cd21 "_law_any_length" = true) (k21 : PySem.W.keepIn K (.ref f21) = true) {od22 an22 : Option Addr} {sl22 : Array (Option Value)} {oc22 kV22 dc22 pm22 cd22 ct22 : Value} {f22 : Addr} 
    (a22 : PySem.W.nsIn K mainGlobals "_law_told" = some (some (.ref f22))) (l22 : K.lookup f22 = some ⟨oc22, od22, .func (PySem.W.fnOf "_law_told" "_law_told" (defArgs s__law_told) (defBody s__law_told) (defScope s__law_told) .none kV22 dc22 pm22 an22 cd22 ct22), sl22⟩) (c22 : PySem.W.codeIn K cd22 "_law_told" = true) (k22 : PySem.W.keepIn K (.ref f22) = true) {od23 an23 : Option Addr} {sl23 : Array (Option Value)} {oc23 kV23 dc23 pm23 cd23 ct23 : Value} {f23 : Addr} 
    (a23 : PySem.W.nsIn K mainGlobals "_law_bent" = some (some (.ref f23))) (l23 : K.lookup f23 = some ⟨oc23, od23, .func (PySem.W.fnOf "_law_bent" "_law_bent" (defArgs s__law_bent) (defBody s__law_bent) (defScope s__law_bent) .none kV23 dc23 pm23 an23 cd23 ct23), sl23⟩) (c23 : PySem.W.codeIn K cd23 "_law_bent" = true) (k23 : PySem.W.keepIn K (.ref f23) = true) {od24 an24 : Option Addr} {sl24 : Array (Option Value)} {oc24 kV24 dc24 pm24 cd24 ct24 : Value} {f24 : Addr} 
    (a24 : PySem.W.nsIn K mainGlobals "numbers_in" = some (some (.ref f24))) (l24 : K.lookup f24 = some ⟨oc24, od24, .func (PySem.W.fnOf "numbers_in" "numbers_in" (defArgs s_numbers_in) (defBody s_numbers_in) (defScope s_numbers_in) .none kV24 dc24 pm24 an24 cd24 ct24), sl24⟩) (c24 : PySem.W.codeIn K cd24 "numbers_in" = true) (k24 : PySem.W.keepIn K (.ref f24) = true) {od25 an25 : Option Addr} {sl25 : Array (Option Value)} {oc25 kV25 dc25 pm25 cd25 ct25 : Value} {f25 : Addr} 
    (a25 : PySem.W.nsIn K mainGlobals "_law_worth" = some (some (.ref f25))) (l25 : K.lookup f25 = some ⟨oc25, od25, .func (PySem.W.fnOf "_law_worth" "_law_worth" (defArgs s__law_worth) (defBody s__law_worth) (defScope s__law_worth) .none kV25 dc25 pm25 an25 cd25 ct25), sl25⟩) (c25 : PySem.W.codeIn K cd25 "_law_worth" = true) (k25 : PySem.W.keepIn K (.ref f25) = true) {od26 an26 : Option Addr} {sl26 : Array (Option Value)} {oc26 kV26 dc26 pm26 cd26 ct26 : Value} {f26 : Addr} 
    (a26 : PySem.W.nsIn K mainGlobals "law" = some (some (.ref f26))) (l26 : K.lookup f26 = some ⟨oc26, od26, .func (PySem.W.fnOf "law" "law" (defArgs s_law) (defBody s_law) (defScope s_law) .none kV26 dc26 pm26 an26 cd26 ct26), sl26⟩) (c26 : PySem.W.codeIn K cd26 "law" = true) (k26 : PySem.W.keepIn K (.ref f26) = true) {C0 : Addr} 
    (gx0 : PySem.W.nsIn K mainGlobals "NotNumber" = some (some (.ref C0))) (kx0 : PySem.W.keepIn K (.ref C0) = true) (xx0 : PySem.W.excIn K C0 [.type "ValueError", .type "Exception", .type "BaseException", .type "object"] "ValueError.__new__" = true) (bx0 : PySem.W.subIn K (.ref C0) (.type "BaseException") = some true) (tx0 : PySem.W.typeIn K (.ref C0) = some (.type "type")) (ix0 : PySem.W.isClsIn K C0 = true) (sx0 : PySem.W.subIn K (.ref C0) (.ref C0) = some true) {C1 : Addr} 
    (gx1 : PySem.W.nsIn K mainGlobals "NotThere" = some (some (.ref C1))) (kx1 : PySem.W.keepIn K (.ref C1) = true) (xx1 : PySem.W.excIn K C1 [.type "ValueError", .type "Exception", .type "BaseException", .type "object"] "ValueError.__new__" = true) (bx1 : PySem.W.subIn K (.ref C1) (.type "BaseException") = some true) (tx1 : PySem.W.typeIn K (.ref C1) = some (.type "type")) (ix1 : PySem.W.isClsIn K C1 = true) (sx1 : PySem.W.subIn K (.ref C1) (.ref C1) = some true) {C2 : Addr} 
    (gx2 : PySem.W.nsIn K mainGlobals "MitreError" = some (some (.ref C2))) (kx2 : PySem.W.keepIn K (.ref C2) = true) (xx2 : PySem.W.excIn K C2 [.type "ValueError", .type "Exception", .type "BaseException", .type "object"] "ValueError.__new__" = true) (bx2 : PySem.W.subIn K (.ref C2) (.type "BaseException") = some true) (tx2 : PySem.W.typeIn K (.ref C2) = some (.type "type")) (ix2 : PySem.W.isClsIn K C2 = true) (sx2 : PySem.W.subIn K (.ref C2) (.ref C2) = some true) {cz0 : Tok}
    (hz0 : PySem.W.nsIn K mainGlobals "DEEPEST" = some (some (.int 8 cz0))) {cz1 : Tok}
    (hz1 : PySem.W.nsIn K mainGlobals "DIGITS" = some (some (.str "0123456789" cz1))) {cz2 : Tok}
    (hz2 : PySem.W.nsIn K mainGlobals "LETTERS" = some (some (.str "abcdefghijklmnopqrstuvwxyz" cz2))) {cz3 : Addr} {zd3 : Option Addr} {za3 zb3 : Tok} {zn3 : Nat} {zs3 : Array (Option Value)}
    (hz3 : PySem.W.nsIn K mainGlobals "ONE" = some (some (.ref cz3))) (lz3 : K.lookup cz3 = some ⟨.type "tuple", zd3, .seq #[.int 1 za3, .int 1 zb3] zn3, zs3⟩) {cz4 : Addr} {zd4 : Option Addr} {za4 zb4 : Tok} {zn4 : Nat} {zs4 : Array (Option Value)}
    (hz4 : PySem.W.nsIn K mainGlobals "ZERO" = some (some (.ref cz4))) (lz4 : K.lookup cz4 = some ⟨.type "tuple", zd4, .seq #[.int 0 za4, .int 1 zb4] zn4, zs4⟩) 
    (z0 : PySem.W.nsIn K mainGlobals "abs" = some none) 
    (z1 : PySem.W.nsIn K mainGlobals "all" = some none) 
    (z2 : PySem.W.nsIn K mainGlobals "bool" = some none) 
    (z3 : PySem.W.nsIn K mainGlobals "dict" = some none) 
    (z4 : PySem.W.nsIn K mainGlobals "int" = some none) 
    (z5 : PySem.W.nsIn K mainGlobals "isinstance" = some none) 
    (z6 : PySem.W.nsIn K mainGlobals "len" = some none) 
    (z7 : PySem.W.nsIn K mainGlobals "list" = some none) 
    (z8 : PySem.W.nsIn K mainGlobals "range" = some none) 
    (z9 : PySem.W.nsIn K mainGlobals "repr" = some none) 
    (z10 : PySem.W.nsIn K mainGlobals "reversed" = some none) 
    (z11 : PySem.W.nsIn K mainGlobals "set" = some none) 
    (z12 : PySem.W.nsIn K mainGlobals "sorted" = some none) 
    (z13 : PySem.W.nsIn K mainGlobals "str" = some none) 
    (z14 : PySem.W.nsIn K mainGlobals "tuple" = some none) 
    (y0 : PySem.W.nsIn K mainGlobals "gcd" = some (some (.builtin "math.gcd"))) :
    ∃ (N : NmC) (fd : FuncData) (cs : List (Addr × Addr)), (∀ p ∈ cs, h.get? p.2 = some emptyT) ∧ (∀ p ∈ cs, K.lookup p.2 = none) ∧ (∀ p ∈ cs, PySem.W.CodeHd h p.1 p.2) ∧ (∀ Q, N.tb Q → Q ∈ cs.map (·.2)) ∧
      (∀ (s : Shared) (v : Value), BindsTo s fd ⟨[v], []⟩ [("script", v)]) ∧ ∀ base : Heap, K.In base → base.Ns mainGlobals mg → (∀ p ∈ cs, TabX base mg p.1 p.2) → FnG P w K mg base 14 fa fd ["script"] (@spScript N K) := by
  generalize M3.tabAt K cc0 = P0 at nT0 hC0
  letI N : NmC := ⟨fun P q => False, fun P => P = P0⟩
  have hT0 := own_get (own _ _ hr0 (PySem.W.mg_of X G a0)) l0 rfl hC0
  have e := hfa.symm.trans (PySem.W.mg_of X G a26)
  cases e
  have F0 := fd_mk (st := s_is_name) l0 c0 k0
  have b0 := Binds.all (K := K) (fd := PySem.W.fnOf "is_name" "is_name" (defArgs s_is_name) (defBody s_is_name) (defScope s_is_name) .none kV0 dc0 pm0 an0 (.ref cc0) ct0) (ps := ["value"]) fun us hl => match us, hl with | [_], _ => rfl
  have F1 := fd_mk (st := s_is_whole) l1 c1 k1
  have b1 := Binds.all (K := K) (fd := PySem.W.fnOf "is_whole" "is_whole" (defArgs s_is_whole) (defBody s_is_whole) (defScope s_is_whole) .none kV1 dc1 pm1 an1 cd1 ct1) (ps := ["value"]) fun us hl => match us, hl with | [_], _ => rfl
  have F2 := fd_mk (st := s_ratio) l2 c2 k2
  have D2 : FunD K "ratio" "ratio" (defArgs s_ratio) (defBody s_ratio) (defScope s_ratio) [.int 1] [] f2 _ := ⟨⟨oc2, od2, _, kV2, dc2, pm2, an2, cd2, ct2, sl2, rfl, l2, c2, .inr ⟨by simp, t2, _, _, dn2, rfl, e2, rfl, .cons ⟨_, rfl⟩ .nil⟩, .inl rfl⟩, k2⟩
  obtain ⟨v2, q2, b2⟩ := D2.binds1 (ps := ["above", "below"]) 2 1 (by simp) rfl (fun T kV doc pm an cdv ct us its h1 h2 => match us, its, h1, h2 with | [_, _], [_], _, _ => ⟨_, rfl, rfl⟩)
  cases q2
  obtain ⟨w2, r2, bd2⟩ := D2.binds1 (ps := ["above", "below"]) 1 0 (by simp) rfl (fun T kV doc pm an cdv ct us its h1 h2 => match us, its, h1, h2 with | [_], [_], _, _ => ⟨_, rfl, rfl⟩)
  have F3 := fd_mk (st := s_is_ratio) l3 c3 k3
  have b3 := Binds.all (K := K) (fd := PySem.W.fnOf "is_ratio" "is_ratio" (defArgs s_is_ratio) (defBody s_is_ratio) (defScope s_is_ratio) .none kV3 dc3 pm3 an3 cd3 ct3) (ps := ["value"]) fun us hl => match us, hl with | [_], _ => rfl
  have F4 := fd_mk (st := s_plus) l4 c4 k4
  have b4 := Binds.all (K := K) (fd := PySem.W.fnOf "plus" "plus" (defArgs s_plus) (defBody s_plus) (defScope s_plus) .none kV4 dc4 pm4 an4 cd4 ct4) (ps := ["one", "other"]) fun us hl => match us, hl with | [_, _], _ => rfl
  have F5 := fd_mk (st := s_opposite) l5 c5 k5
  have b5 := Binds.all (K := K) (fd := PySem.W.fnOf "opposite" "opposite" (defArgs s_opposite) (defBody s_opposite) (defScope s_opposite) .none kV5 dc5 pm5 an5 cd5 ct5) (ps := ["one"]) fun us hl => match us, hl with | [_], _ => rfl
  have F6 := fd_mk (st := s_minus) l6 c6 k6
  have b6 := Binds.all (K := K) (fd := PySem.W.fnOf "minus" "minus" (defArgs s_minus) (defBody s_minus) (defScope s_minus) .none kV6 dc6 pm6 an6 cd6 ct6) (ps := ["one", "other"]) fun us hl => match us, hl with | [_, _], _ => rfl
  have F7 := fd_mk (st := s_times) l7 c7 k7
  have b7 := Binds.all (K := K) (fd := PySem.W.fnOf "times" "times" (defArgs s_times) (defBody s_times) (defScope s_times) .none kV7 dc7 pm7 an7 cd7 ct7) (ps := ["one", "other"]) fun us hl => match us, hl with | [_, _], _ => rfl
  have F8 := fd_mk (st := s_is_leaf) l8 c8 k8
  have b8 := Binds.all (K := K) (fd := PySem.W.fnOf "is_leaf" "is_leaf" (defArgs s_is_leaf) (defBody s_is_leaf) (defScope s_is_leaf) .none kV8 dc8 pm8 an8 cd8 ct8) (ps := ["value"]) fun us hl => match us, hl with | [_], _ => rfl
  have F9 := fd_mk (st := s_is_nested) l9 c9 k9
  have b9 := Binds.all (K := K) (fd := PySem.W.fnOf "is_nested" "is_nested" (defArgs s_is_nested) (defBody s_is_nested) (defScope s_is_nested) .none kV9 dc9 pm9 an9 cd9 ct9) (ps := ["value", "depth"]) fun us hl => match us, hl with | [_, _], _ => rfl
  have F10 := fd_mk (st := s_is_length) l10 c10 k10
  have b10 := Binds.all (K := K) (fd := PySem.W.fnOf "is_length" "is_length" (defArgs s_is_length) (defBody s_is_length) (defScope s_is_length) .none kV10 dc10 pm10 an10 cd10 ct10) (ps := ["value"]) fun us hl => match us, hl with | [_], _ => rfl
  have F11 := fd_mk (st := s_length_worth) l11 c11 k11
  have b11 := Binds.all (K := K) (fd := PySem.W.fnOf "length_worth" "length_worth" (defArgs s_length_worth) (defBody s_length_worth) (defScope s_length_worth) .none kV11 dc11 pm11 an11 cd11 ct11) (ps := ["length", "numbers"]) fun us hl => match us, hl with | [_, _], _ => rfl
  have F12 := fd_mk (st := s_names_within) l12 c12 k12
  have b12 := Binds.all (K := K) (fd := PySem.W.fnOf "names_within" "names_within" (defArgs s_names_within) (defBody s_names_within) (defScope s_names_within) .none kV12 dc12 pm12 an12 cd12 ct12) (ps := ["length"]) fun us hl => match us, hl with | [_], _ => rfl
  have F13 := fd_mk (st := s_growth) l13 c13 k13
  have b13 := Binds.all (K := K) (fd := PySem.W.fnOf "growth" "growth" (defArgs s_growth) (defBody s_growth) (defScope s_growth) .none kV13 dc13 pm13 an13 cd13 ct13) (ps := ["length", "name"]) fun us hl => match us, hl with | [_, _], _ => rfl
  have F14 := fd_mk (st := s__law_names) l14 c14 k14
  have b14 := Binds.all (K := K) (fd := PySem.W.fnOf "_law_names" "_law_names" (defArgs s__law_names) (defBody s__law_names) (defScope s__law_names) .none kV14 dc14 pm14 an14 cd14 ct14) (ps := ["length"]) fun us hl => match us, hl with | [_], _ => rfl
  have F15 := fd_mk (st := s__law_is_ratio) l15 c15 k15
  have b15 := Binds.all (K := K) (fd := PySem.W.fnOf "_law_is_ratio" "_law_is_ratio" (defArgs s__law_is_ratio) (defBody s__law_is_ratio) (defScope s__law_is_ratio) .none kV15 dc15 pm15 an15 cd15 ct15) (ps := ["value"]) fun us hl => match us, hl with | [_], _ => rfl
  have F16 := fd_mk (st := s__law_is_right) l16 c16 k16
  have b16 := Binds.all (K := K) (fd := PySem.W.fnOf "_law_is_right" "_law_is_right" (defArgs s__law_is_right) (defBody s__law_is_right) (defScope s__law_is_right) .none kV16 dc16 pm16 an16 cd16 ct16) (ps := ["value", "depth"]) fun us hl => match us, hl with | [_, _], _ => rfl
  have F17 := fd_mk (st := s__law_draws) l17 c17 k17
  have b17 := Binds.all (K := K) (fd := PySem.W.fnOf "_law_draws" "_law_draws" (defArgs s__law_draws) (defBody s__law_draws) (defScope s__law_draws) .none kV17 dc17 pm17 an17 cd17 ct17) (ps := ["script"]) fun us hl => match us, hl with | [_], _ => rfl
  have F18 := fd_mk (st := s__law_take) l18 c18 k18
  have b18 := Binds.all (K := K) (fd := PySem.W.fnOf "_law_take" "_law_take" (defArgs s__law_take) (defBody s__law_take) (defScope s__law_take) .none kV18 dc18 pm18 an18 cd18 ct18) (ps := ["draws", "bound"]) fun us hl => match us, hl with | [_, _], _ => rfl
  have F19 := fd_mk (st := s__law_ratio) l19 c19 k19
  have b19 := Binds.all (K := K) (fd := PySem.W.fnOf "_law_ratio" "_law_ratio" (defArgs s__law_ratio) (defBody s__law_ratio) (defScope s__law_ratio) .none kV19 dc19 pm19 an19 cd19 ct19) (ps := ["draws"]) fun us hl => match us, hl with | [_], _ => rfl
  have F20 := fd_mk (st := s__law_small) l20 c20 k20
  have b20 := Binds.all (K := K) (fd := PySem.W.fnOf "_law_small" "_law_small" (defArgs s__law_small) (defBody s__law_small) (defScope s__law_small) .none kV20 dc20 pm20 an20 cd20 ct20) (ps := ["draws"]) fun us hl => match us, hl with | [_], _ => rfl
  have F21 := fd_mk (st := s__law_any_length) l21 c21 k21
  have b21 := Binds.all (K := K) (fd := PySem.W.fnOf "_law_any_length" "_law_any_length" (defArgs s__law_any_length) (defBody s__law_any_length) (defScope s__law_any_length) .none kV21 dc21 pm21 an21 cd21 ct21) (ps := ["draws", "depth"]) fun us hl => match us, hl with | [_, _], _ => rfl
  have F22 := fd_mk (st := s__law_told) l22 c22 k22
  have b22 := Binds.all (K := K) (fd := PySem.W.fnOf "_law_told" "_law_told" (defArgs s__law_told) (defBody s__law_told) (defScope s__law_told) .none kV22 dc22 pm22 an22 cd22 ct22) (ps := ["length", "numbers"]) fun us hl => match us, hl with | [_, _], _ => rfl
  have F23 := fd_mk (st := s__law_bent) l23 c23 k23
  have b23 := Binds.all (K := K) (fd := PySem.W.fnOf "_law_bent" "_law_bent" (defArgs s__law_bent) (defBody s__law_bent) (defScope s__law_bent) .none kV23 dc23 pm23 an23 cd23 ct23) (ps := ["draws", "value"]) fun us hl => match us, hl with | [_, _], _ => rfl
  have F24 := fd_mk (st := s_numbers_in) l24 c24 k24
  have b24 := Binds.all (K := K) (fd := PySem.W.fnOf "numbers_in" "numbers_in" (defArgs s_numbers_in) (defBody s_numbers_in) (defScope s_numbers_in) .none kV24 dc24 pm24 an24 cd24 ct24) (ps := ["length"]) fun us hl => match us, hl with | [_], _ => rfl
  have F25 := fd_mk (st := s__law_worth) l25 c25 k25
  have b25 := Binds.all (K := K) (fd := PySem.W.fnOf "_law_worth" "_law_worth" (defArgs s__law_worth) (defBody s__law_worth) (defScope s__law_worth) .none kV25 dc25 pm25 an25 cd25 ct25) (ps := ["length", "numbers"]) fun us hl => match us, hl with | [_, _], _ => rfl
  have F26 := fd_mk (st := s_law) l26 c26 k26
  have b26 := Binds.all (K := K) (fd := PySem.W.fnOf "law" "law" (defArgs s_law) (defBody s_law) (defScope s_law) .none kV26 dc26 pm26 an26 cd26 ct26) (ps := ["script"]) fun us hl => match us, hl with | [_], _ => rfl
  have m0 : PySem.W.exmOne K (.ref C0) (.ref C0) = some true := exm_self bx0 ix0 tx0 sx0
  have m1 : PySem.W.exmOne K (.ref C1) (.ref C1) = some true := exm_self bx1 ix1 tx1 sx1
  have m2 : PySem.W.exmOne K (.ref C2) (.ref C2) = some true := exm_self bx2 ix2 tx2 sx2
  have T : Txt K mg ⟨f0, _, f1, _, f2, _, f3, _, f4, _, f5, _, f6, _, f7, _, f8, _, f9, _, f10, _, f11, _, f12, _, f13, _, f14, _, f15, _, f16, _, f17, _, f18, _, f19, _, f20, _, f21, _, f22, _, f23, _, f24, _, f25, _, fa, _, C0, C1, C2, cc0, P0, w2, cz0, cz1, cz2, cz3, cz4⟩ := ⟨F0, PySem.W.mg_of X G a0, k0, b0, F1, PySem.W.mg_of X G a1, k1, b1, F2, PySem.W.mg_of X G a2, k2, b2, F3, PySem.W.mg_of X G a3, k3, b3, F4, PySem.W.mg_of X G a4, k4, b4, F5, PySem.W.mg_of X G a5, k5, b5, F6, PySem.W.mg_of X G a6, k6, b6, F7, PySem.W.mg_of X G a7, k7, b7, F8, PySem.W.mg_of X G a8, k8, b8, F9, PySem.W.mg_of X G a9, k9, b9, F10, PySem.W.mg_of X G a10, k10, b10, F11, PySem.W.mg_of X G a11, k11, b11, F12, PySem.W.mg_of X G a12, k12, b12, F13, PySem.W.mg_of X G a13, k13, b13, F14, PySem.W.mg_of X G a14, k14, b14, F15, PySem.W.mg_of X G a15, k15, b15, F16, PySem.W.mg_of X G a16, k16, b16, F17, PySem.W.mg_of X G a17, k17, b17, F18, PySem.W.mg_of X G a18, k18, b18, F19, PySem.W.mg_of X G a19, k19, b19, F20, PySem.W.mg_of X G a20, k20, b20, F21, PySem.W.mg_of X G a21, k21, b21, F22, PySem.W.mg_of X G a22, k22, b22, F23, PySem.W.mg_of X G a23, k23, b23, F24, PySem.W.mg_of X G a24, k24, b24, F25, PySem.W.mg_of X G a25, k25, b25, F26, PySem.W.mg_of X G a26, k26, b26, (fun cdv ⟨o, fd, e1, e2, e3⟩ => by rw [l0] at e1; cases e1; cases e2; exact e3.symm), (fun q h => h), rfl, r2, bd2, PySem.W.mg_of X G gx0, kx0, xx0, bx0, tx0, m0, PySem.W.mg_of X G gx1, kx1, xx1, bx1, tx1, m1, PySem.W.mg_of X G gx2, kx2, xx2, bx2, tx2, m2, PySem.W.mg_of X G hz0, PySem.W.mg_of X G hz1, PySem.W.mg_of X G hz2, PySem.W.mg_of X G hz3, dd_pair lz3, PySem.W.mg_of X G hz4, dd_pair lz4, PySem.W.mg_none_of X G z0, PySem.W.mg_none_of X G z1, PySem.W.mg_none_of X G z2, PySem.W.mg_none_of X G z3, PySem.W.mg_none_of X G z4, PySem.W.mg_none_of X G z5, PySem.W.mg_none_of X G z6, PySem.W.mg_none_of X G z7, PySem.W.mg_none_of X G z8, PySem.W.mg_none_of X G z9, PySem.W.mg_none_of X G z10, PySem.W.mg_none_of X G z11, PySem.W.mg_none_of X G z12, PySem.W.mg_none_of X G z13, PySem.W.mg_none_of X G z14, PySem.W.mg_of X G y0⟩
  refine ⟨N, PySem.W.fnOf "law" "law" (defArgs s_law) (defBody s_law) (defScope s_law) .none kV26 dc26 pm26 an26 cd26 ct26, [(cc0, P0)], (fun p hp => by rw [List.mem_singleton.mp hp]; exact hT0), (fun p hp => by rw [List.mem_singleton.mp hp]; exact nT0), (fun p hp => by rw [List.mem_singleton.mp hp]; exact PySem.W.codeHd_of_K X hC0), fun Q hQ => by rw [show Q = P0 from hQ]; exact List.mem_singleton.mpr rfl, fun s v => .of_eq rfl, fun base _ _ hX => ?_⟩
  have TB_is_name : LamX.TabB base mg cc0 P0 := by
    have t := hX (cc0, P0) (List.mem_singleton.mpr rfl)
    exact ⟨t.hd, t.bm, t.ne⟩
  have o_is_name := ok_is_name (P := P) (w := w) (base := base) T TB_is_name
  have o_is_whole := ok_is_whole (P := P) (w := w) (base := base) T
  have o_ratio := ok_ratio (P := P) (w := w) (base := base) T
  have o_is_ratio := ok_is_ratio (P := P) (w := w) (base := base) T o_is_whole
  have o_plus := ok_plus (P := P) (w := w) (base := base) T o_ratio
  have o_opposite := ok_opposite (P := P) (w := w) (base := base) T
  have o_minus := ok_minus (P := P) (w := w) (base := base) T o_plus o_opposite
  have o_times := ok_times (P := P) (w := w) (base := base) T o_ratio
  have o_is_leaf := ok_is_leaf (P := P) (w := w) (base := base) T o_is_ratio o_is_name
  have o_is_nested : FnG P w K mg base 12 _ _ ["value", "depth"] (sp_is_nested K _) := okr_is_nested (P := P) (w := w) (base := base) T o_is_leaf o_is_ratio 9
  have o_is_length := ok_is_length (P := P) (w := w) (base := base) T o_is_nested
  have o_length_worth : FnG P w K mg base 12 _ _ ["length", "numbers"] (sp_length_worth K _) := okr_length_worth (P := P) (w := w) (base := base) T o_times o_plus o_minus 9
  have o_names_within : FnG P w K mg base 9 _ _ ["length"] (sp_names_within K _) := okr_names_within (P := P) (w := w) (base := base) T 9
  have o_growth : FnG P w K mg base 12 _ _ ["length", "name"] (sp_growth K _) := okr_growth (P := P) (w := w) (base := base) T o_times o_plus o_minus 9
  have o__law_names : FnG P w K mg base 9 _ _ ["length"] (sp__law_names K _) := okr__law_names (P := P) (w := w) (base := base) T 9
  have o__law_is_ratio := ok__law_is_ratio (P := P) (w := w) (base := base) T o_ratio
  have o__law_is_right : FnG P w K mg base 11 _ _ ["value", "depth"] (sp__law_is_right K _) := okr__law_is_right (P := P) (w := w) (base := base) T o__law_is_ratio 9
  have o__law_draws := ok__law_draws (P := P) (w := w) (base := base) T
  have o__law_take := ok__law_take (P := P) (w := w) (base := base) T
  have o__law_ratio := ok__law_ratio (P := P) (w := w) (base := base) T o__law_take o_ratio
  have o__law_small := ok__law_small (P := P) (w := w) (base := base) T o_ratio o__law_take
  have o__law_any_length : FnG P w K mg base 6 _ _ ["draws", "depth"] (sp__law_any_length K _) := okr__law_any_length (P := P) (w := w) (base := base) T o__law_take o__law_ratio 4
  have o__law_told := ok__law_told (P := P) (w := w) (base := base) T o_length_worth
  have o__law_bent := ok__law_bent (P := P) (w := w) (base := base) T o__law_take
  have o_numbers_in := ok_numbers_in (P := P) (w := w) (base := base) T o_names_within
  have o__law_worth : FnG P w K mg base 12 _ _ ["length", "numbers"] (sp__law_worth K _) := okr__law_worth (P := P) (w := w) (base := base) T o_times o_minus o_plus 9
  have o_law := ok_law (P := P) (w := w) (base := base) T o__law_draws o__law_ratio o__law_small o_ratio o__law_any_length o__law_bent o_is_length o_length_worth o_plus o__law_names o_numbers_in o__law_is_right o_times o__law_told o__law_worth o_growth o_minus
  exact o_law
end K06
open PySem PySem.W PyProof.Rows
set_option maxRecDepth 100000 in
set_option maxHeartbeats 0 in
theorem PySem.Challenge.cw_mitrehouse_k06_lengths_holds : PySem.Challenge.rw_mitrehouse_k06_lengths.Holds := by
  w_on; o_law; k_head; (case hw => w_witness2)
  k_fill
  refine M3.walk_law3 (l := PySem.Challenge.rw_mitrehouse_k06_lengths) (k := 14) (x := "script") rfl rfl ⟨rfl, by decide, by decide⟩ (fun w h Y => PySem.W.kIn_of Y) ?F
  case F =>
    intro w mg fa h Y KX G hmg own
    refine' K06.all_mk KX G hmg own ?a0 ?l0 ?c0 ?k0 ?hr0 ?nT0 ?hC0 ?a1 ?l1 ?c1 ?k1 ?a2 ?l2 ?c2 ?k2 ?e2 ?a3 ?l3 ?c3 ?k3 ?a4 ?l4 ?c4 ?k4 ?a5 ?l5 ?c5 ?k5 ?a6 ?l6 ?c6 ?k6 ?a7 ?l7 ?c7 ?k7 ?a8 ?l8 ?c8 ?k8 ?a9 ?l9 ?c9 ?k9 ?a10 ?l10 ?c10 ?k10 ?a11 ?l11 ?c11 ?k11 ?a12 ?l12 ?c12 ?k12 ?a13 ?l13 ?c13 ?k13 ?a14 ?l14 ?c14 ?k14 ?a15 ?l15 ?c15 ?k15 ?a16 ?l16 ?c16 ?k16 ?a17 ?l17 ?c17 ?k17 ?a18 ?l18 ?c18 ?k18 ?a19 ?l19 ?c19 ?k19 ?a20 ?l20 ?c20 ?k20 ?a21 ?l21 ?c21 ?k21 ?a22 ?l22 ?c22 ?k22 ?a23 ?l23 ?c23 ?k23 ?a24 ?l24 ?c24 ?k24 ?a25 ?l25 ?c25 ?k25 ?a26 ?l26 ?c26 ?k26 ?gx0 ?kx0 ?xx0 ?bx0 ?tx0 ?ix0 ?sx0 ?gx1 ?kx1 ?xx1 ?bx1 ?tx1 ?ix1 ?sx1 ?gx2 ?kx2 ?xx2 ?bx2 ?tx2 ?ix2 ?sx2 ?hz0 ?hz1 ?hz2 ?hz3 ?lz3 ?hz4 ?lz4 ?z0 ?z1 ?z2 ?z3 ?z4 ?z5 ?z6 ?z7 ?z8 ?z9 ?z10 ?z11 ?z12 ?z13 ?z14 ?y0
    (case a0 => first | k_is | k_exc | rfl); (case l0 => first | k_is | k_exc | rfl); (case c0 => first | k_is | k_exc | rfl); (case k0 => first | k_is | k_exc | rfl); (case hr0 => first | rfl | decide +kernel); (case nT0 => first | rfl | k_is); (case hC0 => first | rfl | k_is); (case a1 => first | k_is | k_exc | rfl); (case l1 => first | k_is | k_exc | rfl); (case c1 => first | k_is | k_exc | rfl); (case k1 => first | k_is | k_exc | rfl); (case a2 => first | k_is | k_exc | rfl); (case l2 => first | k_is | k_exc | rfl); (case c2 => first | k_is | k_exc | rfl); (case k2 => first | k_is | k_exc | rfl); (case e2 => first | k_is | k_exc | rfl); (case a3 => first | k_is | k_exc | rfl); (case l3 => first | k_is | k_exc | rfl); (case c3 => first | k_is | k_exc | rfl); (case k3 => first | k_is | k_exc | rfl); (case a4 => first | k_is | k_exc | rfl); (case l4 => first | k_is | k_exc | rfl); (case c4 => first | k_is | k_exc | rfl); (case k4 => first | k_is | k_exc | rfl); (case a5 => first | k_is | k_exc | rfl); (case l5 => first | k_is | k_exc | rfl); (case c5 => first | k_is | k_exc | rfl); (case k5 => first | k_is | k_exc | rfl); (case a6 => first | k_is | k_exc | rfl); (case l6 => first | k_is | k_exc | rfl); (case c6 => first | k_is | k_exc | rfl); (case k6 => first | k_is | k_exc | rfl); (case a7 => first | k_is | k_exc | rfl); (case l7 => first | k_is | k_exc | rfl); (case c7 => first | k_is | k_exc | rfl); (case k7 => first | k_is | k_exc | rfl); (case a8 => first | k_is | k_exc | rfl); (case l8 => first | k_is | k_exc | rfl); (case c8 => first | k_is | k_exc | rfl); (case k8 => first | k_is | k_exc | rfl); (case a9 => first | k_is | k_exc | rfl); (case l9 => first | k_is | k_exc | rfl); (case c9 => first | k_is | k_exc | rfl); (case k9 => first | k_is | k_exc | rfl); (case a10 => first | k_is | k_exc | rfl); (case l10 => first | k_is | k_exc | rfl); (case c10 => first | k_is | k_exc | rfl); (case k10 => first | k_is | k_exc | rfl); (case a11 => first | k_is | k_exc | rfl); (case l11 => first | k_is | k_exc | rfl); (case c11 => first | k_is | k_exc | rfl); (case k11 => first | k_is | k_exc | rfl); (case a12 => first | k_is | k_exc | rfl); (case l12 => first | k_is | k_exc | rfl); (case c12 => first | k_is | k_exc | rfl); (case k12 => first | k_is | k_exc | rfl); (case a13 => first | k_is | k_exc | rfl); (case l13 => first | k_is | k_exc | rfl); (case c13 => first | k_is | k_exc | rfl); (case k13 => first | k_is | k_exc | rfl); (case a14 => first | k_is | k_exc | rfl); (case l14 => first | k_is | k_exc | rfl); (case c14 => first | k_is | k_exc | rfl); (case k14 => first | k_is | k_exc | rfl); (case a15 => first | k_is | k_exc | rfl); (case l15 => first | k_is | k_exc | rfl); (case c15 => first | k_is | k_exc | rfl); (case k15 => first | k_is | k_exc | rfl); (case a16 => first | k_is | k_exc | rfl); (case l16 => first | k_is | k_exc | rfl); (case c16 => first | k_is | k_exc | rfl); (case k16 => first | k_is | k_exc | rfl); (case a17 => first | k_is | k_exc | rfl); (case l17 => first | k_is | k_exc | rfl); (case c17 => first | k_is | k_exc | rfl); (case k17 => first | k_is | k_exc | rfl); (case a18 => first | k_is | k_exc | rfl); (case l18 => first | k_is | k_exc | rfl); (case c18 => first | k_is | k_exc | rfl); (case k18 => first | k_is | k_exc | rfl); (case a19 => first | k_is | k_exc | rfl); (case l19 => first | k_is | k_exc | rfl); (case c19 => first | k_is | k_exc | rfl); (case k19 => first | k_is | k_exc | rfl); (case a20 => first | k_is | k_exc | rfl); (case l20 => first | k_is | k_exc | rfl); (case c20 => first | k_is | k_exc | rfl); (case k20 => first | k_is | k_exc | rfl); (case a21 => first | k_is | k_exc | rfl); (case l21 => first | k_is | k_exc | rfl); (case c21 => first | k_is | k_exc | rfl); (case k21 => first | k_is | k_exc | rfl); (case a22 => first | k_is | k_exc | rfl); (case l22 => first | k_is | k_exc | rfl); (case c22 => first | k_is | k_exc | rfl); (case k22 => first | k_is | k_exc | rfl); (case a23 => first | k_is | k_exc | rfl); (case l23 => first | k_is | k_exc | rfl); (case c23 => first | k_is | k_exc | rfl); (case k23 => first | k_is | k_exc | rfl); (case a24 => first | k_is | k_exc | rfl); (case l24 => first | k_is | k_exc | rfl); (case c24 => first | k_is | k_exc | rfl); (case k24 => first | k_is | k_exc | rfl); (case a25 => first | k_is | k_exc | rfl); (case l25 => first | k_is | k_exc | rfl); (case c25 => first | k_is | k_exc | rfl); (case k25 => first | k_is | k_exc | rfl); (case a26 => first | k_is | k_exc | rfl); (case l26 => first | k_is | k_exc | rfl); (case c26 => first | k_is | k_exc | rfl); (case k26 => first | k_is | k_exc | rfl); (case gx0 => first | k_is | k_exc | rfl); (case kx0 => first | k_is | k_exc | rfl); (case xx0 => first | k_is | k_exc | rfl); (case bx0 => first | k_is | k_exc | rfl); (case tx0 => first | k_is | k_exc | rfl); (case ix0 => first | k_is | k_exc | rfl); (case sx0 => first | k_is | k_exc | rfl); (case gx1 => first | k_is | k_exc | rfl); (case kx1 => first | k_is | k_exc | rfl); (case xx1 => first | k_is | k_exc | rfl); (case bx1 => first | k_is | k_exc | rfl); (case tx1 => first | k_is | k_exc | rfl); (case ix1 => first | k_is | k_exc | rfl); (case sx1 => first | k_is | k_exc | rfl); (case gx2 => first | k_is | k_exc | rfl); (case kx2 => first | k_is | k_exc | rfl); (case xx2 => first | k_is | k_exc | rfl); (case bx2 => first | k_is | k_exc | rfl); (case tx2 => first | k_is | k_exc | rfl); (case ix2 => first | k_is | k_exc | rfl); (case sx2 => first | k_is | k_exc | rfl); (case hz0 => first | k_is | k_exc | rfl); (case hz1 => first | k_is | k_exc | rfl); (case hz2 => first | k_is | k_exc | rfl); (case hz3 => first | k_is | k_exc | rfl); (case lz3 => first | k_is | k_exc | rfl); (case hz4 => first | k_is | k_exc | rfl); (case lz4 => first | k_is | k_exc | rfl); (case z0 => first | k_is | k_exc | rfl); (case z1 => first | k_is | k_exc | rfl); (case z2 => first | k_is | k_exc | rfl); (case z3 => first | k_is | k_exc | rfl); (case z4 => first | k_is | k_exc | rfl); (case z5 => first | k_is | k_exc | rfl); (case z6 => first | k_is | k_exc | rfl); (case z7 => first | k_is | k_exc | rfl); (case z8 => first | k_is | k_exc | rfl); (case z9 => first | k_is | k_exc | rfl); (case z10 => first | k_is | k_exc | rfl); (case z11 => first | k_is | k_exc | rfl); (case z12 => first | k_is | k_exc | rfl); (case z13 => first | k_is | k_exc | rfl); (case z14 => first | k_is | k_exc | rfl); (case y0 => first | k_is | k_exc | rfl)
