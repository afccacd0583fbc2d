import PyProof.Rows.All
import Wide.All
import OpenK.AllK
import Wide.FinOn
import HandS.Strs
import HandS.SetFor
import HandS.SetKeys
import HandS.More
import HandS.Sort
import HandS.Style
import KE.KRevSl
import HandS.Zip
import HandS.ForMost
import HandS.ForExc
import HandS.CallSlots
import HandS.Flow
import HandS.Wide
import HandS.WideMore
import HandS.Gcd
import HandS.IsInst
import HandS.Conv
import HandS.TupAny
import HandS.TupMul
import HandS.DictComp
import HandS.Star
import HandS.WordsDict
import HandS.SortInts
import HandS.TryMany
import HandS.TryOnly
import HandS.TupLe
import HandS.Deep
import HandS.EndBits
import PyProof.Rows.StrMeet
import PySem.Challenge.RW_alikechances_k03_names_and_sizes
-- Q1
set_option Elab.async false
set_option linter.all false
set_option maxRecDepth 100000
namespace Ip
open PySem L2 PyProof.Rows

/-! ### sets of keys of one kind, that can be walked -/
section
variable {P : Program} {w : World} {κ : Type} [DecidableEq κ] {knd : KeyKind P w κ} {A : Around} {E : Value → Shared → Prop} {s : Shared} {a : Addr}
def Apart (knd : KeyKind P w κ) (l : List (Int × Value)) : Prop := l.Pairwise fun e e' => ∀ k, knd.is k e.2 = true → knd.is k e'.2 = false
structure Tb (knd : KeyKind P w κ) (es : Array (Int × Value)) (t : SetTable) : Prop where
  el : ElemsOf knd es.toList
  ap : Apart knd es.toList
  sz : es.size < scanBound
  ft : t.fits es.size = true
  ri : Ris t.place.toList
  ld : w.params.followText "set-order" = true ∨ t.led = true
def SetG (knd : KeyKind P w κ) (h : Heap) (a : Addr) (es : Array (Int × Value)) : Prop := ∃ o ep t, h.get? a = some o ∧ o.ExactSet ∧ o.data = .set es ep t ∧ Tb knd es t
theorem apart_symm : ∀ {e e' : Int × Value}, (∀ k, knd.is k e.2 = true → knd.is k e'.2 = false) → ∀ k, knd.is k e'.2 = true → knd.is k e.2 = false := fun {e e'} h k q => by
  cases z : knd.is k e.2 with
  | false => rfl
  | true => rw [h k z] at q; cases q
theorem Apart.perm {l l' : List (Int × Value)} (p : l.Perm l') (h : Apart knd l) : Apart knd l' := (p.pairwise_iff fun {_ _} => apart_symm).mp h
theorem Tb.relay {es es2 : Array (Int × Value)} {t t2 : SetTable} (T : Tb knd es t) (p : es2.toList.Perm es.toList) (hf : t2.fits es2.size = true) (hr : Ris t2.place.toList) (hl : t2.led = t.led) : Tb knd es2 t2 :=
  ⟨T.el.perm p, T.ap.perm p.symm, by have := p.length_eq; rw [Array.length_toList, Array.length_toList] at this; rw [this]; exact T.sz, hf, hr, T.ld.imp id fun z => by rw [hl]; exact z⟩
theorem SetG.keep {h h' : Heap} {es : Array (Int × Value)} (R : SetG knd h a es) (k : ∀ o, h.get? a = some o → h'.get? a = some o) : SetG knd h' a es := by
  obtain ⟨o, ep, t, ho, r⟩ := R; exact ⟨o, ep, t, k o ho, r⟩
theorem setG_add {k : κ} {x : Value} {es : Array (Int × Value)} {Q : Bool → Shared → Prop} (hk : knd.is k x = true) (hx : x.scannable = true) (R : SetG knd s.heap a es) (room : es.size + 1 < scanBound)
    (old : (∃ e ∈ es.toList, knd.is k e.2 = true) → Q false s)
    (new : (∀ e ∈ es.toList, knd.is k e.2 = false) → ∀ h' es', Heap.SameBut a s.heap h' → SetG knd h' a es' → es'.toList.Perm ((knd.hash k, x) :: es.toList) → Q true { s with heap := h' }) :
    wpAny (model P w) A (setAddHashed a x (knd.hash k)) Q E s := by
  obtain ⟨o, ep, t, ho, hex, hd, T⟩ := R
  unfold setAddHashed setAddHashedIn
  refine wpAny_holding (wpAny_bind (wpAny_setState_of ho hd T.ft ?_))
  dsimp only
  rw [byScan_of hx T.sz T.el]
  simp only [↓reduceIte]
  unfold setAddByScan
  refine wpAny_bind (wpAny_bind (wpAny_rule (wpAny_bind (wpAny_setScan_of hk ho hd T.ft T.el ?_))))
  cases fi : es.toList.findIdx? (fun e => knd.is k e.2) with
  | some j =>
    obtain ⟨hj, pj, _⟩ := List.findIdx?_eq_some_iff_getElem.mp fi
    exact wpAny_pure (wpAny_pure (old ⟨_, List.getElem_mem hj, pj⟩))
  | none =>
    have no := List.findIdx?_eq_none_iff.mp fi
    have grow : ∀ (es1 : Array (Int × Value)) (t1 : SetTable), es1.toList.Perm ((knd.hash k, x) :: es.toList) → t1.fits es1.size = true → Ris t1.place.toList → t1.led = t.led → Tb knd es1 t1 := fun es1 t1 p f1 r1 l1 =>
      ⟨fun e he => (List.mem_cons.mp (p.mem_iff.mp he)).elim (fun z => by subst z; exact ⟨⟨k, hk, rfl⟩, hx⟩) (T.el e),
        Apart.perm p.symm (List.pairwise_cons.mpr ⟨fun e he j hj => by rw [knd.inj _ _ _ hj hk]; exact no e he, T.ap⟩),
        by have := p.length_eq; rw [List.length_cons, Array.length_toList, Array.length_toList] at this; omega, f1, r1, T.ld.imp id fun z => by rw [l1]; exact z⟩
    have pm := layNew_perm t es (knd.hash k) x
    have f1 := layNew_fits t es (knd.hash k) x
    have r1 := layNew_ris t es (knd.hash k) x T.ri
    have l1 := layNew_led t es (knd.hash k) x
    revert pm f1 r1 l1
    generalize layNew t es (knd.hash k) x = Y
    obtain ⟨es1, t1, dm, gv⟩ := Y
    intro pm f1 r1 l1
    dsimp only at pm f1 r1 l1 ⊢
    have pc : es1.toList.Perm ((knd.hash k, x) :: es.toList) := by rw [Array.toList_push] at pm; exact pm.trans (List.perm_append_singleton _ _)
    -- the table is stored, and laid anew where it is too full
    have tail : ∀ (g : Bool → Sem Unit), (∀ (b : Bool) (s₁ : Shared) (Z' : Unit → Shared → Prop), Z' () s₁ → wpAny (model P w) A (g b) Z' E s₁) → ∀ (t2 : SetTable), t2.fits es1.size = true → Ris t2.place.toList → t2.led = t.led → ∀ {Z : Option Bool → Shared → Prop}, (∀ h' es', Heap.SameBut a s.heap h' → SetG knd h' a es' → es'.toList.Perm ((knd.hash k, x) :: es.toList) → Z (some true) { s with heap := h' }) →
        wpAny (model P w) A (do
          storeSet a es1 t2
          if (!dm && t2.tooFull) = true then do
            g (relayAll t2 es1 (SetTable.grown es1.size)).2.2
            storeSet a (relayAll t2 es1 (SetTable.grown es1.size)).1 (relayAll t2 es1 (SetTable.grown es1.size)).2.1
            pure (some true)
          else pure (some true)) Z E s := fun g gw t2 f2 r2 l2 Z hZ => by
      have T1 := grow es1 t2 pc f2 r2 l2
      refine wpAny_bind (wpAny_storeSet_of ho hd ?_ (fits_of_scanBound T1.sz))
      have ho1 := store_at (es' := es1) (t' := t2) ho hd
      have sb1 := Heap.SameBut.update s.heap a (Obj.putSet es1 t2)
      split
      · have p2 := relayAll_perm t2 es1 (SetTable.grown es1.size)
        have f3 := relayAll_fits t2 es1 (SetTable.grown es1.size)
        have r3 := relayAll_ris t2 es1 (SetTable.grown es1.size)
        have l3 := relayAll_led t2 es1 (SetTable.grown es1.size)
        revert p2 f3 r3 l3
        generalize relayAll t2 es1 (SetTable.grown es1.size) = Y
        obtain ⟨es2, t3, g3⟩ := Y
        intro p2 f3 r3 l3
        dsimp only at p2 f3 r3 l3 ⊢
        have T2 := T1.relay p2 f3 r3 l3
        refine wpAny_bind (gw g3 _ _ (wpAny_bind (wpAny_storeSet_of ho1 rfl ?_ (fits_of_scanBound T2.sz))))
        exact wpAny_pure (hZ _ es2 (sb1.trans (Heap.SameBut.update _ a _)) ⟨_, _, t3, store_at (es' := es2) (t' := t3) ho1 rfl, hex, rfl, T2⟩ (p2.trans pc))
      · exact wpAny_pure (hZ _ es1 sb1 ⟨_, _, t2, ho1, hex, rfl, T1⟩ pc)
    have gw : ∀ (b : Bool) (s₁ : Shared) (Z' : Unit → Shared → Prop), Z' () s₁ → wpAny (model P w) A (match b with | true => rule "set.scan.the-table-gave-way" | false => pure ()) Z' E s₁ := fun b s₁ Z' q => by cases b <;> first | exact wpAny_pure q | exact wpAny_rule q
    refine wpAny_bind (gw gv _ _ ?_)
    split
    · rw [hashByValue_scannable 8 hx]
      refine wpAny_bind (wpAny_pure (tail _ gw _ ?_ ?_ ?_ fun h' es' sb R' p' => wpAny_pure (new no h' es' sb R' p')))
      · split
        · exact f1
        · exact SetTable.fits_plain_off f1
      · split <;> exact r1
      · split <;> exact l1
    · refine wpAny_bind (wpAny_pure ?_)
      simp only [↓reduceIte]
      exact tail _ gw t1 f1 r1 l1 fun h' es' sb R' p' => wpAny_pure (new no h' es' sb R' p')
/-- what the set has from the first i keys -/
structure Got (knd : KeyKind P w κ) (ks : List κ) (i : Nat) (es : Array (Int × Value)) : Prop where
  sub : ∀ e ∈ es.toList, ∃ k ∈ ks.take i, knd.is k e.2 = true
  all : ∀ k ∈ ks.take i, ∃ e ∈ es.toList, knd.is k e.2 = true
  len : es.size ≤ i
theorem Got.next {ks : List κ} {i : Nat} {es es' : Array (Int × Value)} {k : κ} {v : Value} (g : Got knd ks i es) (hk : ks[i]? = some k) (hv : knd.is k v = true)
    (h : (es' = es ∧ ∃ e ∈ es.toList, knd.is k e.2 = true) ∨ es'.toList.Perm ((knd.hash k, v) :: es.toList)) : Got knd ks (i + 1) es' := by
  have tk : ks.take (i + 1) = ks.take i ++ [k] := by rw [List.take_succ, hk]; rfl
  rcases h with ⟨rfl, h⟩ | p
  · refine ⟨fun e he => ?_, fun j hj => ?_, Nat.le_succ_of_le g.len⟩
    · obtain ⟨j, h1, h2⟩ := g.sub e he
      exact ⟨j, by rw [tk]; exact List.mem_append_left _ h1, h2⟩
    · rw [tk] at hj
      rcases List.mem_append.mp hj with z | z
      · exact g.all j z
      · rw [List.mem_singleton.mp z]; exact h
  · refine ⟨fun e he => ?_, fun j hj => ?_, ?_⟩
    · rcases List.mem_cons.mp (p.mem_iff.mp he) with z | z
      · subst z
        exact ⟨k, by rw [tk]; simp, hv⟩
      · obtain ⟨j, h1, h2⟩ := g.sub e z
        exact ⟨j, by rw [tk]; exact List.mem_append_left _ h1, h2⟩
    · rw [tk] at hj
      rcases List.mem_append.mp hj with z | z
      · obtain ⟨e, h1, h2⟩ := g.all j z
        exact ⟨e, p.mem_iff.mpr (List.mem_cons_of_mem _ h1), h2⟩
      · rw [List.mem_singleton.mp z]
        exact ⟨_, p.mem_iff.mpr List.mem_cons_self, hv⟩
    · have := p.length_eq
      rw [List.length_cons, Array.length_toList, Array.length_toList] at this
      have := g.len
      omega
theorem set_walk {I : Addr} {fp wr : List Addr} {G : Array GenState → Array GenState → Prop} {n : Nat} {Pv : Nat → Value → Prop} {St : Nat → Shared → Prop} {R : Result → Shared → Prop} (W : WalksS P w A.in1 I fp wr G n Pv St) (S : Addr) (nS : S ∉ fp) (ks : List κ) (hn : n = ks.length)
    (room : ks.length + 1 < scanBound) (val : ∀ i v, Pv i v → ∃ k, ks[i]? = some k ∧ knd.is k v = true ∧ v.scannable = true) : ∀ (m i : Nat) (s : Shared), n - i = m → i ≤ n → St i s → (∃ es, SetG knd s.heap S es ∧ Got knd ks i es) →
      (∀ s' es, Moved (S :: wr) G s s' → SetG knd s'.heap S es → Got knd ks n es → R (.ok (.ret .none)) s') → codeAny (model P w) A (.builtin "set.update.loop" ⟨[.ref S, .ref I], []⟩) R s := by
  have nw : S ∉ wr := fun h => nS (W.sub _ h)
  have up : ∀ b ∈ wr, b ∈ S :: wr := fun b hb => List.mem_cons_of_mem _ hb
  intro m
  induction m with
  | zero =>
    intro i s hm hi st ⟨es, hS, g⟩ fin
    obtain rfl : i = n := by omega
    refine codeAny_builtin PyProof.Rows.F.entry_set_update_loop ?_
    rw [Around.under_plainId PyProof.Rows.F.plain_set_update_loop _]
    refine wpAny_bind (m := pyNext (.ref I)) (W.done s _ _ st fun s' mv => wpAny_pure (fin s' es (mv.mono up) (hS.keep fun o e => mv.heap S o nw e) g))
  | succ m ih =>
    intro i s hm hi st ⟨es, hS, g⟩ fin
    have lt : i < n := by omega
    refine codeAny_builtin PyProof.Rows.F.entry_set_update_loop ?_
    rw [Around.under_plainId PyProof.Rows.F.plain_set_update_loop _]
    refine wpAny_bind (m := pyNext (.ref I)) (W.item i s _ _ lt st fun v s' hP st' mv => ?_)
    obtain ⟨k, hk, hv, hx⟩ := val i v hP
    have hS' : SetG knd s'.heap S es := hS.keep fun o e => mv.heap S o nw e
    have go : ∀ (b : Bool) (h' : Heap) (es' : Array (Int × Value)), Heap.SameBut S s'.heap h' → SetG knd h' S es' → Got knd ks (i + 1) es' →
        codeAny (model P w) A (.builtin "set.update.loop" ⟨[.ref S, .ref I], []⟩) R { s' with heap := h', toks := s'.toks + 1 } := fun b h' es' sb R' g' => by
      refine ih (i + 1) _ (by omega) lt (W.frame _ s' _ _ st' (Nat.le_succ _) fun c hc o e => (sb.2 c fun z => nS (z ▸ hc)).trans e) ⟨es', R', g'⟩ fun s2 es2 mv2 R2 g2 => ?_
      exact fin s2 es2 (Moved.trans W.gtrans ((mv.mono up).then_heap (Nat.le_succ _) fun c o hc e => (sb.2 c fun z => hc (by rw [z]; exact List.mem_cons_self)).trans e) mv2) R2 g2
    refine wpAny_bind (m := holding [v] (setAdd S v)) (wpAny_holding ?_)
    unfold setAdd
    refine wpAny_holding (wpAny_bind (knd.pyHash (k := k) hv ?_))
    refine setG_add (s := { s' with toks := s'.toks + 1 }) hv hx hS' (by have := g.len; omega) (fun o => ?_) fun no h' es' sb R' p => ?_
    · exact wpAny_pure ⟨plainId_quiet PyProof.Rows.F.plain_set_update_loop _, go false s'.heap es (Heap.SameBut.refl S s'.heap) hS' (g.next hk hv (.inl ⟨rfl, o⟩))⟩
    · exact wpAny_pure ⟨plainId_quiet PyProof.Rows.F.plain_set_update_loop _, go true h' es' sb R' (g.next hk hv (.inr p))⟩
/-- the set with nothing in it, as it is made -/
abbrev noSet (w : World) : Obj := { cls := .type "set", dict := none, data := .set #[] 0 (.fresh 0 0 (!w.params.followText "set-order")) }
theorem setG_none {h : Heap} {a : Addr} (e : h.get? a = some (noSet w)) : SetG knd h a #[] :=
  ⟨_, 0, _, e, ⟨rfl, rfl, rfl⟩, rfl, ⟨fun e he => by simp at he, List.Pairwise.nil, by decide, rfl, List.Pairwise.nil, by
    show _ ∨ (!w.params.followText "set-order") = true
    cases w.params.followText "set-order" <;> simp⟩⟩
theorem got_none {ks : List κ} : Got knd ks 0 #[] := ⟨fun e he => by simp at he, fun k hk => by simp at hk, Nat.le_refl _⟩
/-- from the iterator on -/
theorem set_fill {I : Addr} {items : Array Value} {h0 : Heap} {fp wr : List Addr} {Pv : Nat → Value → Prop} {St : Nat → Shared → Prop} {R : Result → Shared → Prop} (ks : List κ) (sz : items.size = ks.length) (room : ks.length + 1 < scanBound) (W : WalksS P w A.in1 I fp wr (fun g g' => g' = g) items.size Pv St)
    (nS : a ∉ fp) (val : ∀ i v, Pv i v → ∃ k, ks[i]? = some k ∧ knd.is k v = true ∧ v.scannable = true) (st : St 0 s) (e : s.heap.get? a = some (noSet w)) (old : ∀ b o, h0.get? b = some o → b ∉ a :: wr ∧ s.heap.get? b = some o)
    (fin : ∀ (s' : Shared) es, SetG knd s'.heap a es → Got knd ks ks.length es → (∀ b o, h0.get? b = some o → s'.heap.get? b = some o) → s'.gens = s.gens → s'.drawn = s.drawn → s'.os = s.os → R (.ok (.ret .none)) s') :
    codeAny (model P w) A (.builtin "set.update.loop" ⟨[.ref a, .ref I], []⟩) R s :=
  set_walk W a nS ks sz room val (items.size - 0) 0 s rfl (Nat.zero_le _) st ⟨#[], setG_none e, got_none⟩ fun s' es mv R' g => fin s' es R' (by rw [← sz]; exact g) (fun b o q => mv.heap b o (old b o q).1 (old b o q).2) mv.gens mv.drawn mv.os
theorem set_fill2 {items : Array Value} (ks : List κ) (sz : items.size = ks.length) (room : ks.length + 1 < scanBound) (val : ∀ (i : Nat) (v : Value), items[i]? = some v → ∃ k, ks[i]? = some k ∧ knd.is k v = true ∧ v.scannable = true) (I : Addr) (hI : Heap) (wr fp : List Addr) (Pv : Nat → Value → Prop)
    (St : Nat → Shared → Prop) (W : WalksS P w A.in1 I fp wr (fun g g' => g' = g) items.size Pv St) (nS : s.heap.objs.size ∉ fp) (hw : ∀ b ∈ wr, s.heap.objs.size < b) (hv : ∀ i v, Pv i v → items[i]? = some v) (st : St 0 { s with heap := hI })
    (kp : ∀ b o, (s.heap.push (noSet w)).get? b = some o → hI.get? b = some o) : codeAny (model P w) A (.builtin "set.update.loop" ⟨[.ref s.heap.objs.size, .ref I], []⟩)
      (fun r s' => r = .ok (.ret .none) ∧ ∃ h' tk es, s' = { s with heap := h', toks := tk } ∧ SetG knd h' s.heap.objs.size es ∧ Got knd ks ks.length es ∧ (∀ b o, s.heap.get? b = some o → h'.get? b = some o)) { s with heap := hI } :=
  set_fill (h0 := s.heap) ks sz room W nS (fun i v q => val i v (hv i v q)) st (kp _ _ (Heap.get?_push_size _ rfl))
    (fun b o e => ⟨fun z => by
      have lt := Heap.lt_size e
      rcases List.mem_cons.mp z with z | z
      · rw [z] at lt; exact Nat.lt_irrefl _ lt
      · exact Nat.lt_irrefl _ (Nat.lt_trans lt (hw b z)), kp b o (Heap.get?_push_of_some _ e)⟩)
    fun s' es R' g k g1 d1 o1 => ⟨rfl, s'.heap, s'.toks, es, by obtain ⟨h', g', d', tk', os'⟩ := s'; cases g1; cases d1; cases o1; rfl, R', g, k⟩
set_option maxHeartbeats 3200000 in
/-- set(x), x a list or a tuple of keys -/
theorem call_setG {l : Addr} {items : Array Value} (ks : List κ) {Q : Value → Shared → Prop} (hh : A.handled = none) (hl : s.heap.IsList l items ∨ s.heap.IsTuple l items) (sz : items.size = ks.length)
    (val : ∀ (i : Nat) (v : Value), items[i]? = some v → ∃ k, ks[i]? = some k ∧ knd.is k v = true ∧ v.scannable = true) (room : ks.length + 1 < scanBound)
    (h : ∀ (h' : Heap) (tk : Nat) es, SetG knd h' s.heap.objs.size es → Got knd ks ks.length es → (∀ b o, s.heap.get? b = some o → h'.get? b = some o) → Q (.ref s.heap.objs.size) { s with heap := h', toks := tk }) :
    wpAny (model P w) A (call (.type "set") [.ref l]) Q E s := by
  obtain ⟨⟨c, tl, hmro⟩, hmade, hsub⟩ : _ ∧ _ ∧ _ := ⟨PySem.F.called_set.mro, PySem.F.called_set.made, PySem.F.called_set.sub⟩
  refine wpAny_call (codeAny_of_tree (show wpAny _ _ (callAny (.type "set") _) _ _ _ from wpAny_pure ⟨Code.quiet_builtin _ (by decide +kernel), codeAny_builtin PySem.F.entry_type_call ?_⟩))
  rw [Around.under_plain (weight_type_call_type "set" [.ref l] []) rfl]
  have q1 := PySem.F.called_set.notType
  have q2 := PySem.F.called_set.canCreate
  have q3 := PySem.F.typeCall_set_1 (.ref l)
  repeat (any_goals (first | assumption | wp_step))
  refine codeAny_mono (code_set_led1 (.ref l) (E := E) (Q₁ := fun ob s1 => ob = .ref s.heap.objs.size ∧ s1 = { s with heap := s.heap.push (noSet w) }) ⟨rfl, rfl⟩) fun r s1 hr => ?_
  cases r with
  | error e => exact hr
  | ok fl => cases fl with
    | ret ob =>
      obtain ⟨rfl, rfl⟩ := hr
      have at0 : (s.heap.push (noSet w)).get? s.heap.objs.size = some (noSet w) := Heap.get?_push_size _ rfl
      have ty0 : Shared.TypeIs { s with heap := s.heap.push (noSet w) } (.ref s.heap.objs.size) "set" := ⟨_, at0, rfl⟩
      have q4 := PySem.F.called_set.init.lookup
      have q5 := PySem.F.called_set.init.bind (.ref s.heap.objs.size)
      repeat (any_goals (first | assumption | wp_step))
      refine codeAny_mono (codeAny_call_builtin (R := wants (fun r s2 => r = .none ∧ ∃ h' tk es, s2 = { s with heap := h', toks := tk } ∧ SetG knd h' s.heap.objs.size es ∧ Got knd ks ks.length es ∧ (∀ b o, s.heap.get? b = some o → h'.get? b = some o)) E)
        PySem.F.called_set.init.plain PySem.F.entry_set_init (check_set_init_1 ty0 ?_)) fun r2 s2 hr2 => ?_
      · have sP : (s.heap.push (noSet w)).objs.size = s.heap.objs.size + 1 := Heap.size_push ..
        rcases hl with hl | hl
        · obtain ⟨⟨c1, d1, dt, sl⟩, ol, hc1, nl, hd1⟩ := hl
          simp only at hc1 hd1
          subst hc1 hd1
          have il : (s.heap.push (noSet w)).IsList l items := ⟨_, Heap.get?_push_of_some _ ol, rfl, nl, rfl⟩
          have ol1 := Heap.get?_push_of_some (noSet w) ol
          obtain ⟨z1, z2, z3⟩ : _ ∧ _ ∧ (Value.type "list" == Value.type "dict") = false := ⟨PySem.F.sub_list_set, PySem.F.sub_list_frozenset, by decide⟩
          unfold Builtin.«set.__init__» noKeywords Builtin.Frozenset.updateFrom
          generalize hPI : pyIter = PI
          wp_walk
          subst hPI
          refine wpAny_pyIter_list il (wpAny_bind (wpAny_runValue (codeAny_mono (set_fill2 ks sz room val _ ((s.heap.push (noSet w)).push { cls := .type "list_iterator", data := .fields #[.ref l, .int 0 0] }) _ _ _ _ (Walks.list (by simp [hh]) _ l (by rw [Heap.size_push]; exact Nat.ne_of_lt (Nat.lt_succ_of_lt (Heap.lt_size ol))) items).toS ?_ ?_ (fun i v q => q) ⟨⟨_, Heap.get?_push_size _ rfl, rfl, rfl⟩, il.push _⟩ fun b o e => Heap.get?_push_of_some _ e) ?_)))
          · rw [sP]
            simp only [List.mem_cons, List.not_mem_nil, or_false, not_or]
            exact ⟨Nat.ne_of_lt (Nat.lt_succ_self _), Nat.ne_of_gt (Heap.lt_size ol)⟩
          · intro b hb
            rw [List.mem_singleton.mp hb, sP]
            exact Nat.lt_succ_self _
          · rintro r s' ⟨rfl, h', tk, es, rfl, R', g, k⟩
            exact wpAny_pure (show wpAny _ _ (ret Value.none) _ _ _ from wpAny_pure ⟨rfl, h', tk, es, rfl, R', g, k⟩)
        · obtain ⟨⟨c1, d1, dt, sl⟩, ol, hc1, nl, hd1⟩ := hl
          simp only at hc1 hd1
          subst hc1 hd1
          have il : (s.heap.push (noSet w)).IsTuple l items := ⟨_, Heap.get?_push_of_some _ ol, rfl, nl, rfl⟩
          have ol1 := Heap.get?_push_of_some (noSet w) ol
          obtain ⟨z1, z2, z3⟩ : _ ∧ _ ∧ (Value.type "tuple" == Value.type "dict") = false := ⟨PySem.F.sub_tuple_set, PySem.F.sub_tuple_frozenset, by decide⟩
          unfold Builtin.«set.__init__» noKeywords Builtin.Frozenset.updateFrom
          generalize hPI : pyIter = PI
          wp_walk
          subst hPI
          refine wpAny_pyIter_tuple il (wpAny_bind (wpAny_runValue (codeAny_mono (set_fill2 ks sz room val _ ((s.heap.push (noSet w)).push { cls := .type "tuple_iterator", data := .fields #[.ref l, .int 0 0] }) _ _ _ _ (Walks.tuple (by simp [hh]) _ l (by rw [Heap.size_push]; exact Nat.ne_of_lt (Nat.lt_succ_of_lt (Heap.lt_size ol))) items).toS ?_ ?_ (fun i v q => q) ⟨⟨_, Heap.get?_push_size _ rfl, rfl, rfl⟩, il.push _⟩ fun b o e => Heap.get?_push_of_some _ e) ?_)))
          · rw [sP]
            simp only [List.mem_cons, List.not_mem_nil, or_false, not_or]
            exact ⟨Nat.ne_of_lt (Nat.lt_succ_self _), Nat.ne_of_gt (Heap.lt_size ol)⟩
          · intro b hb
            rw [List.mem_singleton.mp hb, sP]
            exact Nat.lt_succ_self _
          · rintro r s' ⟨rfl, h', tk, es, rfl, R', g, k⟩
            exact wpAny_pure (show wpAny _ _ (ret Value.none) _ _ _ from wpAny_pure ⟨rfl, h', tk, es, rfl, R', g, k⟩)
      · cases r2 with
        | error e => exact hr2
        | ok fl2 => cases fl2 with
          | ret r =>
            obtain ⟨rfl, h', tk, es, rfl, R', g, k⟩ := hr2
            repeat (any_goals (first | assumption | wp_step))
            exact h _ _ _ R' g k
          | _ => exact hr2.elim
    | _ => exact hr.elim
end
end Ip

-- Q2
set_option Elab.async false
set_option linter.all false
set_option maxRecDepth 100000
namespace Ip
open PySem L2 PyProof.Rows

/-! ### sets of texts -/
def txtOf (e : Int × Value) : Str := match e.2 with
  | .str x _ => x
  | _ => Str.empty
theorem txt_is {P : Program} {w : World} {e : Int × Value} {k : Str} (h : (PySem.strKind P w).is k e.2 = true) : txtOf e = k ∧ ∃ t, e.2 = .str k t := by
  obtain ⟨t, z⟩ := Value.isStrOf_shape h
  exact ⟨by unfold txtOf; rw [z], t, z⟩
section
variable {P : Program} {w : World} {h : Heap} {a : Addr} {es : Array (Int × Value)} {ks L : List Str}
/-- the texts in the set are those of the list, each once -/
theorem Got.perm {t : SetTable} (T : Tb (PySem.strKind P w) es t) (g : Got (PySem.strKind P w) ks ks.length es) (nd : L.Nodup) (mem : ∀ k, k ∈ L ↔ k ∈ ks) : L.Perm (es.toList.map txtOf) := by
  refine (List.perm_ext_iff_of_nodup nd ?_).mpr fun k => ?_
  · have : es.toList.Pairwise fun e e' => txtOf e ≠ txtOf e' := by
      refine List.Pairwise.imp_of_mem ?_ T.ap
      intro e e' he he' q z
      obtain ⟨⟨j, hj, _⟩, _⟩ := T.el e he
      obtain ⟨⟨j', hj', _⟩, _⟩ := T.el e' he'
      have e1 := (txt_is hj).1
      have e2 := (txt_is hj').1
      rw [e1, e2] at z
      subst z
      rw [q _ hj] at hj'
      cases hj'
    exact List.pairwise_map.mpr this
  · rw [mem, List.mem_map]
    constructor
    · intro hk
      obtain ⟨e, he, q⟩ := g.all k (by rw [List.take_length]; exact hk)
      exact ⟨e, he, (txt_is q).1⟩
    · rintro ⟨e, he, rfl⟩
      obtain ⟨j, hj, q⟩ := g.sub e he
      rw [List.take_length] at hj
      rw [(txt_is q).1]; exact hj
end
theorem texts_of {P : Program} {w : World} : ∀ {xs : List Str} {us : List Value}, Vals (xs.map V.str) us → ∀ (i : Nat) (v : Value), us.toArray[i]? = some v → ∃ k, xs[i]? = some k ∧ (PySem.strKind P w).is k v = true ∧ v.scannable = true := by
  intro xs us r i v hv
  rw [List.getElem?_toArray] at hv
  have hl := r.length
  rw [List.length_map] at hl
  have hi : i < xs.length := by rw [hl]; exact (List.getElem?_eq_some_iff.mp hv).1
  obtain ⟨u, hu, t, e⟩ := r.get (i := i) (x := .str xs[i]) (by simp [hi])
  rw [hv] at hu
  cases hu
  subst e
  exact ⟨xs[i], List.getElem?_eq_getElem hi, strKind_is P w _ t, rfl⟩
section
variable {X : Cx} {a : Expr} {ta : TE} {p p2 q pos : Pos}
/-- set(x), x a list or a tuple of texts, for who goes on with it -/
theorem set_texts {pins : List (Addr × Obj)} {σ : L2.St} {H : Hp} {s : Shared} {l : Addr} {xs : List Str} {Q : Value → Shared → Prop} (hc : X.calm = true) (I : L2.Inv X pins σ H s) (hx : SqL X.K H l (xs.map V.str) ∨ SqT X.K H l (xs.map V.str)) (hl : xs.length ≤ 4000)
    (k : ∀ s' b es, L2.Inv X pins σ H s' → SetG (PySem.strKind X.prog X.w) s'.heap b es → Got (PySem.strKind X.prog X.w) xs xs.length es → Q (.ref b) s') : wpAny (model X.prog X.w) X.A (call (.type "set") [.ref l]) Q X.xe s := by
  obtain ⟨its, rv, pl⟩ : ∃ its, Vals (xs.map V.str) its ∧ (s.heap.IsList l its.toArray ∨ s.heap.IsTuple l its.toArray) := by
    rcases hx with hx | hx
    · obtain ⟨its, rv, pl, _⟩ := I.list hx
      exact ⟨its, rv, .inl pl.isList⟩
    · obtain ⟨its, rv, pl, _⟩ := I.tuple hx
      exact ⟨its, rv, .inr pl⟩
  have sz : its.toArray.size = xs.length := by rw [List.size_toArray, ← rv.length, List.length_map]
  exact call_setG (knd := PySem.strKind X.prog X.w) xs (I.ok.hd hc) pl sz (texts_of rv) (by unfold scanBound; omega) fun h' tk es R g kp => k _ _ _ (I.kept kp) R g
/-- len(set(x)) -/
def tLenT (K : PySem.W.Frag) (ta : TE) : TE := fun σ H Q => ta σ H fun x H1 => ∃ (l : Addr) (xs L : List Str), x = .ref l ∧ (SqL K H1 l (xs.map V.str) ∨ SqT K H1 l (xs.map V.str)) ∧ xs.length ≤ 4000 ∧ L.Nodup ∧ (∀ k, k ∈ L ↔ k ∈ xs) ∧ Q (.int (L.length : Nat)) H1
theorem pe_lenT (hc : X.calm = true) (hg : Gl X "len") (hm : X.mg "len" = none) (hg2 : Gl X "set") (hm2 : X.mg "set" = none) (ha : PE X a ta) (na : starEach [a] X.env = (false, eval a X.env) :: starEach [] X.env) :
    PE X (.Call (.Name "len" p) [.Call (.Name "set" p2) [a] [] q] [] pos) (tLenT X.K ta) := by
  refine ⟨fun pins s σ H Q I h => ?_⟩
  refine Call_ (ld_blt I hg hm boot_len (PyProof.Rows.callWith_builtin1 (PyProof.Rows.args_cons ?_ rfl) rfl rfl))
  refine Call_ (ld_blt I hg2 hm2 boot_set (PyProof.Rows.callWith_type1 (PyProof.Rows.args_cons (thn (ha.run pins s σ H _ I h) fun v s1 ⟨x, H1, I1, r1, q1⟩ => PyProof.Rows.args_nil ?_) na) na rfl))
  obtain ⟨l, xs, L, rfl, hx, hl, nd, mem, q1⟩ := q1
  cases r1
  refine set_texts hc I1 hx hl fun s2 b es I2 R g => PyProof.Rows.args_nil ?_
  obtain ⟨o, ep, t, ho, hex, hd, T⟩ := R
  have pm : L.length = es.size := by
    have z := (Got.perm T g nd mem).length_eq
    rw [List.length_map] at z
    exact z.trans Array.length_toList
  have := T.sz
  exact call_len_set ho hex hd T.ft (by unfold scanBound at this; omega) ⟨.int (L.length : Nat), H1, I2.tok _, ⟨_, by rw [pm]⟩, q1⟩
theorem strs_vals : ∀ {ys : List Str} {us : List Value}, StrsAre us ys → Vals (ys.map V.str) us
  | _, _, .nil => .nil
  | _, _, .cons y t h => .cons ⟨t, rfl⟩ (strs_vals h)
theorem texts_strs {P : Program} {w : World} : ∀ {l : List (Int × Value)}, ElemsOf (PySem.strKind P w) l → StrsAre (l.map (·.2)) (l.map txtOf)
  | [], _ => .nil
  | e :: l, h => by
    obtain ⟨⟨k, hk, _⟩, _⟩ := h.head
    obtain ⟨e1, t, e2⟩ := txt_is hk
    simp only [List.map_cons]
    rw [e1, e2]
    exact .cons k t (texts_strs h.tail)
theorem strs_perm {us vs : List Value} {xs : List Str} (h : StrsAre us xs) (p : vs.Perm us) : ∃ ys : List Str, StrsAre vs ys ∧ ys.Perm xs := by
  induction p generalizing xs with
  | nil => cases h; exact ⟨[], .nil, .refl _⟩
  | cons x p ih => cases h with | cons y t h => obtain ⟨ys, h1, h2⟩ := ih h; exact ⟨y :: ys, .cons y t h1, h2.cons y⟩
  | swap x y l => cases h with | cons a t h => cases h with | cons b u h => exact ⟨b :: a :: _, .cons b u (.cons a t h), .swap a b _⟩
  | trans p1 p2 ih1 ih2 => obtain ⟨ys, h1, h2⟩ := ih2 h; obtain ⟨zs, h3, h4⟩ := ih1 h1; exact ⟨zs, h3, h4.trans h2⟩
/-- sorted(set(x)) -/
def tSortT (K : PySem.W.Frag) (ta : TE) : TE := fun σ H Q => ta σ H fun x H1 => ∃ (l : Addr) (xs L : List Str), x = .ref l ∧ (SqL K H1 l (xs.map V.str) ∨ SqT K H1 l (xs.map V.str)) ∧ xs.length ≤ 4000 ∧ L.Nodup ∧ (∀ k, k ∈ L ↔ k ∈ xs) ∧ L.length < 64 ∧
  ∀ (ys : List Str) (p : Addr), ys.Perm L → sortedS ys = true → H1 p = none → Q (.ref p) (upd H1 p (.lst (ys.map V.str)))
theorem sort_texts {pins : List (Addr × Obj)} {σ : L2.St} {H : Hp} {s : Shared} {b : Addr} {es : Array (Int × Value)} {Q : VK} (hc : X.calm = true) (I : L2.Inv X pins σ H s) (R : SetG (PySem.strKind X.prog X.w) s.heap b es) (h64 : es.size < 64)
    (q : ∀ (ys : List Str) (p : Addr), ys.Perm (es.toList.map txtOf) → sortedS ys = true → H p = none → Q (.ref p) (upd H p (.lst (ys.map V.str)))) : wpAny (model X.prog X.w) X.A (call (.builtin "sorted") [.ref b]) (EP X pins σ Q) X.xe s := by
  obtain ⟨o, ep, t, ho, hex, hd, T⟩ := R
  refine Calls.call_function_entry kind_sorted plain_sorted entry_sorted (args_sorted1 _) ?_
  unfold Builtin.«sorted»
  refine wpAny_bind (m := checkCount "sorted" 1 1 _) (wpAny_pure (wpAny_bind (collect_set (A := X.A.in1) (I.ok.hd hc) ⟨o, ho, hex.1, hd⟩ T.ft T.sz T.ri T.ld fun s1 vs k1 z1 g1 o1 pm => ?_)))
  obtain ⟨xs, hS, px⟩ := strs_perm (texts_strs T.el) pm
  have lv : vs.length < 64 := by rw [pm.length_eq, List.length_map, Array.length_toList]; exact h64
  refine wpAny_bind (wpAny_newList ?_ (by rw [sizeLine_eq]; omega))
  have hp : H s1.heap.objs.size = none := I.hok.fresh z1
  have at1 : (s1.heap.push (seqObj "list" vs.toArray 0)).get? s1.heap.objs.size = some (seqObj "list" vs.toArray 0) := Heap.get?_push_size _ rfl
  refine wpAny_bind (wpAny_holding (wpAny_call_entry slot_list_sort ⟨_, at1, rfl⟩ entry_list_sort (list_sort_treeK strKind_oneLt at1 hS.keysOf (fun v1 v2 rest e => keyKind_strs (by rw [← e]; exact hS)) lv fun st hp' hs => ?_) (args_list_sort _)))
  obtain ⟨ys, q1, q2, q3⟩ := sorted_out_str hS hp' hs
  obtain ⟨c, at2⟩ := sortedHeap_at (vs := vs) (out := (arrOf st).map (·.2)) at1
  have ly : (ys.map V.str).length ≤ sizeLine := by
    rw [List.length_map, q2.length_eq, ← hS.length, sizeLine_eq]; omega
  have kp : ∀ b o, s.heap.get? b = some o → (sortedHeap (s1.heap.push (seqObj "list" vs.toArray 0)) s1.heap.objs.size vs ((arrOf st).map (·.2))).get? b = some o := fun b u e => by
    have lt := Heap.lt_size (k1 b u e)
    rw [sortedHeap_old (Nat.ne_of_lt lt) (by rw [size_push']; exact Nat.lt_succ_of_lt lt)]
    exact Heap.get?_push_of_some _ (k1 b u e)
  refine ⟨.none, rfl, wpAny_pure ⟨_, rfl, .ref s1.heap.objs.size, upd H s1.heap.objs.size (.lst (ys.map V.str)), I.call' (ch := []) o1 (Un.laid kp z1 hp) (I.hok.laid kp z1 ⟨ly, ((arrOf st).map (·.2)).toList, c, strs_vals q1, by rw [Array.toArray_toList]; exact at2⟩) (by rw [show _ = s1.gens from rfl, g1]; exact I.bare) (fun _ z => nomatch z), rfl, q ys _ (q2.trans px) q3 hp⟩⟩
theorem pe_sortT (hc : X.calm = true) (hg : Gl X "sorted") (hm : X.mg "sorted" = none) (hg2 : Gl X "set") (hm2 : X.mg "set" = none) (ha : PE X a ta) (na : starEach [a] X.env = (false, eval a X.env) :: starEach [] X.env) :
    PE X (.Call (.Name "sorted" p) [.Call (.Name "set" p2) [a] [] q] [] pos) (tSortT X.K ta) := by
  refine ⟨fun pins s σ H Q I h => ?_⟩
  refine Call_ (ld_blt I hg hm boot_sorted (PyProof.Rows.callWith_builtin1 (PyProof.Rows.args_cons ?_ rfl) rfl rfl))
  refine Call_ (ld_blt I hg2 hm2 boot_set (PyProof.Rows.callWith_type1 (PyProof.Rows.args_cons (thn (ha.run pins s σ H _ I h) fun v s1 ⟨x, H1, I1, r1, q1⟩ => PyProof.Rows.args_nil ?_) na) na rfl))
  obtain ⟨l, xs, L, rfl, hx, hl, nd, mem, h64, q1⟩ := q1
  cases r1
  refine set_texts hc I1 hx hl fun s2 b es I2 R g => PyProof.Rows.args_nil ?_
  obtain ⟨o, ep, t, ho, hex, hd, T⟩ := id R
  have pm := Got.perm T g nd mem
  refine sort_texts hc I2 R (by have z := pm.length_eq; rw [List.length_map] at z; rw [← Array.length_toList, ← z]; exact h64) fun ys p hy hs hp => q1 ys p (hy.trans pm.symm) hs hp
end
end Ip

-- S1
set_option Elab.async false
set_option linter.all false
set_option maxRecDepth 100000
namespace Ip
open PySem PySem.Spec PyProof.Rows L2 HT
/-! ### a tuple, the other way round -/
section
variable {prog : Program} {w : World} {A : Around} {E : Value → Shared → Prop} {s : Shared}
theorem rev_adj (n : Nat) : Builtin.Slice.sliceAdjust none none (-1) (n : Int) = ((n : Int) - 1, -1) := by
  unfold Builtin.Slice.sliceAdjust
  simp
theorem rev_places (n : Nat) : Builtin.Slice.slicePlaces ((n : Int) - 1) (-1) (-1) = n := by
  unfold Builtin.Slice.slicePlaces
  simp only [show ¬ ((-1 : Int) > 0) by decide, if_false]
  split
  · rw [show (- -1 : Int) = 1 by decide, Int.ediv_one]; omega
  · omega
theorem rev_applied {sl : Addr} {vs : Value} {n : Nat} {Q : Int × Int × Nat → Shared → Prop} (hs : s.heap.IsSliceOf sl .none .none vs) (ps : IsPart vs (some (-1))) (h : Q ((n : Int) - 1, -1, n) s) :
    wpAny (model prog w) A (Builtin.Slice.sliceApplied (.ref sl) (pure (n : Int))) Q E s := by
  obtain ⟨os, hos, hcs, hds⟩ := id hs
  unfold Builtin.Slice.sliceApplied Builtin.Slice.sliceFields
  refine wpAny_bind (wpAny_bind (wpAny_field hos hds (x := .none) rfl (wpAny_bind (wpAny_field hos hds (x := .none) rfl (wpAny_bind (wpAny_field hos hds (x := vs) rfl (wpAny_pure ?_)))))))
  refine wpAny_bind (slicePart_ ps ?_)
  show wpAny _ _ (if ((-1 : Int) == 0) = true then _ else _) _ _ s
  rw [if_neg (show ¬ ((-1 : Int) == 0) = true by decide)]
  refine wpAny_bind (slicePart_ .none (wpAny_bind (slicePart_ .none (wpAny_bind (wpAny_pure ?_)))))
  show wpAny _ _ (match Builtin.Slice.sliceAdjust none none (-1) (n : Int) with | (lo, hi) => pure (lo, (-1 : Int), Builtin.Slice.slicePlaces lo hi (-1))) _ _ s
  rw [rev_adj n]
  show wpAny _ _ (pure ((n : Int) - 1, (-1 : Int), Builtin.Slice.slicePlaces ((n : Int) - 1) (-1) (-1))) _ _ s
  rw [rev_places]
  exact wpAny_pure h
theorem fm_congr {α β : Type} {f g : α → Option β} : ∀ l : List α, (∀ x ∈ l, f x = g x) → l.filterMap f = l.filterMap g
  | [], _ => rfl
  | x :: l, h => by rw [List.filterMap_cons, List.filterMap_cons, h x List.mem_cons_self, fm_congr l fun y hy => h y (List.mem_cons_of_mem _ hy)]
theorem rev_pick (xs : Array Value) : ((List.range xs.size).filterMap fun (m : Nat) => xs[(((xs.size : Nat) : Int) - 1 + (m : Int) * (-1)).toNat]?).toArray = xs.toList.reverse.toArray := by
  have e : ((List.range xs.size).filterMap fun (m : Nat) => xs[(((xs.size : Nat) : Int) - 1 + (m : Int) * (-1)).toNat]?) = ((List.range xs.size).map fun k => xs.size - 1 - k).filterMap (xs[·]?) := by
    rw [List.filterMap_map]
    refine fm_congr _ fun m hm => ?_
    have hm := List.mem_range.mp hm
    have : (((xs.size : Nat) : Int) - 1 + (m : Int) * (-1)).toNat = xs.size - 1 - m := by omega
    rw [this]
    rfl
  rw [e, PySem.W.krv_range, List.filterMap_reverse, PySem.W.krv_all]
theorem rev_getItem {t sl : Addr} {items : Array Value} {vs : Value} {Q : Value → Shared → Prop} (ht : IsTup s.heap t items) (hs : s.heap.IsSliceOf sl .none .none vs) (ps : IsPart vs (some (-1)))
    (h : Q (.ref s.heap.objs.size) { s with heap := s.heap.push { cls := .type "tuple", data := .seq items.toList.reverse.toArray } }) (hsz : items.size ≤ sizeLine) : wpAny (model prog w) A (getItem (.ref t) (.ref sl)) Q E s := by
  have hrev : sizeOk (.seq items.toList.reverse.toArray) := by
    show items.toList.reverse.toArray.size ≤ sizeLine
    rw [List.size_toArray, List.length_reverse, Array.length_toList]; exact hsz
  obtain ⟨os, hos, hcs, hds⟩ := id hs
  have hT : s.TypeIs (.ref sl) "slice" := ⟨os, hos, hcs⟩
  unfold getItem
  try with_reducible refine wpAny_holding ?_
  first | skip
  try refine wpAny_bind (wpAny_pure ?_)
  refine wpAny_bind (wpAny_sequenceKey ht.typeIs (by decide) (wpAny_bind (wpAny_callSpecial?_slot (name := Str.ofString "__getitem__") ht.typeIs PyProof.Rows.slot_tuple_getitem
    (wpAny_call_entry PyProof.Rows.slot_tuple_getitem ht.typeIs entry_tuple_getitem ?_ (args_tuple_getitem _ _)))))
  show wpAny _ _ (Builtin.Tuple.tupleItemsOf (.ref t) >>= _) _ _ s
  refine wpAny_bind (tupleItemsOf_ ht (wpAny_bind (wpAny_typeOf hT ?_)))
  rw [if_pos (by decide)]
  refine wpAny_bind (rev_applied hs ps ?_)
  show wpAny _ _ (if ((((items.size : Nat) : Int) - 1) == 0 && (-1 : Int) == 1 && items.size == items.size) = true then _ else _) _ _ s
  rw [if_neg (by simp), rev_pick]
  first
    | exact wpAny_bind (m := Builtin.Tuple.tupleExact _) (wpAny_newObj_type (wpAny_pure ⟨_, rfl, wpAny_pure h⟩) hrev)
    | exact wpAny_bind (m := Builtin.Tuple.tupleExact _) (wpAny_newObj_type (wpAny_bind (wpAny_pure (wpAny_pure ⟨_, rfl, wpAny_pure h⟩))) hrev)
    | exact wpAny_bind (wpAny_bind (m := Builtin.Tuple.tupleExact _) (wpAny_newObj_type (wpAny_pure (wpAny_pure ⟨_, rfl, wpAny_pure h⟩)) hrev))
    | exact wpAny_bind (wpAny_bind (m := Builtin.Tuple.tupleExact _) (wpAny_newObj_type (wpAny_pure ⟨_, rfl, wpAny_pure h⟩) hrev))
end
/-- xs[::-1], a tuple or a list -/
def tRevB (K : PySem.W.Frag) (te : TE) : TE := fun σ H Q => te σ H fun x H1 => ∃ a xs, x = .ref a ∧ ((SqT K H1 a xs ∧ ∀ p, H1 p = none → Q (.ref p) (upd H1 p (.tup xs.reverse))) ∨ (SqL K H1 a xs ∧ ∀ p, H1 p = none → Q (.ref p) (upd H1 p (.lst xs.reverse))))
theorem pe_revB {X : Cx} {e : Expr} {te : TE} {k : Nat} {p1 p2 p3 pos : Pos} (he : PE X e te) : PE X (.Subscript e (.Slice none none (some (.UnaryOp .USub (.Constant (.int 1) k p1) p2)) p3) pos) (tRevB X.K te) := by
  refine ⟨fun pins s σ H Q I h => Subscript_ (thn (he.run pins s σ H _ I h) fun v s1 ⟨x, G1, I1, r1, a, xs, ex, q⟩ => ?_)⟩
  subst ex
  cases r1
  have minus : PO X (some (.UnaryOp .USub (.Constant (.int 1) k p1) p2)) (tPart (tUn (rU fun i => .int (-i)) (tC (.int 1)))) := po_some (pe_un un_neg pe_int)
  refine wpAny_Slice (thn (po_none.run pins s1 σ G1 (fun o G2 => o = none ∧ G2 = G1) I1 ⟨rfl, rfl⟩) fun vl s2 ⟨l, G2, I2, pl, el, e2⟩ => ?_)
  subst el e2
  refine thn (po_none.run pins s2 σ G2 (fun o G3 => o = none ∧ G3 = G2) I2 ⟨rfl, rfl⟩) fun vu s3 ⟨u, G3, I3, pu, eu, e3⟩ => ?_
  subst eu e3
  refine thn (minus.run pins s3 σ G3 (fun o G4 => o = some (-1) ∧ G4 = G3) I3 ⟨1, rfl, -1, rfl, rfl, rfl⟩) fun vs s4 ⟨o, G4, I4, ps, eo, e4⟩ => ?_
  subst eo e4
  cases pl; cases pu
  have J : Inv X pins σ G4 { s4 with heap := s4.heap.push { cls := .type "slice", data := .fields #[.none, .none, vs] } } := I4.kept (t' := s4.toks) fun b ob z => Heap.get?_push_of_some _ z
  show wpAny (model X.prog X.w) X.A (subscriptTail e (.Slice none none (some (.UnaryOp .USub (.Constant (.int 1) k p1) p2)) p3) (.ref a) (.ref s4.heap.objs.size)) (EP X pins σ Q) X.xe { s4 with heap := s4.heap.push { cls := .type "slice", data := .fields #[.none, .none, vs] } }
  rcases q with ⟨hx, q⟩ | ⟨hx, q⟩
  · obtain ⟨its, r, ht, hz⟩ := J.tuple hx
    have ln := r.length
    refine tail_any (ops := [.ref a, .ref s4.heap.objs.size]) ht.typeIs (PyProof.Rows.slot_tuple_getitem.lookup) (rev_getItem ht (Heap.IsSliceOf.new _ .none .none vs) ps ?_ (by rw [List.size_toArray, ← ln]; exact hz)) (by with_unfolding_all rfl)
    exact ⟨.ref _, _, J.laid (t' := s4.toks) (o := .tup xs.reverse) (fun b ob z => Heap.get?_push_of_some _ z) (Nat.le_refl _) ⟨by rw [List.length_reverse]; exact hz, _, r.reverse, IsTup.new _ _⟩, rfl, q _ (J.hok.fresh (Nat.le_refl _))⟩
  · obtain ⟨its, r, ht, hz⟩ := J.list hx
    have ln := r.length
    refine tail_any (ops := [.ref a, .ref s4.heap.objs.size]) ht.isList.typeIs (PySem.slot_list_getitem.lookup) (wpAny_getItem_list_slice ht.isList (Heap.IsSliceOf.new _ .none .none vs) .none .none ps (by decide) ?_ (by rw [List.size_toArray, ← ln]; exact hz)) (by with_unfolding_all rfl)
    rw [PySem.W.krv_pick]
    exact ⟨.ref _, _, J.laid (t' := s4.toks) (o := .lst xs.reverse) (fun b ob z => Heap.get?_push_of_some _ z) (Nat.le_refl _) ⟨by rw [List.length_reverse]; exact hz, _, 0, r.reverse, Heap.get?_push_size _ rfl⟩, rfl, q _ (J.hok.fresh (Nat.le_refl _))⟩
end Ip

-- Z1
set_option Elab.async false
set_option linter.all false
set_option maxRecDepth 100000
set_option maxHeartbeats 1000000
/-! zip of two, each a list or a tuple: which of both is told by a truth (true: a tuple) -/
namespace ZM
open PySem PySem.Spec PyProof.Rows L2 RZ
def At (t : Bool) (h : Heap) (i l : Addr) (k : Nat) : Prop := if t = true then h.IsTupleIter i l k else h.IsListIter i l k
def Of (t : Bool) (h : Heap) (l : Addr) (xs : Array Value) : Prop := if t = true then h.IsTuple l xs else h.IsList l xs
theorem At.on {t : Bool} {h h' : Heap} {i l : Addr} {k : Nat} (x : At t h i l k) (e : ∀ o, h.get? i = some o → h'.get? i = some o) : At t h' i l k := by
  cases t
  · exact Heap.IsListIter.at (show h.IsListIter i l k from x) e
  · exact Heap.IsTupleIter.at (show h.IsTupleIter i l k from x) e
theorem Of.on {t : Bool} {h h' : Heap} {l : Addr} {xs : Array Value} (x : Of t h l xs) (e : ∀ o, h.get? l = some o → h'.get? l = some o) : Of t h' l xs := by
  cases t
  · exact Heap.IsList.at (show h.IsList l xs from x) e
  · exact Heap.IsTuple.at (show h.IsTuple l xs from x) e
theorem At.is {t : Bool} {h : Heap} {i l : Addr} {k : Nat} (x : At t h i l k) : ∃ o, h.get? i = some o ∧ o.data = .fields #[.ref l, .int k 0] := by
  cases t
  · obtain ⟨o, a, _, d⟩ := (show h.IsListIter i l k from x)
    exact ⟨o, a, d⟩
  · obtain ⟨o, a, _, d⟩ := (show h.IsTupleIter i l k from x)
    exact ⟨o, a, d⟩
theorem Of.is {t : Bool} {h : Heap} {l : Addr} {xs : Array Value} (x : Of t h l xs) : ∃ o, h.get? l = some o := by
  cases t
  · obtain ⟨o, a, _⟩ := (show h.IsList l xs from x)
    exact ⟨o, a⟩
  · obtain ⟨o, a, _⟩ := (show h.IsTuple l xs from x)
    exact ⟨o, a⟩
section
variable {prog : Program} {w : World} {A : Around} {E : Value → Shared → Prop} {s : Shared}
theorem one_more {t : Bool} {i l : Addr} {k : Nat} {xs : Array Value} {x : Value} {Q : Value → Shared → Prop} (p : At t s.heap i l k) (q : Of t s.heap l xs) (e : xs[k]? = some x)
    (f : ∀ g, At t g i l (k + 1) → Heap.SameBut i s.heap g → Q x { s with heap := g }) : wpAny (model prog w) A (Builtin.SmallTypes.nextOf (.ref i)) Q E s := by
  cases t
  · exact wpAny_nextOf_list_item p q e f
  · exact nextOf_tuple_item p q e f
theorem no_more {t : Bool} {i l : Addr} {k : Nat} {xs : Array Value} {Q : Value → Shared → Prop} (c : A.handled = none) (p : At t s.heap i l k) (q : Of t s.heap l xs) (e : xs[k]? = none)
    (f : ∀ g e, Heap.ExtBut i s.heap g → (∃ o, g.get? e = some o ∧ o.cls = .type "StopIteration") → E (.ref e) { s with heap := g }) : wpAny (model prog w) A (Builtin.SmallTypes.nextOf (.ref i)) Q E s := by
  cases t
  · exact wpAny_nextOf_list_end c p q e f
  · exact nextOf_tuple_end c p q e f
/-- what stands beside a zip stays -/
abbrev Beside (z O i j : Addr) (h g : Heap) : Prop := ∀ c o, c ≠ z → c ≠ O → c ≠ i → c ≠ j → h.get? c = some o → g.get? c = some o
variable {t u : Bool} {z T O i j l m : Addr} {k n : Nat} {xs ys : Array Value} {a b : Value}
theorem step {x y : Value} {Q : Value → Shared → Prop} (D : ZipApart z T O i j l m) (qz : IsZip s.heap z T O .none) (qT : IsPair s.heap T (.ref i) (.ref j)) (qO : IsPair s.heap O a b)
    (p1 : At t s.heap i l k) (p2 : At u s.heap j m n) (q1 : Of t s.heap l xs) (q2 : Of u s.heap m ys) (ex : xs[k]? = some x) (ey : ys[n]? = some y)
    (f : ∀ g, IsZip g z T O (rawInt s.heap.objs.size) → IsPair g O x y → At t g i l (k + 1) → At u g j m (n + 1) → IsPair g s.heap.objs.size x y → Beside z O i j s.heap g → Q (.ref s.heap.objs.size) { s with heap := g }) :
    wpAny (model prog w) A (Builtin.«zip.__next__» ⟨[.ref z], []⟩) (fun fin s' => ∃ v, fin = .done (.ret v) ∧ Q v s') E s := by
  show wpAny _ _ (field (.ref z) 2 >>= _) _ _ _; refine wpAny_bind (wpAny_field qz rfl (x := .bool false) rfl ?_)
  show wpAny _ _ (field (.ref z) 3 >>= _) _ _ _; refine wpAny_bind (wpAny_field qz rfl (x := .ref T) rfl (wpAny_bind (wpAny_seqItems qT rfl ?_)))
  show wpAny _ _ (Builtin.SmallTypes.ownedTupleIsFree (.ref z) >>= _) _ _ _; refine wpAny_bind ?_
  unfold Builtin.SmallTypes.ownedTupleIsFree; refine wpAny_bind (wpAny_field qz rfl (x := .none) rfl (wpAny_pure ?_))
  simp only [if_true]; refine wpAny_bind (wpAny_rule (wpAny_bind (wpAny_field qz rfl (x := .ref O) rfl (wpAny_bind (wpAny_setField_rec qz (by simp) fun g1 v1 w1 => ?_)))))
  have v1 : IsZip g1 z T O .ellipsis := v1
  have m1 : ∀ {c o}, c ≠ z → s.heap.get? c = some o → g1.get? c = some o := fun d e => w1.extBut _ _ d e
  refine wpAny_bind ?_; simp only [List.zipIdx_cons, List.zipIdx_nil, List.forIn_cons, List.forIn_nil]; refine wpAny_bind (wpAny_bind (wpAny_onRaise ?_))
  show wpAny _ _ (Builtin.SmallTypes.nextOf (.ref i) >>= _) _ _ _; refine wpAny_bind (one_more (p1.on fun _ => m1 D.i1z) (q1.on fun _ => m1 D.l1z) ex fun g2 p1 w2 => wpAny_pure ?_)
  have m2 : ∀ {c o}, c ≠ i → g1.get? c = some o → g2.get? c = some o := fun d e => w2.extBut _ _ d e
  have o2 : IsPair g2 O a b := m2 D.TOi1 (m1 D.TOz qO)
  refine wpAny_bind (wpAny_seqItems o2 rfl (wpAny_bind (wpAny_updateSeq_pair o2 fun g3 o3 w3 => ?_)))
  have o3 : IsPair g3 O x b := o3
  have m3 : ∀ {c o}, c ≠ O → g2.get? c = some o → g3.get? c = some o := fun d e => w3.extBut _ _ d e
  refine wpAny_bind (wpAny_letGo (wpAny_pure (wpAny_bind (wpAny_bind (wpAny_onRaise ?_)))))
  show wpAny _ _ (Builtin.SmallTypes.nextOf (.ref j) >>= _) _ _ _
  refine wpAny_bind (one_more (p2.on fun _ e => m3 D.TOi2.symm (m2 D.i12.symm (m1 D.i2z e))) (q2.on fun _ e => m3 D.l2TO (m2 D.l2i1 (m1 D.l2z e))) ey fun g4 p2 w4 => wpAny_pure ?_)
  have m4 : ∀ {c o}, c ≠ j → g3.get? c = some o → g4.get? c = some o := fun d e => w4.extBut _ _ d e
  have o4 : IsPair g4 O x b := m4 D.TOi2 o3
  refine wpAny_bind (wpAny_seqItems o4 rfl (wpAny_bind (wpAny_updateSeq_pair o4 fun g5 o5 w5 => ?_)))
  have o5 : IsPair g5 O x y := o5
  have m5 : ∀ {c o}, c ≠ O → g4.get? c = some o → g5.get? c = some o := fun d e => w5.extBut _ _ d e
  refine wpAny_bind (wpAny_letGo (wpAny_pure (wpAny_pure (wpAny_bind (wpAny_seqItems o5 rfl (wpAny_bind (wpAny_newTuple ?_)))))))
  have ez : g5.objs.size = s.heap.objs.size := by rw [w5.1, w4.1, w3.1, w2.1, w1.1]
  have v5 : IsZip g5 z T O .ellipsis := m5 D.TOz.symm (m4 D.i2z.symm (m3 D.TOz.symm (m2 D.i1z.symm v1)))
  have k5 : Beside z O i j s.heap g5 := fun _ _ c1 c2 c3 c4 e => m5 c2 (m4 c4 (m3 c2 (m2 c3 (m1 c1 e))))
  have p1 : At t g5 i l (k + 1) := p1.on fun _ e => m5 D.TOi1.symm (m4 D.i12 (m3 D.TOi1.symm e))
  have p2 : At u g5 j m (n + 1) := p2.on fun _ e => m5 D.TOi2.symm e
  have zl : z < g5.objs.size := Heap.lt_size v5
  show wpAny _ _ (Builtin.SmallTypes.ownedTupleHandOut (.ref z) (.ref g5.objs.size) >>= _) _ _ _; refine wpAny_bind ?_
  unfold Builtin.SmallTypes.ownedTupleHandOut
  have v6 : IsZip (g5.push { cls := .type "tuple", data := .seq #[x, y] }) z T O .ellipsis := Heap.get?_push_of_some _ v5
  refine wpAny_bind (wpAny_setField_rec v6 (by simp) fun g7 v7 w7 => ?_)
  have v7 : IsZip g7 z T O (rawInt g5.objs.size) := v7
  refine wpAny_setField_rec v7 (by simp) fun g8 v8 w8 => ?_
  have v8 : IsZip g8 z T O (rawInt g5.objs.size) := v8
  have up : ∀ {c o}, c ≠ z → g5.get? c = some o → g8.get? c = some o := fun d e => w8.extBut _ _ d (w7.extBut _ _ d (Heap.get?_push_of_some _ e))
  have nw : IsPair g8 g5.objs.size x y := w8.extBut _ _ (Nat.ne_of_gt zl) (w7.extBut _ _ (Nat.ne_of_gt zl) (Heap.get?_push_size _ rfl))
  rw [ez] at v8 nw
  refine wpAny_pure ⟨_, rfl, ?_⟩; show Q (.ref g5.objs.size) _; rw [ez]
  exact f g8 v8 (up D.TOz o5) (p1.on fun _ => up D.i1z) (p2.on fun _ => up D.i2z) nw fun c o c1 c2 c3 c4 e => up c1 (k5 c o c1 c2 c3 c4 e)
theorem stop {Q : Fin → Shared → Prop} (hh : A.handled = none) (D : ZipApart z T O i j l m) (qz : IsZip s.heap z T O .none) (qT : IsPair s.heap T (.ref i) (.ref j)) (qO : IsPair s.heap O a b)
    (p1 : At t s.heap i l k) (p2 : At u s.heap j m n) (q1 : Of t s.heap l xs) (q2 : Of u s.heap m ys) (no : xs[k]? = none ∨ ys[n]? = none)
    (f : ∀ g e, Beside z O i j s.heap g → (∃ o, g.get? e = some o ∧ o.cls = .type "StopIteration") → E (.ref e) { s with heap := g }) : wpAny (model prog w) A (Builtin.«zip.__next__» ⟨[.ref z], []⟩) Q E s := by
  show wpAny _ _ (field (.ref z) 2 >>= _) _ _ _; refine wpAny_bind (wpAny_field qz rfl (x := .bool false) rfl ?_)
  show wpAny _ _ (field (.ref z) 3 >>= _) _ _ _; refine wpAny_bind (wpAny_field qz rfl (x := .ref T) rfl (wpAny_bind (wpAny_seqItems qT rfl ?_)))
  show wpAny _ _ (Builtin.SmallTypes.ownedTupleIsFree (.ref z) >>= _) _ _ _; refine wpAny_bind ?_
  unfold Builtin.SmallTypes.ownedTupleIsFree; refine wpAny_bind (wpAny_field qz rfl (x := .none) rfl (wpAny_pure ?_))
  simp only [if_true]; refine wpAny_bind (wpAny_rule (wpAny_bind (wpAny_field qz rfl (x := .ref O) rfl (wpAny_bind (wpAny_setField_rec qz (by simp) fun g1 v1 w1 => ?_)))))
  have v1 : IsZip g1 z T O .ellipsis := v1
  have m1 : ∀ {c o}, c ≠ z → s.heap.get? c = some o → g1.get? c = some o := fun d e => w1.extBut _ _ d e
  refine wpAny_bind ?_; simp only [List.zipIdx_cons, List.zipIdx_nil, List.forIn_cons, List.forIn_nil]; refine wpAny_bind (wpAny_bind (wpAny_onRaise ?_))
  show wpAny _ _ (Builtin.SmallTypes.nextOf (.ref i) >>= _) _ _ _
  cases ex : xs[k]? with
  | none =>
    refine wpAny_bind (no_more hh (p1.on fun _ => m1 D.i1z) (q1.on fun _ => m1 D.l1z) ex fun g2 e w2 he => ?_)
    obtain ⟨r, er, ec⟩ := he
    have v2 : IsZip g2 z T O .ellipsis := w2 _ _ D.i1z.symm v1
    have ne : e ≠ z := fun q => by
      rw [q, v2] at er
      cases er
      simp at ec
    exact wpAny_setField_rec v2 (by simp) fun g3 _ w3 => f g3 e (fun c o c1 _ c3 _ q => w3.extBut _ _ c1 (w2 _ _ c3 (m1 c1 q))) ⟨r, w3.extBut _ _ ne er, ec⟩
  | some x =>
    have ey : ys[n]? = none := no.resolve_left fun q => by rw [ex] at q; cases q
    refine wpAny_bind (one_more (p1.on fun _ => m1 D.i1z) (q1.on fun _ => m1 D.l1z) ex fun g2 p1 w2 => wpAny_pure ?_)
    have m2 : ∀ {c o}, c ≠ i → g1.get? c = some o → g2.get? c = some o := fun d e => w2.extBut _ _ d e
    have o2 : IsPair g2 O a b := m2 D.TOi1 (m1 D.TOz qO)
    refine wpAny_bind (wpAny_seqItems o2 rfl (wpAny_bind (wpAny_updateSeq_pair o2 fun g3 o3 w3 => ?_)))
    have m3 : ∀ {c o}, c ≠ O → g2.get? c = some o → g3.get? c = some o := fun d e => w3.extBut _ _ d e
    refine wpAny_bind (wpAny_letGo (wpAny_pure (wpAny_bind (wpAny_bind (wpAny_onRaise ?_)))))
    show wpAny _ _ (Builtin.SmallTypes.nextOf (.ref j) >>= _) _ _ _
    refine wpAny_bind (no_more hh (p2.on fun _ e => m3 D.TOi2.symm (m2 D.i12.symm (m1 D.i2z e))) (q2.on fun _ e => m3 D.l2TO (m2 D.l2i1 (m1 D.l2z e))) ey fun g4 e w4 he => ?_)
    obtain ⟨r, er, ec⟩ := he
    have v4 : IsZip g4 z T O .ellipsis := w4 _ _ D.i2z.symm (m3 D.TOz.symm (m2 D.i1z.symm v1))
    have ne : e ≠ z := fun q => by
      rw [q, v4] at er
      cases er
      simp at ec
    exact wpAny_setField_rec v4 (by simp) fun g5 _ w5 => f g5 e (fun c o c1 c2 c3 c4 q => w5.extBut _ _ c1 (w4 _ _ c4 (m3 c2 (m2 c3 (m1 c1 q))))) ⟨r, w5.extBut _ _ ne er, ec⟩
theorem py_step {x y : Value} {Q : Option Value → Shared → Prop} (D : ZipApart z T O i j l m) (qz : IsZip s.heap z T O .none) (qT : IsPair s.heap T (.ref i) (.ref j)) (qO : IsPair s.heap O a b)
    (p1 : At t s.heap i l k) (p2 : At u s.heap j m n) (q1 : Of t s.heap l xs) (q2 : Of u s.heap m ys) (ex : xs[k]? = some x) (ey : ys[n]? = some y)
    (f : ∀ g, IsZip g z T O (rawInt s.heap.objs.size) → IsPair g O x y → At t g i l (k + 1) → At u g j m (n + 1) → IsPair g s.heap.objs.size x y → Beside z O i j s.heap g → Q (some (.ref s.heap.objs.size)) { s with heap := g }) :
    wpAny (model prog w) A (pyNext (.ref z)) Q E s := by
  have ty : s.TypeIs (.ref z) "zip" := ⟨_, qz, rfl⟩
  unfold pyNext
  refine wpAny_bind (wpAny_attempt (wpAny_callSpecial?_slot (name := Str.ofString "__next__") ty F.slot_zip_next (wpAny_call_entry F.slot_zip_next ty F.entry_zip_next ?_ (F.args_zip_next_1 _))))
  exact step D qz qT qO p1 p2 q1 q2 ex ey fun g a1 a2 a3 a4 a5 a6 => wpAny_pure (f g a1 a2 a3 a4 a5 a6)
theorem py_stop {Q : Option Value → Shared → Prop} (hh : A.handled = none) (D : ZipApart z T O i j l m) (qz : IsZip s.heap z T O .none) (qT : IsPair s.heap T (.ref i) (.ref j)) (qO : IsPair s.heap O a b)
    (p1 : At t s.heap i l k) (p2 : At u s.heap j m n) (q1 : Of t s.heap l xs) (q2 : Of u s.heap m ys) (no : xs[k]? = none ∨ ys[n]? = none)
    (f : ∀ g, Beside z O i j s.heap g → Q none { s with heap := g }) : wpAny (model prog w) A (pyNext (.ref z)) Q E s := by
  have ty : s.TypeIs (.ref z) "zip" := ⟨_, qz, rfl⟩
  unfold pyNext
  refine wpAny_bind (wpAny_attempt (wpAny_callSpecial?_slot (name := Str.ofString "__next__") ty F.slot_zip_next (wpAny_call_entry F.slot_zip_next ty F.entry_zip_next ?_ (F.args_zip_next_1 _))))
  refine stop hh D qz qT qO p1 p2 q1 q2 no fun g e kp he => ?_
  obtain ⟨r, er, ec⟩ := he
  exact wpAny_bind (wpAny_isInstance (T := "StopIteration") (b := true) ⟨r, er, ec⟩ isSubtype_stop (wpAny_pure (f g kp)))
end
/-! how it begins -/
abbrev a1 (c : String) (h : Heap) (l : Addr) : Heap := h.push { cls := .type c, data := .fields #[.ref l, .int 0 0] }
abbrev a2 (c d : String) (h : Heap) (l m : Addr) : Heap := a1 d (a1 c h l) m
abbrev a3 (c d : String) (h : Heap) (l m : Addr) : Heap := (a2 c d h l m).push { cls := .type "tuple", data := .seq #[.ref h.objs.size, .ref (a1 c h l).objs.size] }
abbrev a4 (c d : String) (h : Heap) (l m : Addr) : Heap := (a3 c d h l m).push { cls := .type "tuple", data := .seq #[.none, .none] }
abbrev a5 (c d : String) (h : Heap) (l m : Addr) : Heap := (a4 c d h l m).push { cls := .type "zip", data := .fields #[.none, .bool false, .bool false, .ref (a2 c d h l m).objs.size, .ref (a3 c d h l m).objs.size] }
abbrev cl (t : Bool) : String := if t = true then "tuple_iterator" else "list_iterator"
theorem made_lt (l m : Addr) (xs ys : Array Value) : Meets (Builtin.«zip.__new__» ⟨[.type "zip", .ref l, .ref m], []⟩) (fun _ R s => s.heap.IsList l xs ∧ s.heap.IsTuple m ys ∧
    R (.ok (.ret (.ref (a4 "list_iterator" "tuple_iterator" s.heap l m).objs.size))) { s with heap := a5 "list_iterator" "tuple_iterator" s.heap l m }) :=
  .of_wp fun _ _ _ _ s q => by
    obtain ⟨hp, g, d, tk, os⟩ := s
    obtain ⟨q1, q2, q3⟩ := q
    have sb := sub_zip
    have b1 : Heap.IsList (Shared.heap ⟨hp, g, d, tk, os⟩) l xs := q1
    have b2 : Heap.IsTuple (Shared.heap ⟨a1 "list_iterator" hp l, g, d, tk, os⟩) m ys := Heap.IsTuple.push q2 _
    wp_walk using wpAny_pyIter_list b1, wpAny_pyIter_tuple b2
    exact ⟨_, rfl, q3⟩
theorem made_tl (l m : Addr) (xs ys : Array Value) : Meets (Builtin.«zip.__new__» ⟨[.type "zip", .ref l, .ref m], []⟩) (fun _ R s => s.heap.IsTuple l xs ∧ s.heap.IsList m ys ∧
    R (.ok (.ret (.ref (a4 "tuple_iterator" "list_iterator" s.heap l m).objs.size))) { s with heap := a5 "tuple_iterator" "list_iterator" s.heap l m }) :=
  .of_wp fun _ _ _ _ s q => by
    obtain ⟨hp, g, d, tk, os⟩ := s
    obtain ⟨q1, q2, q3⟩ := q
    have sb := sub_zip
    have b1 : Heap.IsTuple (Shared.heap ⟨hp, g, d, tk, os⟩) l xs := q1
    have b2 : Heap.IsList (Shared.heap ⟨a1 "tuple_iterator" hp l, g, d, tk, os⟩) m ys := Heap.IsList.at q2 fun o e => Heap.get?_push_of_some _ e
    wp_walk using wpAny_pyIter_tuple b1, wpAny_pyIter_list b2
    exact ⟨_, rfl, q3⟩
section
variable {prog : Program} {w : World} {A : Around} {E : Value → Shared → Prop} {s : Shared}
theorem begun {t u : Bool} {l m : Addr} {h : Heap} {P : Value → Heap → Prop}
    (f : ∀ g, IsZip g (h.objs.size + 4) (h.objs.size + 2) (h.objs.size + 3) .none → IsPair g (h.objs.size + 2) (.ref h.objs.size) (.ref (h.objs.size + 1)) → IsPair g (h.objs.size + 3) .none .none →
      At t g h.objs.size l 0 → At u g (h.objs.size + 1) m 0 → (∀ c o, h.get? c = some o → g.get? c = some o) → P (.ref (h.objs.size + 4)) g) :
    (∃ o, (a5 (cl t) (cl u) h l m).get? (a4 (cl t) (cl u) h l m).objs.size = some o ∧ o.cls = .type "zip") ∧ P (.ref (a4 (cl t) (cl u) h l m).objs.size) (a5 (cl t) (cl u) h l m) := by
  have z1 : (a1 (cl t) h l).objs.size = h.objs.size + 1 := Heap.size_push ..
  have z2 : (a2 (cl t) (cl u) h l m).objs.size = h.objs.size + 2 := by rw [Heap.size_push, z1]
  have z3 : (a3 (cl t) (cl u) h l m).objs.size = h.objs.size + 3 := by rw [Heap.size_push, z2]
  have z4 : (a4 (cl t) (cl u) h l m).objs.size = h.objs.size + 4 := by rw [Heap.size_push, z3]
  have up {g : Heap} {c : Addr} {o ob : Obj} (e : g.get? c = some o) : (g.push ob).get? c = some o := Heap.get?_push_of_some _ e
  have g5 : (a5 (cl t) (cl u) h l m).get? (a4 (cl t) (cl u) h l m).objs.size = some _ := Heap.get?_push_size _ rfl
  have g4 : (a5 (cl t) (cl u) h l m).get? (a3 (cl t) (cl u) h l m).objs.size = some _ := up (Heap.get?_push_size _ rfl)
  have g3 : (a5 (cl t) (cl u) h l m).get? (a2 (cl t) (cl u) h l m).objs.size = some _ := up (up (Heap.get?_push_size _ rfl))
  have g2 : (a5 (cl t) (cl u) h l m).get? (a1 (cl t) h l).objs.size = some _ := up (up (up (Heap.get?_push_size _ rfl)))
  have g1 : (a5 (cl t) (cl u) h l m).get? h.objs.size = some _ := up (up (up (up (Heap.get?_push_size _ rfl))))
  refine ⟨⟨_, g5, rfl⟩, ?_⟩
  rw [z2, z3, z4] at g5
  rw [z1, z2] at g3
  rw [z3] at g4
  rw [z1] at g2
  rw [z4]
  refine f _ g5 g3 g4 ?_ ?_ fun c o e => up (up (up (up (up e))))
  · cases t <;> exact ⟨_, g1, rfl, rfl⟩
  · cases u <;> exact ⟨_, g2, rfl, rfl⟩
theorem call_mix {t u : Bool} (ne : t ≠ u) {l m : Addr} {xs ys : Array Value} {Q : Value → Shared → Prop} (q1 : Of t s.heap l xs) (q2 : Of u s.heap m ys)
    (f : ∀ g, IsZip g (s.heap.objs.size + 4) (s.heap.objs.size + 2) (s.heap.objs.size + 3) .none → IsPair g (s.heap.objs.size + 2) (.ref s.heap.objs.size) (.ref (s.heap.objs.size + 1)) → IsPair g (s.heap.objs.size + 3) .none .none →
      At t g s.heap.objs.size l 0 → At u g (s.heap.objs.size + 1) m 0 → (∀ c o, s.heap.get? c = some o → g.get? c = some o) → Q (.ref (s.heap.objs.size + 4)) { s with heap := g }) :
    wpAny (model prog w) A (call (.type "zip") [.ref l, .ref m]) Q E s := by
  have b := begun (P := fun v g => Q v { s with heap := g }) f
  cases t <;> cases u
  · exact absurd rfl ne
  · exact callType_new F.called_zip (by decide) (F.typeCall_zip_2 _ _) (F.newCall_zip_2 _ _) (fun o => F.args_object_init_3 o _ _) F.entry_zip_new (made_lt l m xs ys) ⟨q1, q2, b⟩
  · exact callType_new F.called_zip (by decide) (F.typeCall_zip_2 _ _) (F.newCall_zip_2 _ _) (fun o => F.args_object_init_3 o _ _) F.entry_zip_new (made_tl l m xs ys) ⟨q1, q2, b⟩
  · exact absurd rfl ne
end
/-! in the hand layer's words -/
def Sq (t : Bool) (K : PySem.W.Frag) (H : Hp) (a : Addr) (xs : List V) : Prop := if t = true then SqT K H a xs else SqL K H a xs
theorem sq_of {X : Cx} {pins : List (Addr × Obj)} {σ : L2.St} {H : Hp} {s : Shared} {t : Bool} {a : Addr} {xs : List V} (I : Inv X pins σ H s) (q : Sq t X.K H a xs) : ∃ its : List Value, Vals xs its ∧ Of t s.heap a its.toArray := by
  cases t
  · obtain ⟨its, r, p, _⟩ := I.list (show SqL X.K H a xs from q)
    exact ⟨its, r, p.isList⟩
  · obtain ⟨its, r, p, _⟩ := I.tuple (show SqT X.K H a xs from q)
    exact ⟨its, r, p⟩
theorem sq_inj {X : Cx} {pins : List (Addr × Obj)} {σ : L2.St} {H : Hp} {s : Shared} {t : Bool} {a : Addr} {xs ys : List V} (I : Inv X pins σ H s) (q : Sq t X.K H a xs) (q' : Sq t X.K H a ys) : xs = ys := by
  cases t
  · exact I.list_inj (show SqL X.K H a xs from q) q'
  · exact I.tuple_inj (show SqT X.K H a xs from q) q'
/-- pairs of what stands at a and at b -/
def ItM (t u : Bool) (K : PySem.W.Frag) (a b : Addr) : It where
  go i H := ∃ (xs ys : List V) (x y : V), Sq t K H a xs ∧ Sq u K H b ys ∧ xs[i]? = some x ∧ ys[i]? = some y
  yld i H v H' := ∃ (T : Addr) (x y : V), v = .ref T ∧ H T = none ∧ H' = upd H T (.tup [x, y]) ∧ (∀ xs, Sq t K H a xs → xs[i]? = some x) ∧ ∀ ys, Sq u K H b ys → ys[i]? = some y
  stop i H := ∃ xs ys : List V, Sq t K H a xs ∧ Sq u K H b ys ∧ (xs.length ≤ i ∨ ys.length ≤ i)
theorem five {P : Addr → Prop} {z T O i j : Addr} (h1 : P z) (h2 : P T) (h3 : P O) (h4 : P i) (h5 : P j) : ∀ c ∈ [z, T, O, i, j], P c := by
  intro c hc
  simp only [List.mem_cons, List.not_mem_nil, or_false] at hc
  rcases hc with rfl | rfl | rfl | rfl | rfl <;> assumption
theorem Beside.five {z T O i j : Addr} {h g : Heap} (k : Beside z O i j h g) {c : Addr} {o : Obj} (n : c ∉ [z, T, O, i, j]) (e : h.get? c = some o) : g.get? c = some o := by
  simp only [List.mem_cons, List.not_mem_nil, or_false, not_or] at n
  exact k c o n.1 n.2.2.1 n.2.2.2.1 n.2.2.2.2 e
theorem turn_mix {P : Program} {w : World} {K : PySem.W.Frag} {elts : List Expr} {kk : Nat} {tpos : Pos} {t u : Bool} {a b z T O i j : Addr} (D : ZipApart z T O i j a b) :
    Turn P w K (.Tuple elts kk tpos) (ItM t u K a b) [z, T, O, i, j] z (fun n h => IsZip h z T O .none ∧ IsPair h T (.ref i) (.ref j) ∧ (∃ x y, IsPair h O x y) ∧ At t h i a n ∧ At u h j b n) where
  mem := by simp
  obj := fun n h st => by
    obtain ⟨qz, qT, ⟨x, y, qO⟩, p1, p2⟩ := st
    obtain ⟨o1, e1, d1⟩ := p1.is
    obtain ⟨o2, e2, d2⟩ := p2.is
    refine five ⟨_, qz, fun v q => nomatch q⟩ ⟨_, qT, fun v q => nomatch q⟩ ⟨_, qO, fun v q => nomatch q⟩ ⟨o1, e1, fun v q => ?_⟩ ⟨o2, e2, fun v q => ?_⟩
    · rw [d1] at q; cases q
    · rw [d2] at q; cases q
  keep := fun n h g st k => by
    obtain ⟨qz, qT, ⟨x, y, qO⟩, p1, p2⟩ := st
    exact ⟨k z (by simp) _ qz, k T (by simp) _ qT, ⟨x, y, k O (by simp) _ qO⟩, p1.on (k i (by simp)), p2.on (k j (by simp))⟩
  item := by
    intro X eP ew eK hc n pins s σ H E I hf st hg
    subst eP ew eK
    obtain ⟨qz, qT, ⟨x0, y0, qO⟩, p1, p2⟩ := st
    obtain ⟨xs, ys, x, y, s1, s2, ex, ey⟩ := hg
    obtain ⟨is1, r1, f1⟩ := sq_of I s1
    obtain ⟨is2, r2, f2⟩ := sq_of I s2
    obtain ⟨v1, hv1, rv1⟩ := r1.get ex
    obtain ⟨v2, hv2, rv2⟩ := r2.get ey
    have zl : z < s.heap.objs.size := Heap.lt_size qz
    refine py_step D qz qT qO p1 p2 f1 f2 (x := v1) (y := v2) (by simpa using hv1) (by simpa using hv2) fun g z' O' i' j' nw k => ⟨_, rfl, ?_⟩
    refine wpAny_letOwnedTupleGo_zip (s := { s with heap := g }) z' fun g2 z2 sb => ?_
    have k2 : ∀ {c o}, c ≠ z → g.get? c = some o → g2.get? c = some o := fun d e => (sb.2 _ d).trans e
    have n2 := k2 (Nat.ne_of_gt zl) nw
    have all : ∀ c o, c ∉ [z, T, O, i, j] → s.heap.get? c = some o → g2.get? c = some o := fun c o hn e => k2 (fun q => hn (by simp [q])) (k.five hn e)
    have new : ObjOk X.prog X.w (upd H s.heap.objs.size (.tup [x, y])) g2 s.heap.objs.size (.tup [x, y]) := ⟨by show 2 ≤ sizeLine; decide, [v1, v2], .cons rv1 (.cons rv2 .nil), _, n2, rfl, _, rfl⟩
    have I1 : Inv X pins σ (upd H s.heap.objs.size (.tup [x, y])) { s with heap := g2 } := I.turnedNew (t' := s.toks) (ch := [z, T, O, i, j]) all hf (Nat.le_refl _) new
    refine ⟨.ref s.heap.objs.size, _, I1, rfl, ⟨_, x, y, rfl, I.hok.fresh (Nat.le_refl _), rfl, fun l hl => by rw [sq_inj I hl s1]; exact ex, fun l hl => by rw [sq_inj I hl s2]; exact ey⟩, ⟨z2, ?_, ⟨v1, v2, k2 D.TOz O'⟩, i'.on fun _ => k2 D.i1z, j'.on fun _ => k2 D.i2z⟩, ?_⟩
    · exact k2 D.TIz (k _ _ D.TIz D.TITO D.TIi1 D.TIi2 qT)
    · obtain ⟨o1, e1, _⟩ := p1.is
      obtain ⟨o2, e2, _⟩ := p2.is
      have lt : ∀ c ∈ [z, T, O, i, j], c < s.heap.objs.size := five zl (Heap.lt_size qT) (Heap.lt_size qO) (Heap.lt_size e1) (Heap.lt_size e2)
      exact fun c hcm => (upd_ne (Nat.ne_of_lt (lt c hcm))).trans (hf c hcm).1
  done := by
    intro X eP ew eK hc n pins s σ H E I hf st hg
    subst eP ew eK
    obtain ⟨qz, qT, ⟨x0, y0, qO⟩, p1, p2⟩ := st
    obtain ⟨xs, ys, s1, s2, no⟩ := hg
    obtain ⟨is1, r1, f1⟩ := sq_of I s1
    obtain ⟨is2, r2, f2⟩ := sq_of I s2
    have l1 := r1.length
    have l2 := r2.length
    have no' : is1.toArray[n]? = none ∨ is2.toArray[n]? = none := no.imp (fun q => by simp; omega) fun q => by simp; omega
    exact py_stop (I.ok.hd hc) D qz qT qO p1 p2 f1 f2 no' fun g k => ⟨rfl, I.turnedL (t' := s.toks) (ch := [z, T, O, i, j]) (fun c o hn e => k.five hn e) hf⟩
  self := fun A n s Q E st h => wpAny_pyIter_zip st.1 h
def iZipM (t u : Bool) (K : PySem.W.Frag) (ta : TA) : TI := fun σ H R => ta σ H fun vs H1 => ∃ a b xs ys, vs = [.ref a, .ref b] ∧ Sq t K H1 a xs ∧ Sq u K H1 b ys ∧ R (ItM t u K a b) H1
/-- a zip: of two lists, two tuples, or one of each -/
def iZipX (K : PySem.W.Frag) (ta : TA) : TI := fun σ H R => ta σ H fun vs H1 => ∃ a b xs ys, vs = [.ref a, .ref b] ∧ ((SqL K H1 a xs ∧ SqL K H1 b ys ∧ R (Itz K a b) H1) ∨ (SqT K H1 a xs ∧ SqT K H1 b ys ∧ R (ItzT K a b) H1) ∨ ∃ t u, t ≠ u ∧ Sq t K H1 a xs ∧ Sq u K H1 b ys ∧ R (ItM t u K a b) H1)
theorem pi_zipX {X : Cx} {e e2 : Expr} {ta : TA} {p pos tpos : Pos} {elts : List Expr} {kk : Nat} (hg : Gl X "zip") (hm : X.mg "zip" = none) (ha : PA X [e, e2] ta)
    (hs : starEach [e, e2] X.env = (false, eval e X.env) :: starEach [e2] X.env) (hpl : (backTo pos (starEach [e2] X.env)).any (·.1) = false) :
    PI X (.Tuple elts kk tpos) (.Call (.Name "zip" p) [e, e2] [] pos) (iZipX X.K ta) := by
  refine ⟨fun pins s σ H R I h => Call_ (ld_blt I hg hm PyProof.Rows.boot_zip (PyProof.Rows.callWith_type1 (thn (ha.run pos pins s σ H _ I h) fun us s1 ⟨vs, H1, I1, r1, a, b, xs, ys, ex, q1⟩ => ?_) hs hpl))⟩
  subst ex
  cases r1 with
  | cons r rr =>
    cases rr with
    | cons r' rr =>
      cases rr
      cases r
      cases r'
      have fp : ∀ c ∈ [s1.heap.objs.size + 4, s1.heap.objs.size + 2, s1.heap.objs.size + 3, s1.heap.objs.size, s1.heap.objs.size + 1], FpOk X pins H1 c := by
        have le : ∀ c, s1.heap.objs.size ≤ c → FpOk X pins H1 c := fun c q => I1.fpOk q (I1.hok.fresh q)
        exact five (le _ (Nat.le_add_right _ _)) (le _ (Nat.le_add_right _ _)) (le _ (Nat.le_add_right _ _)) (le _ (Nat.le_refl _)) (le _ (Nat.le_add_right _ _))
      rcases q1 with ⟨s1', s2', q⟩ | ⟨s1', s2', q⟩ | ⟨t, u, ne, s1', s2', q⟩
      · obtain ⟨is1, _, f1, _⟩ := I1.list s1'
        obtain ⟨is2, _, f2, _⟩ := I1.list s2'
        refine call_zip_2 f1.isList f2.isList fun g qz qT qO p1 p2 _ k => wpAny_pyIter_zip qz ⟨_, _, _, _, H1, rfl, I1.kept (t' := s1.toks) k, turn_zip (PySem.W.ktu_apart s1.heap.objs.size a b f1.lt f2.lt), ⟨qz, qT, ⟨_, _, qO⟩, p1, p2⟩, fp, q⟩
      · obtain ⟨is1, _, f1, _⟩ := I1.tuple s1'
        obtain ⟨is2, _, f2, _⟩ := I1.tuple s2'
        obtain ⟨o1, e1, _⟩ := id f1
        obtain ⟨o2, e2, _⟩ := id f2
        refine call_zipT (xs := is1.toArray) (ys := is2.toArray) f1 f2 fun g qz qT qO p1 p2 _ k => wpAny_pyIter_zip qz ⟨_, _, _, _, H1, rfl, I1.kept (t' := s1.toks) k, turn_zipT (PySem.W.ktu_apart s1.heap.objs.size a b (Heap.lt_size e1) (Heap.lt_size e2)), ⟨qz, qT, ⟨_, _, qO⟩, p1, p2⟩, fp, q⟩
      · obtain ⟨is1, _, f1⟩ := sq_of I1 s1'
        obtain ⟨is2, _, f2⟩ := sq_of I1 s2'
        obtain ⟨o1, e1⟩ := f1.is
        obtain ⟨o2, e2⟩ := f2.is
        refine call_mix ne f1 f2 fun g qz qT qO p1 p2 k => wpAny_pyIter_zip qz ⟨_, _, _, _, H1, rfl, I1.kept (t' := s1.toks) k, turn_mix (PySem.W.ktu_apart s1.heap.objs.size a b (Heap.lt_size e1) (Heap.lt_size e2)), ⟨qz, qT, ⟨_, _, qO⟩, p1, p2⟩, fp, q⟩
end ZM

-- P1
set_option Elab.async false
set_option linter.all false
set_option maxRecDepth 100000
namespace Ip
open PySem L2 PyProof.Rows

/-- data: tuples are values, lists stand in the store -/
inductive D where
  | non | bl (b : Bool) | int (i : Int) | str (x : Str) | tup (ds : List D) | ro (ds : List D) | ref (n : Nat) | fn (f : Nat)
/-- what stands in the store -/
inductive Cell where
  | lst (ds : List D) | dct (kvs : List (L2.Key × D))
abbrev Sto := List Cell
abbrev Env := List (Option D)
/-- an exception of an own class -/
structure Exn where
  cls : Nat
  val : Option D

/-- what the written part gives: addresses of defs, of exception classes -/
structure Adr where
  K : PySem.W.Frag
  fa : Nat → Addr
  xa : Nat → Addr
  /-- how many defs -/
  nf : Nat

/-- a list that is read only -/
def SqR (K : PySem.W.Frag) (H : Hp) (a : Addr) (xs : List V) : Prop := (∃ o, H a = some (.frz o (.lst xs))) ∨
  ∃ (o : Obj) (its : Array Value) (n : Nat), K.lookup a = some o ∧ o.cls = .type "list" ∧ o.dict = none ∧ o.data = .seq its n ∧ its.size ≤ sizeLine ∧ Vals xs its.toList
theorem SqR.sq {K : PySem.W.Frag} {H : Hp} {a : Addr} {xs : List V} (h : SqR K H a xs) : SqL K H a xs := h.imp .inr id
section
variable (G : Adr) (H : Hp) (m : List Addr)
mutual
def Rel : D → V → Prop
  | .non, v => v = .non
  | .bl b, v => v = .bl b
  | .int i, v => v = .int i
  | .str x, v => v = .str x
  | .tup ds, v => ∃ a vs, v = .ref a ∧ SqT G.K H a vs ∧ Rels ds vs
  | .ro ds, v => ∃ a vs, v = .ref a ∧ SqR G.K H a vs ∧ Rels ds vs
  | .ref n, v => ∃ a, m[n]? = some a ∧ v = .ref a
  | .fn f, v => v = .ref (G.fa f) ∧ f < G.nf
def Rels : List D → List V → Prop
  | [], vs => vs = []
  | d :: ds, vs => ∃ v r, vs = v :: r ∧ Rel d v ∧ Rels ds r
end
def Kvs : List (L2.Key × D) → List (L2.Key × V) → Prop
  | [], vs => vs = []
  | p :: r, vs => ∃ v q, vs = (p.1, v) :: q ∧ Rel G H m p.2 v ∧ Kvs r q
def CellOk (a : Addr) : Cell → Prop
  | .lst ds => ∃ vs, H a = some (.lst vs) ∧ Rels G H m ds vs ∧ ds.length ≤ sizeLine
  | .dct kvs => ∃ vs, H a = some (.dK vs) ∧ Kvs G H m kvs vs ∧ kvs.length ≤ sizeLine
structure Good (S : Sto) : Prop where
  len : m.length = S.length
  nd : m.Nodup
  cell : ∀ (n : Nat) (a : Addr) (c : Cell), m[n]? = some a → S[n]? = some c → CellOk G H m a c
structure EnvOk (ρ : Env) (σ : L2.St) : Prop where
  len : ρ.length = σ.length
  get : ∀ (i : Nat) (d : D), ρ[i]? = some (some d) → ∃ v, σ[i]? = some (some v) ∧ Rel G H m d v
end
/-- how the objects go on: those that no cell stands for, tuples, and what is read only, stay; new cells are new objects -/
structure Ext (m : List Addr) (H : Hp) (m' : List Addr) (H' : Hp) : Prop where
  pre : m <+: m'
  keep : ∀ a o, H a = some o → (a ∉ m ∨ (∃ xs, o = .tup xs) ∨ ∃ q u, o = .frz q u) → H' a = some o
  new : ∀ a ∈ m', a ∉ m → H a = none
theorem Ext.refl {m : List Addr} {H : Hp} : Ext m H m H := ⟨List.prefix_refl _, fun _ _ h _ => h, fun _ h n => absurd h n⟩
theorem Ext.trans {m m1 m2 : List Addr} {H H1 H2 : Hp} (a : Ext m H m1 H1) (b : Ext m1 H1 m2 H2) : Ext m H m2 H2 := by
  have out : ∀ x o, H x = some o → x ∉ m → x ∉ m1 := fun x o h n h1 => by rw [a.new x h1 n] at h; cases h
  refine ⟨a.pre.trans b.pre, fun x o h c => b.keep x o (a.keep x o h c) (c.imp (out x o h) id), fun x h n => ?_⟩
  by_cases h1 : x ∈ m1
  · exact a.new x h1 n
  · have q := b.new x h h1
    cases e : H x with
    | none => rfl
    | some o => rw [a.keep x o e (.inl n)] at q; cases q
theorem Ext.tup {m m' : List Addr} {H H' : Hp} (t : Ext m H m' H') (a : Addr) (xs : List V) (h : H a = some (.tup xs)) : H' a = some (.tup xs) := t.keep a _ h (.inr (.inl ⟨_, rfl⟩))
theorem Ext.frz {m m' : List Addr} {H H' : Hp} (t : Ext m H m' H') (a : Addr) (o : Obj) (u : HO) (h : H a = some (.frz o u)) : H' a = some (.frz o u) := t.keep a _ h (.inr (.inr ⟨_, _, rfl⟩))
/-- what data lean on -/
structure Tp (m : List Addr) (H : Hp) (m' : List Addr) (H' : Hp) : Prop where
  pre : m <+: m'
  tup : ∀ a xs, H a = some (.tup xs) → H' a = some (.tup xs)
  frz : ∀ a o u, H a = some (.frz o u) → H' a = some (.frz o u)
theorem Ext.tp {m m' : List Addr} {H H' : Hp} (t : Ext m H m' H') : Tp m H m' H' := ⟨t.pre, t.tup, t.frz⟩
/-- a list changed, whosever it is -/
theorem Tp.put {m : List Addr} {H : Hp} {p : Addr} {o o' : HO} (hp : H p = some o') (h1 : ∀ xs, o' ≠ .tup xs) (h2 : ∀ q u, o' ≠ .frz q u) : Tp m H m (upd H p o) :=
  ⟨List.prefix_refl _, fun a xs h => by rw [upd_ne (ne_of h hp (fun e => h1 _ e.symm))]; exact h, fun a q u h => by rw [upd_ne (ne_of h hp (fun e => h2 _ _ e.symm))]; exact h⟩
theorem Tp.sqT {K : PySem.W.Frag} {m m' : List Addr} {H H' : Hp} (t : Tp m H m' H') {a : Addr} {xs : List V} (h : SqT K H a xs) : SqT K H' a xs := by
  rcases h with (h | ⟨o', h⟩) | h
  · exact .inl (.inl (t.tup _ _ h))
  · exact .inl (.inr ⟨o', t.frz _ _ _ h⟩)
  · exact .inr h
/-- a new object, no cell -/
theorem Ext.obj {m : List Addr} {H : Hp} {p : Addr} {o : HO} (hn : H p = none) : Ext m H m (upd H p o) :=
  ⟨List.prefix_refl _, fun a o' h _ => by rw [upd_ne (ne_of_none h hn)]; exact h, fun _ h n => absurd h n⟩
/-- a new object and its cell -/
theorem Ext.cell {m : List Addr} {H : Hp} {p : Addr} {o : HO} (hn : H p = none) : Ext m H (m ++ [p]) (upd H p o) :=
  ⟨List.prefix_append _ _, fun a o' h _ => by rw [upd_ne (ne_of_none h hn)]; exact h, fun a h n => by
    rcases List.mem_append.mp h with h | h
    · exact absurd h n
    · simp at h; subst h; exact hn⟩
/-- an object that stands beside the cells becomes one -/
theorem Ext.take {m : List Addr} {H : Hp} {p : Addr} : (H p = none) → Ext m H m H := fun _ => .refl
/-- a cell changed -/
theorem Ext.put {m : List Addr} {H : Hp} {p : Addr} {o o' : HO} (hm : p ∈ m) (hp : H p = some o') (h1 : ∀ xs, o' ≠ .tup xs) (h2 : ∀ q u, o' ≠ .frz q u) : Ext m H m (upd H p o) :=
  ⟨List.prefix_refl _, fun a x h c => by
    have : a ≠ p := by
      intro e; subst e
      rw [hp] at h; cases h
      rcases c with c | ⟨xs, e⟩ | ⟨q, u, e⟩
      · exact c hm
      · exact h1 _ e
      · exact h2 _ _ e
    rw [upd_ne this]; exact h, fun _ h n => absurd h n⟩

section
variable {G : Adr} {H H' : Hp} {m m' : List Addr}
mutual
theorem Rel.mono (t : Tp m H m' H') : ∀ (d : D) (v : V), Rel G H m d v → Rel G H' m' d v
  | .non, v, h => h
  | .bl _, v, h => h
  | .int _, v, h => h
  | .str _, v, h => h
  | .fn _, v, h => h
  | .ref n, v, ⟨a, h, e⟩ => ⟨a, by obtain ⟨r, rfl⟩ := t.pre; rw [List.getElem?_append_left (List.getElem?_eq_some_iff.mp h).1]; exact h, e⟩
  | .tup ds, v, ⟨a, vs, e, h, r⟩ => ⟨a, vs, e, t.sqT h, Rels.mono t ds vs r⟩
  | .ro ds, v, ⟨a, vs, e, h, r⟩ => ⟨a, vs, e, h.imp (fun ⟨o, q⟩ => ⟨o, t.frz _ _ _ q⟩) id, Rels.mono t ds vs r⟩
theorem Rels.mono (t : Tp m H m' H') : ∀ (ds : List D) (vs : List V), Rels G H m ds vs → Rels G H' m' ds vs
  | [], _, h => h
  | d :: ds, _, ⟨v, r, e, h1, h2⟩ => ⟨v, r, e, Rel.mono t d v h1, Rels.mono t ds r h2⟩
end
theorem EnvOk.mono {ρ : Env} {σ : L2.St} (h : EnvOk G H m ρ σ) (t : Tp m H m' H') : EnvOk G H' m' ρ σ :=
  ⟨h.len, fun i d e => let ⟨v, e', r⟩ := h.get i d e; ⟨v, e', Rel.mono t d v r⟩⟩
theorem Rels.length : ∀ {ds : List D} {vs : List V}, Rels G H m ds vs → vs.length = ds.length
  | [], _, h => by cases h; rfl
  | d :: ds, _, ⟨v, r, e, _, h2⟩ => by subst e; simp [Rels.length h2]
theorem Rels.get : ∀ {ds : List D} {vs : List V} {i : Nat} {d : D}, Rels G H m ds vs → ds[i]? = some d → ∃ v, vs[i]? = some v ∧ Rel G H m d v
  | [], _, i, d, h, e => by simp at e
  | x :: ds, _, 0, d, ⟨v, r, e, h1, h2⟩, e' => by subst e; simp at e'; subst e'; exact ⟨v, rfl, h1⟩
  | x :: ds, _, i + 1, d, ⟨v, r, e, h1, h2⟩, e' => by subst e; simpa using Rels.get h2 (by simpa using e')
theorem Rels.append : ∀ {ds es : List D} {vs ws : List V}, Rels G H m ds vs → Rels G H m es ws → Rels G H m (ds ++ es) (vs ++ ws)
  | [], _, _, _, h, h' => by cases h; exact h'
  | d :: ds, _, _, _, ⟨v, r, e, h1, h2⟩, h' => by subst e; exact ⟨v, r ++ _, rfl, h1, Rels.append h2 h'⟩
theorem Rels.snoc {ds : List D} {vs : List V} {d : D} {v : V} (h : Rels G H m ds vs) (h' : Rel G H m d v) : Rels G H m (ds ++ [d]) (vs ++ [v]) := h.append ⟨v, [], rfl, h', rfl⟩
theorem Rels.set : ∀ {ds : List D} {vs : List V} {i : Nat} {d : D} {v : V}, Rels G H m ds vs → Rel G H m d v → Rels G H m (ds.set i d) (vs.set i v)
  | [], _, i, d, v, h, _ => by cases h; rfl
  | x :: ds, _, 0, d, v, ⟨u, r, e, h1, h2⟩, h' => by subst e; exact ⟨v, r, rfl, h', h2⟩
  | x :: ds, _, i + 1, d, v, ⟨u, r, e, h1, h2⟩, h' => by subst e; exact ⟨u, r.set i v, rfl, h1, Rels.set h2 h'⟩
theorem Rels.take : ∀ {ds : List D} {vs : List V} (n : Nat), Rels G H m ds vs → Rels G H m (ds.take n) (vs.take n)
  | [], _, n, h => by cases h; cases n <;> rfl
  | d :: ds, _, 0, h => rfl
  | d :: ds, _, n + 1, ⟨v, r, e, h1, h2⟩ => by subst e; exact ⟨v, r.take n, rfl, h1, Rels.take n h2⟩
theorem Rels.drop : ∀ {ds : List D} {vs : List V} (n : Nat), Rels G H m ds vs → Rels G H m (ds.drop n) (vs.drop n)
  | [], _, n, h => by cases h; cases n <;> rfl
  | d :: ds, _, 0, h => h
  | d :: ds, _, n + 1, ⟨v, r, e, h1, h2⟩ => by subst e; simpa using Rels.drop n h2
theorem Rels.replicate {d : D} {v : V} (h : Rel G H m d v) : ∀ n : Nat, Rels G H m (List.replicate n d) (List.replicate n v)
  | 0 => rfl
  | n + 1 => ⟨v, _, rfl, h, Rels.replicate h n⟩
theorem Kvs.mono (t : Tp m H m' H') : ∀ {ks : List (L2.Key × D)} {vs : List (L2.Key × V)}, Kvs G H m ks vs → Kvs G H' m' ks vs
  | [], _, h => h
  | p :: r, _, ⟨v, q, e, h1, h2⟩ => ⟨v, q, e, Rel.mono t _ _ h1, Kvs.mono t h2⟩
theorem Kvs.length : ∀ {ks : List (L2.Key × D)} {vs : List (L2.Key × V)}, Kvs G H m ks vs → vs.length = ks.length
  | [], _, h => by cases h; rfl
  | p :: r, _, ⟨v, q, e, _, h2⟩ => by subst e; simp [Kvs.length h2]
/-- what stands at a key -/
def valD (ks : List (L2.Key × D)) (k : L2.Key) : Option D := (ks.find? fun p => decide (p.1 = k)).map (·.2)
def putD (ks : List (L2.Key × D)) (k : L2.Key) (d : D) : List (L2.Key × D) :=
  if (ks.any fun p => decide (p.1 = k)) = true then ks.map (fun p => if p.1 = k then (p.1, d) else p) else ks ++ [(k, d)]
theorem Kvs.val (k : L2.Key) : ∀ {ks : List (L2.Key × D)} {vs : List (L2.Key × V)}, Kvs G H m ks vs → (valD ks k = none ∧ valV vs k = none) ∨ ∃ d v, valD ks k = some d ∧ valV vs k = some v ∧ Rel G H m d v
  | [], _, h => by cases h; exact .inl ⟨rfl, rfl⟩
  | p :: r, _, ⟨v, q, e, h1, h2⟩ => by
    subst e
    by_cases hk : p.1 = k
    · exact .inr ⟨p.2, v, by simp [valD, List.find?_cons, hk], valV_pos hk, h1⟩
    · have e1 : valD (p :: r) k = valD r k := by simp [valD, List.find?_cons, hk]
      rw [e1, valV_neg hk]
      exact Kvs.val k h2
theorem Kvs.any (k : L2.Key) : ∀ {ks : List (L2.Key × D)} {vs : List (L2.Key × V)}, Kvs G H m ks vs → (vs.any fun p => decide (p.1 = k)) = ks.any fun p => decide (p.1 = k)
  | [], _, h => by cases h; rfl
  | p :: r, _, ⟨v, q, e, h1, h2⟩ => by subst e; simp [Kvs.any k h2]
theorem Kvs.put {k : L2.Key} {d : D} {v : V} (hd : Rel G H m d v) {ks : List (L2.Key × D)} {vs : List (L2.Key × V)} (h : Kvs G H m ks vs) : Kvs G H m (putD ks k d) (putK vs k v) := by
  have app : ∀ {ks : List (L2.Key × D)} {vs : List (L2.Key × V)}, Kvs G H m ks vs → Kvs G H m (ks ++ [(k, d)]) (vs ++ [(k, v)]) := by
    intro ks
    induction ks with
    | nil => intro vs h; cases h; exact ⟨v, [], rfl, hd, rfl⟩
    | cons p r ih => intro vs ⟨w, q, e, h1, h2⟩; subst e; exact ⟨w, q ++ [(k, v)], rfl, h1, ih h2⟩
  have mp : ∀ {ks : List (L2.Key × D)} {vs : List (L2.Key × V)}, Kvs G H m ks vs → Kvs G H m (ks.map fun p => if p.1 = k then (p.1, d) else p) (vs.map fun p => if p.1 = k then (p.1, v) else p) := by
    intro ks
    induction ks with
    | nil => intro vs h; cases h; rfl
    | cons p r ih =>
      intro vs ⟨w, q, e, h1, h2⟩
      subst e
      by_cases hk : p.1 = k
      · simp only [List.map_cons, hk, if_true]
        exact ⟨v, _, rfl, hd, ih h2⟩
      · simp only [List.map_cons, hk, if_false]
        exact ⟨w, _, rfl, h1, ih h2⟩
  unfold putD putK
  rw [Kvs.any k h]
  split
  · exact mp h
  · exact app h
theorem putD_length {ks : List (L2.Key × D)} {k : L2.Key} {d : D} : (putD ks k d).length ≤ ks.length + 1 := by
  unfold putD
  split <;> simp
theorem CellOk.mono {a : Addr} {c : Cell} (t : Tp m H m' H') (ha : H' a = H a) (h : CellOk G H m a c) : CellOk G H' m' a c := by
  cases c with
  | lst ds => obtain ⟨vs, e, r, l⟩ := h; exact ⟨vs, by rw [ha]; exact e, Rels.mono t _ _ r, l⟩
  | dct ks => obtain ⟨vs, e, r, l⟩ := h; exact ⟨vs, by rw [ha]; exact e, Kvs.mono t r, l⟩
theorem CellOk.some {a : Addr} {c : Cell} (h : CellOk G H m a c) : ∃ o, H a = some o := by
  cases c with
  | lst ds => obtain ⟨vs, e, r, l⟩ := h; exact ⟨_, e⟩
  | dct ks => obtain ⟨vs, e, r, l⟩ := h; exact ⟨_, e⟩
theorem Good.at {S : Sto} (g : Good G H m S) {n : Nat} {c : Cell} (h : S[n]? = some c) : ∃ a, m[n]? = some a ∧ CellOk G H m a c := by
  have hl : n < m.length := by rw [g.len]; exact (List.getElem?_eq_some_iff.mp h).1
  exact ⟨m[n], List.getElem?_eq_getElem hl, g.cell n _ c (List.getElem?_eq_getElem hl) h⟩
theorem Good.addr {S : Sto} (g : Good G H m S) {n : Nat} {a : Addr} (h : m[n]? = some a) : ∃ o, H a = some o := by
  have hl : n < S.length := by rw [← g.len]; exact (List.getElem?_eq_some_iff.mp h).1
  exact (g.cell n a _ h (List.getElem?_eq_getElem hl)).some
/-- a new cell -/
theorem Good.push {S : Sto} (g : Good G H m S) {p : Addr} {o : HO} {c : Cell} (hp : H p = none) (h : CellOk G (upd H p o) (m ++ [p]) p c) : Good G (upd H p o) (m ++ [p]) (S ++ [c]) := by
  have np : p ∉ m := fun hm => by
    obtain ⟨i, hi, e⟩ := List.mem_iff_getElem.mp hm
    obtain ⟨o', e'⟩ := g.addr (n := i) (a := p) (by rw [List.getElem?_eq_getElem hi, e])
    rw [hp] at e'; cases e'
  refine ⟨by simp [g.len], ?_, fun n a c' h1 h2 => ?_⟩
  · rw [List.nodup_append]
    exact ⟨g.nd, by simp, fun a ha b hb => by simp at hb; subst hb; intro e; subst e; exact np ha⟩
  · by_cases hn : n < m.length
    · rw [List.getElem?_append_left hn] at h1
      rw [List.getElem?_append_left (by rw [← g.len]; exact hn)] at h2
      have ha : a ≠ p := fun e => np (e ▸ List.mem_of_getElem? h1)
      exact CellOk.mono (Ext.cell hp).tp (upd_ne ha) (g.cell n a c' h1 h2)
    · have e1 : n = m.length := by
        have := (List.getElem?_eq_some_iff.mp h1).1
        simp at this; omega
      subst e1
      rw [List.getElem?_append_right (Nat.le_refl _)] at h1
      rw [g.len, List.getElem?_append_right (Nat.le_refl _)] at h2
      simp at h1 h2
      subst h1; subst h2
      exact h
/-- a new object that no cell stands for (a tuple) -/
theorem Good.aside {S : Sto} (g : Good G H m S) {p : Addr} {o : HO} (hp : H p = none) : Good G (upd H p o) m S := by
  refine ⟨g.len, g.nd, fun n a c h1 h2 => ?_⟩
  obtain ⟨o', e⟩ := g.addr h1
  exact CellOk.mono (Ext.obj hp).tp (upd_ne (ne_of_none e hp)) (g.cell n a c h1 h2)
/-- an object that no cell stands for is changed -/
theorem Good.beside {S : Sto} (g : Good G H m S) {p : Addr} {o o' : HO} (np : p ∉ m) (hp : H p = some o') (h1 : ∀ xs, o' ≠ .tup xs) (h2 : ∀ q u, o' ≠ .frz q u) : Good G (upd H p o) m S := by
  refine ⟨g.len, g.nd, fun n a c e1 e2 => ?_⟩
  have ha : a ≠ p := fun e => np (e ▸ List.mem_of_getElem? e1)
  exact CellOk.mono (.put hp h1 h2) (upd_ne ha) (g.cell n a c e1 e2)
/-- .. becomes a cell -/
theorem Good.taken {S : Sto} (g : Good G H m S) {p : Addr} {c : Cell} (np : p ∉ m) (h : CellOk G H (m ++ [p]) p c) : Good G H (m ++ [p]) (S ++ [c]) := by
  have t : Tp m H (m ++ [p]) H := ⟨List.prefix_append _ _, fun _ _ h => h, fun _ _ _ h => h⟩
  refine ⟨by simp [g.len], ?_, fun n a c' h1 h2 => ?_⟩
  · rw [List.nodup_append]
    exact ⟨g.nd, by simp, fun a ha b hb => by simp at hb; subst hb; intro e; subst e; exact np ha⟩
  · by_cases hn : n < m.length
    · rw [List.getElem?_append_left hn] at h1
      rw [List.getElem?_append_left (by rw [← g.len]; exact hn)] at h2
      exact CellOk.mono t rfl (g.cell n a c' h1 h2)
    · have e1 : n = m.length := by
        have := (List.getElem?_eq_some_iff.mp h1).1
        simp at this; omega
      subst e1
      rw [List.getElem?_append_right (Nat.le_refl _)] at h1
      rw [g.len, List.getElem?_append_right (Nat.le_refl _)] at h2
      simp at h1 h2
      subst h1; subst h2
      exact h
/-- a cell is changed -/
theorem Good.put {S : Sto} (g : Good G H m S) {n : Nat} {a : Addr} {o : HO} {c : Cell} (ha : m[n]? = some a) {o' : HO} (hp : H a = some o') (h1 : ∀ xs, o' ≠ .tup xs) (h2 : ∀ q u, o' ≠ .frz q u)
    (h : CellOk G (upd H a o) m a c) : Good G (upd H a o) m (S.set n c) := by
  have t : Tp m H m (upd H a o) := .put hp h1 h2
  refine ⟨by simp [g.len], g.nd, fun i b c' e1 e2 => ?_⟩
  by_cases hi : n = i
  · subst hi
    rw [ha] at e1; cases e1
    have hl := (List.getElem?_eq_some_iff.mp e2).1
    rw [List.getElem?_set_self (by simpa using hl)] at e2
    cases e2
    exact h
  · rw [List.getElem?_set_ne hi] at e2
    have hb : b ≠ a := fun e => by
      subst e
      obtain ⟨l1, e1'⟩ := List.getElem?_eq_some_iff.mp e1
      obtain ⟨l2, e2'⟩ := List.getElem?_eq_some_iff.mp ha
      exact hi ((List.getElem_inj g.nd).mp (e2'.trans e1'.symm))
    exact CellOk.mono t (upd_ne hb) (g.cell i b c' e1 e2)
end
end Ip

-- P2
set_option Elab.async false
set_option linter.all false
set_option maxRecDepth 100000
namespace Ip
open PySem L2 PyProof.Rows

abbrev RD := D → Sto → Prop
abbrev XD := Exn → Env → Sto → Prop
/-- an expression's, a test's, an argument list's reading over data -/
abbrev TD := Env → Sto → RD → XD → Prop
abbrev TBD := Env → Sto → (Bool → Sto → Prop) → XD → Prop
abbrev TAD := Env → Sto → (List D → Sto → Prop) → XD → Prop
structure EndsD where
  nx : Env → Sto → Prop
  rt : RD
  bk : Env → Sto → Prop
  ct : Env → Sto → Prop
abbrev TSD := EndsD → Env → Sto → XD → Prop

section
variable (G : Adr) (W : WX)
def ExOk (H : Hp) (m : List Addr) (x : Exn) (c : Value) (d : Option Addr) : Prop := c = .ref (G.xa x.cls) ∧ x.val = none ∧ d = none
structure At (m : List Addr) (H : Hp) (ρ : Env) (σ : L2.St) (S : Sto) (E : XD) : Prop where
  good : Good G H m S
  env : EnvOk G H m ρ σ
  xto : ∀ (x : Exn) (ρ' : Env) (S' : Sto) (m' : List Addr) (H' : Hp) (σ' : L2.St) (c : Value) (d : Option Addr), E x ρ' S' → Ext m H m' H' → Good G H' m' S' → EnvOk G H' m' ρ' σ' → ExOk G H' m' x c d → W c d σ' H'
def Fin (m : List Addr) (H : Hp) (R : RD) (Q : VK) : Prop := ∀ d S' m' H' v, R d S' → Ext m H m' H' → Good G H' m' S' → Rel G H' m' d v → Q v H'
def FinB (m : List Addr) (H : Hp) (R : Bool → Sto → Prop) (Q : Bool → Hp → Prop) : Prop := ∀ b S' m' H', R b S' → Ext m H m' H' → Good G H' m' S' → Q b H'
def FinA (m : List Addr) (H : Hp) (R : List D → Sto → Prop) (Q : List V → Hp → Prop) : Prop := ∀ ds S' m' H' vs, R ds S' → Ext m H m' H' → Good G H' m' S' → Rels G H' m' ds vs → Q vs H'
def lift (t : TD) : TE := fun σ H Q => ∃ m ρ S R E, At G W m H ρ σ S E ∧ t ρ S R E ∧ Fin G m H R Q
def liftB (t : TBD) : TT := fun σ H Q => ∃ m ρ S R E, At G W m H ρ σ S E ∧ t ρ S R E ∧ FinB G m H R Q
def liftA (t : TAD) : TA := fun σ H Q => ∃ m ρ S R E, At G W m H ρ σ S E ∧ t ρ S R E ∧ FinA G m H R Q
def FinN (m : List Addr) (H : Hp) (R : Env → Sto → Prop) (Q : L2.St → Hp → Prop) : Prop := ∀ ρ' S' m' H' σ', R ρ' S' → Ext m H m' H' → Good G H' m' S' → EnvOk G H' m' ρ' σ' → Q σ' H'
structure FinS (m : List Addr) (H : Hp) (R : EndsD) (Q : Ends) : Prop where
  nx : FinN G m H R.nx Q.nx
  rt : Fin G m H R.rt Q.rt
  bk : FinN G m H R.bk Q.bk
  ct : FinN G m H R.ct Q.ct
def liftS (t : TSD) : TS := fun Q σ H => ∃ m ρ S R E, At G W m H ρ σ S E ∧ t R ρ S E ∧ FinS G m H R Q
/-- values: one, two, many -/
def lift1 (op : D → Sto → RD → Prop) : V → Hp → VK → Prop := fun x H Q => ∃ m S R dx, Good G H m S ∧ Rel G H m dx x ∧ op dx S R ∧ Fin G m H R Q
def lift2 (op : D → D → Sto → RD → Prop) : R2 := fun x y H Q => ∃ m S R dx dy, Good G H m S ∧ Rel G H m dx x ∧ Rel G H m dy y ∧ op dx dy S R ∧ Fin G m H R Q
def liftN (op : List D → Sto → RD → Prop) : List V → Hp → VK → Prop := fun xs H Q => ∃ m S R ds, Good G H m S ∧ Rels G H m ds xs ∧ op ds S R ∧ Fin G m H R Q
end

section
variable {G : Adr} {W : WX} {m m' : List Addr} {H H' : Hp} {ρ : Env} {σ : L2.St} {S S' : Sto} {E : XD}
theorem At.mono (a : At G W m H ρ σ S E) (t : Ext m H m' H') (g : Good G H' m' S') : At G W m' H' ρ σ S' E :=
  ⟨g, a.env.mono t.tp, fun x ρ' S'' m'' H'' σ' c d h t' => a.xto x ρ' S'' m'' H'' σ' c d h (t.trans t')⟩
theorem At.env' (a : At G W m H ρ σ S E) {ρ' : Env} {σ' : L2.St} (e : EnvOk G H m ρ' σ') : At G W m H ρ' σ' S E := ⟨a.good, e, a.xto⟩
theorem Fin.mono {R : RD} {Q : VK} (f : Fin G m H R Q) (t : Ext m H m' H') : Fin G m' H' R Q := fun d S'' m'' H'' v h t' => f d S'' m'' H'' v h (t.trans t')
theorem FinB.mono {R : Bool → Sto → Prop} {Q : Bool → Hp → Prop} (f : FinB G m H R Q) (t : Ext m H m' H') : FinB G m' H' R Q := fun d S'' m'' H'' h t' => f d S'' m'' H'' h (t.trans t')
theorem FinA.mono {R : List D → Sto → Prop} {Q : List V → Hp → Prop} (f : FinA G m H R Q) (t : Ext m H m' H') : FinA G m' H' R Q := fun d S'' m'' H'' v h t' => f d S'' m'' H'' v h (t.trans t')
theorem FinN.mono {R : Env → Sto → Prop} {Q : L2.St → Hp → Prop} (f : FinN G m H R Q) (t : Ext m H m' H') : FinN G m' H' R Q := fun d S'' m'' H'' v h t' => f d S'' m'' H'' v h (t.trans t')
theorem FinS.mono {R : EndsD} {Q : Ends} (f : FinS G m H R Q) (t : Ext m H m' H') : FinS G m' H' R Q := ⟨f.nx.mono t, f.rt.mono t, f.bk.mono t, f.ct.mono t⟩
theorem Fin.now {R : RD} {Q : VK} (f : Fin G m H R Q) {d : D} {v : V} (g : Good G H m S) (r : R d S) (h : Rel G H m d v) : Q v H := f d S m H v r .refl g h
theorem FinB.now {R : Bool → Sto → Prop} {Q : Bool → Hp → Prop} (f : FinB G m H R Q) {b : Bool} (g : Good G H m S) (r : R b S) : Q b H := f b S m H r .refl g
theorem FinN.now {R : Env → Sto → Prop} {Q : L2.St → Hp → Prop} (f : FinN G m H R Q) (g : Good G H m S) (e : EnvOk G H m ρ σ) (r : R ρ S) : Q σ H := f ρ S m H σ r .refl g e
/-- with a new tuple -/
theorem Fin.tup {R : RD} {Q : VK} (f : Fin G m H R Q) {ds : List D} {vs : List V} (g : Good G H m S) (r : R (.tup ds) S) (h : Rels G H m ds vs) {p : Addr} (hp : H p = none) : Q (.ref p) (upd H p (.tup vs)) :=
  f _ S m _ _ r (.obj hp) (g.aside hp) ⟨p, vs, rfl, .of upd_same, Rels.mono (Ext.obj hp).tp _ _ h⟩
/-- with a new list -/
theorem Fin.lst {R : RD} {Q : VK} (f : Fin G m H R Q) {ds : List D} {vs : List V} (g : Good G H m S) (r : R (.ref S.length) (S ++ [.lst ds])) (h : Rels G H m ds vs) (hl : ds.length ≤ sizeLine) {p : Addr} (hp : H p = none) : Q (.ref p) (upd H p (.lst vs)) := by
  refine f _ _ (m ++ [p]) _ _ r (.cell hp) (g.push hp ⟨vs, upd_same, Rels.mono (Ext.cell hp).tp _ _ h, hl⟩) ⟨p, ?_, rfl⟩
  rw [← g.len, List.getElem?_append_right (Nat.le_refl _)]
  simp
/-- a list changed -/
theorem Fin.put {R : RD} {Q : VK} (f : Fin G m H R Q) {n : Nat} {a : Addr} {ds' : List D} {vs vs' : List V} {d : D} {v : V} (g : Good G H m S) (ha : m[n]? = some a) (hv : H a = some (.lst vs)) (r : R d (S.set n (.lst ds'))) (h : Rels G H m ds' vs') (hl : ds'.length ≤ sizeLine)
    (hd : Rel G H m d v) : Q v (upd H a (.lst vs')) := by
  have t : Ext m H m (upd H a (.lst vs')) := .put (List.mem_of_getElem? ha) hv (fun _ e => by cases e) (fun _ _ e => by cases e)
  refine f _ _ m _ _ r t (g.put ha hv (fun _ e => by cases e) (fun _ _ e => by cases e) ⟨vs', upd_same, Rels.mono t.tp _ _ h, hl⟩) (Rel.mono t.tp _ _ hd)
/-- the list at a cell -/
def lstOf (S : Sto) (n : Nat) : Option (List D) := match S[n]? with
  | some (.lst ds) => some ds
  | _ => none
theorem Good.lst (g : Good G H m S) {n : Nat} {ds : List D} (h : lstOf S n = some ds) : ∃ a vs, m[n]? = some a ∧ SqL G.K H a vs ∧ Rels G H m ds vs ∧ ds.length ≤ sizeLine := by
  unfold lstOf at h
  cases hc : S[n]? with
  | none => rw [hc] at h; cases h
  | some c =>
    rw [hc] at h
    obtain ⟨a, ha, ok⟩ := g.at hc
    cases c with
    | lst xs => cases h; obtain ⟨vs, e, r, l⟩ := ok; exact ⟨a, vs, ha, .of e, r, l⟩
    | dct _ => cases h
theorem Good.lstM (g : Good G H m S) {n : Nat} {ds : List D} (h : S[n]? = some (.lst ds)) : ∃ a vs, m[n]? = some a ∧ H a = some (.lst vs) ∧ Rels G H m ds vs ∧ ds.length ≤ sizeLine := by
  obtain ⟨a, ha, vs, e, r, l⟩ := g.at h
  exact ⟨a, vs, ha, e, r, l⟩
theorem Good.dct (g : Good G H m S) {n : Nat} {ks : List (L2.Key × D)} (h : S[n]? = some (.dct ks)) : ∃ a vs, m[n]? = some a ∧ H a = some (.dK vs) ∧ Kvs G H m ks vs ∧ ks.length ≤ sizeLine := by
  obtain ⟨a, ha, vs, e, r, l⟩ := g.at h
  exact ⟨a, vs, ha, e, r, l⟩
theorem Rel.ref_inj {n : Nat} {v : V} {a : Addr} (h : Rel G H m (.ref n) v) (ha : m[n]? = some a) : v = .ref a := by
  obtain ⟨b, hb, e⟩ := h
  rw [ha] at hb; cases hb; exact e
end

/-! ### weakening -/
section
variable {X : Cx}
theorem PE.imp {e : Expr} {t t' : TE} (h : PE X e t) (i : ∀ σ H Q, t' σ H Q → t σ H Q) : PE X e t' := ⟨fun pins s σ H Q I q => h.run pins s σ H Q I (i _ _ _ q)⟩
theorem PT.imp {e : Expr} {t t' : TT} (h : PT X e t) (i : ∀ σ H Q, t' σ H Q → t σ H Q) : PT X e t' := ⟨fun pins s σ H Q I q => h.run pins s σ H Q I (i _ _ _ q)⟩
theorem PW.imp {e : Expr} {t t' : TT} (h : PW X e t) (i : ∀ σ H Q, t' σ H Q → t σ H Q) : PW X e t' := ⟨fun wh pins s σ H Q I q => h.run wh pins s σ H Q I (i _ _ _ q)⟩
theorem PA.imp {e : List Expr} {t t' : TA} (h : PA X e t) (i : ∀ σ H Q, t' σ H Q → t σ H Q) : PA X e t' := ⟨fun pos pins s σ H Q I q => h.run pos pins s σ H Q I (i _ _ _ q)⟩
theorem PS.imp {e : Stmt} {t t' : TS} (h : PS X e t) (i : ∀ D σ H, t' D σ H → t D σ H) : PS X e t' := ⟨fun pins s σ H D I q => h.run pins s σ H D I (i _ _ _ q)⟩
theorem PSs.imp {e : List Stmt} {t t' : TS} (h : PSs X e t) (i : ∀ D σ H, t' D σ H → t D σ H) : PSs X e t' := ⟨fun pins s σ H D I q => h.run pins s σ H D I (i _ _ _ q)⟩
theorem PG.imp {e : Expr} {t t' : TG} (h : PG X e t) (i : ∀ v σ H Q, t' v σ H Q → t v σ H Q) : PG X e t' := ⟨fun pins s σ H v u Q I r q => h.run pins s σ H v u Q I r (i _ _ _ _ q)⟩
end
end Ip

-- P3
set_option Elab.async false
set_option linter.all false
set_option maxRecDepth 100000
namespace Ip
open PySem L2 PyProof.Rows

/-! ### the meaning of operators over data -/
def mapO {α β : Type} (f : α → Option β) : List α → Option (List β)
  | [] => some []
  | a :: r => match f a, mapO f r with
    | some b, some s => some (b :: s)
    | _, _ => none
/-- data without references, for == : at most n deep -/
def toPy (S : Sto) : Nat → D → Option PyData
  | _, .non => some .none
  | _, .bl b => some (.bool b)
  | _, .int i => some (.int i)
  | _, .str x => if PyData.strOk x then some (.str x) else none
  | n + 1, .tup ds => (mapO (toPy S n) ds).map .tuple
  | n + 1, .ro ds => (mapO (toPy S n) ds).map .list
  | n + 1, .ref r => match lstOf S r with
    | some ds => (mapO (toPy S n) ds).map .list
    | none => none
  | _, _ => none

theorem toPy_shape {S : Sto} : ∀ (n : Nat) (d : D) (p : PyData), toPy S n d = some p → p.canLay0 = true ∧ p.depth ≤ n := by
  intro n
  induction n with
  | zero =>
    intro d p h
    cases d <;> simp [toPy] at h
    all_goals first | (subst h; simp [PyData.canLay0, PyData.depth]) | (obtain ⟨h1, h2⟩ := h; subst h2; simp [PyData.canLay0, PyData.depth, h1])
  | succ n ih =>
    have all : ∀ (ds : List D) (ps : List PyData), mapO (toPy S n) ds = some ps → PyData.canLayAll0 ps = true ∧ PyData.depthAll ps ≤ n := by
      intro ds
      induction ds with
      | nil => intro ps h; simp [mapO] at h; subst h; simp [PyData.canLayAll0, PyData.depthAll]
      | cons d ds ih2 =>
        intro ps h
        simp only [mapO] at h
        cases h1 : toPy S n d with
        | none => rw [h1] at h; cases h
        | some q =>
          cases h2 : mapO (toPy S n) ds with
          | none => rw [h1, h2] at h; cases h
          | some qs =>
            rw [h1, h2] at h
            simp at h
            subst h
            have a := ih d q h1
            have b := ih2 qs h2
            simp only [PyData.canLayAll0, PyData.depthAll, a.1, b.1, Bool.and_self, true_and]
            exact Nat.max_le.mpr ⟨a.2, b.2⟩
    intro d p h
    cases d with
    | non => simp [toPy] at h; subst h; simp [PyData.canLay0, PyData.depth]
    | bl b => simp [toPy] at h; subst h; simp [PyData.canLay0, PyData.depth]
    | int i => simp [toPy] at h; subst h; simp [PyData.canLay0, PyData.depth]
    | str x => simp [toPy] at h; obtain ⟨h1, h2⟩ := h; subst h2; simp [PyData.canLay0, PyData.depth, h1]
    | fn f => simp [toPy] at h
    | tup ds =>
      simp only [toPy] at h
      cases h2 : mapO (toPy S n) ds with
      | none => rw [h2] at h; cases h
      | some qs =>
        rw [h2] at h
        simp at h
        subst h
        have := all ds qs h2
        simp only [PyData.canLay0, PyData.depth]
        exact ⟨this.1, Nat.succ_le_succ this.2⟩
    | ro ds =>
      simp only [toPy] at h
      cases h2 : mapO (toPy S n) ds with
      | none => rw [h2] at h; cases h
      | some qs =>
        rw [h2] at h
        simp at h
        subst h
        have := all ds qs h2
        simp only [PyData.canLay0, PyData.depth]
        exact ⟨this.1, Nat.succ_le_succ this.2⟩
    | ref r =>
      simp only [toPy] at h
      cases h0 : lstOf S r with
      | none => rw [h0] at h; cases h
      | some ds =>
        rw [h0] at h
        simp only at h
        cases h2 : mapO (toPy S n) ds with
        | none => rw [h2] at h; cases h
        | some qs =>
          rw [h2] at h
          simp at h
          subst h
          have := all ds qs h2
          simp only [PyData.canLay0, PyData.depth]
          exact ⟨this.1, Nat.succ_le_succ this.2⟩
theorem toPy_shaped {S : Sto} {d : D} {p : PyData} (h : toPy S 60 d = some p) : SeqAt.shaped p = true := by
  have := toPy_shape 60 d p h
  unfold SeqAt.shaped
  rw [this.1]
  simp
  omega
section
variable {G : Adr} {H : Hp} {m : List Addr} {S : Sto}
theorem toPy_dp (g : Good G H m S) : ∀ (n : Nat) (d : D) (p : PyData) (v : V), toPy S n d = some p → Rel G H m d v → Dp G.K H v p := by
  intro n
  induction n with
  | zero =>
    intro d p v h r
    cases d <;> simp [toPy] at h
    all_goals first
      | (subst h; cases r; constructor)
      | (obtain ⟨h1, h2⟩ := h; subst h2; cases r; constructor)
  | succ n ih =>
    have all : ∀ (ds : List D) (ps : List PyData) (vs : List V), mapO (toPy S n) ds = some ps → Rels G H m ds vs → DpAll G.K H vs ps := by
      intro ds
      induction ds with
      | nil => intro ps vs h r; simp [mapO] at h; subst h; cases r; exact .nil
      | cons d ds ih2 =>
        intro ps vs h r
        simp only [mapO] at h
        obtain ⟨v, vr, rfl, r1, r2⟩ := r
        cases h1 : toPy S n d with
        | none => rw [h1] at h; cases h
        | some q =>
          cases h2 : mapO (toPy S n) ds with
          | none => rw [h1, h2] at h; cases h
          | some qs =>
            rw [h1, h2] at h
            simp at h
            subst h
            exact .cons (ih d q v h1 r1) (ih2 qs vr h2 r2)
    intro d p v h r
    cases d with
    | non => simp [toPy] at h; subst h; cases r; exact .non
    | bl b => simp [toPy] at h; subst h; cases r; exact .bl b
    | int i => simp [toPy] at h; subst h; cases r; exact .int i
    | str x => simp [toPy] at h; obtain ⟨h1, h2⟩ := h; subst h2; cases r; exact .str x
    | fn f => simp [toPy] at h
    | tup ds =>
      simp only [toPy] at h
      obtain ⟨a, vs, rfl, hs, rs⟩ := r
      cases h2 : mapO (toPy S n) ds with
      | none => rw [h2] at h; cases h
      | some qs =>
        rw [h2] at h
        simp at h
        subst h
        exact .tup hs (all ds qs vs h2 rs)
    | ro ds =>
      simp only [toPy] at h
      obtain ⟨a, vs, rfl, hs, rs⟩ := r
      cases h2 : mapO (toPy S n) ds with
      | none => rw [h2] at h; cases h
      | some qs =>
        rw [h2] at h
        simp at h
        subst h
        exact .lst hs.sq (all ds qs vs h2 rs)
    | ref k =>
      simp only [toPy] at h
      cases h0 : lstOf S k with
      | none => rw [h0] at h; cases h
      | some ds =>
        rw [h0] at h
        simp only at h
        obtain ⟨a, vs, ha, hs, rs, _⟩ := g.lst h0
        obtain rfl := Rel.ref_inj r ha
        cases h2 : mapO (toPy S n) ds with
        | none => rw [h2] at h; cases h
        | some qs =>
          rw [h2] at h
          simp at h
          subst h
          exact .lst hs (all ds qs vs h2 rs)
end

def oAdd : D → D → Sto → RD → Prop
  | .int i, .int j, S, R => R (.int (i + j)) S
  | .str i, .str j, S, R => i.length + j.length ≤ sizeLine ∧ R (.str (i ++ j)) S
  | .tup a, .tup b, S, R => a.length + b.length ≤ sizeLine ∧ R (.tup (a ++ b)) S
  | .ref a, .ref b, S, R => ∃ xs ys, S[a]? = some (.lst xs) ∧ S[b]? = some (.lst ys) ∧ xs.length + ys.length ≤ sizeLine ∧ R (.ref S.length) (S ++ [.lst (xs ++ ys)])
  | _, _, _, _ => False
def oSub : D → D → Sto → RD → Prop
  | .int i, .int j, S, R => R (.int (i - j)) S
  | _, _, _, _ => False
def oMul : D → D → Sto → RD → Prop
  | .int i, .int j, S, R => CMulW i j ∧ R (.int (i * j)) S
  | .ref a, .int k, S, R => ∃ xs, S[a]? = some (.lst xs) ∧ -(2 ^ 63) ≤ k ∧ k < 2 ^ 63 ∧ xs.length * k.toNat ≤ sizeLine ∧ R (.ref S.length) (S ++ [.lst (List.replicate k.toNat xs).flatten])
  | .tup ds, .int k, S, R => ds ≠ [] ∧ 2 ≤ k ∧ k ≤ 1000 ∧ ds.length ≤ 1000 ∧ R (.tup (List.replicate k.toNat ds).flatten) S
  | _, _, _, _ => False
def oDiv : D → D → Sto → RD → Prop
  | .int i, .int j, S, R => CDivW i j ∧ R (.int (i / j)) S
  | _, _, _, _ => False
def oMod : D → D → Sto → RD → Prop
  | .int i, .int j, S, R => 0 < j ∧ R (.int (i % j)) S
  | _, _, _, _ => False
def CPowW (i j : Int) : Prop := 0 ≤ j ∧ (Builtin.Int.intBits i : Int) * j ≤ 2 ^ 27
def oPow : D → D → Sto → RD → Prop
  | .int i, .int j, S, R => CPowW i j ∧ R (.int (i ^ j.toNat)) S
  | _, _, _, _ => False
def oBin : Operator → D → D → Sto → RD → Prop
  | .Add => oAdd | .Sub => oSub | .Mult => oMul | .FloorDiv => oDiv | .Mod => oMod | .Pow => oPow
  | _ => fun _ _ _ _ => False
section
variable {X : Cx} {G : Adr}
theorem OpR.imp {f : Value → Value → Sem Value} {r r' : R2} (h : OpR X f r) (i : ∀ x y H Q, r' x y H Q → r x y H Q) : OpR X f r' := fun pins s σ H x y v u Q I rx ry q => h pins s σ H x y v u Q I rx ry (i _ _ _ _ q)
theorem OpR.or' {f : Value → Value → Sem Value} {r r' r'' : R2} (h : OpR X f r) (h' : OpR X f r') (i : ∀ x y H Q, r'' x y H Q → r x y H Q ∨ r' x y H Q) : OpR X f r'' := fun pins s σ H x y v u Q I rx ry q =>
  (i _ _ _ _ q).elim (h pins s σ H x y v u Q I rx ry) (h' pins s σ H x y v u Q I rx ry)
/-- the cases of two data -/
theorem flat_rep {H : Hp} {m : List Addr} {ds : List D} {vs : List V} (h : Rels G H m ds vs) : ∀ n : Nat, Rels G H m (List.replicate n ds).flatten (List.replicate n vs).flatten
  | 0 => rfl
  | n + 1 => by
    rw [List.replicate_succ, List.replicate_succ, List.flatten_cons, List.flatten_cons]
    exact h.append (flat_rep h n)
theorem Rels.nil_iff {H : Hp} {m : List Addr} {ds : List D} {vs : List V} (h : Rels G H m ds vs) : vs = [] ↔ ds = [] := by
  have := Rels.length h
  constructor
  · intro e; subst e; exact List.eq_nil_of_length_eq_zero this.symm
  · intro e; subst e; exact List.eq_nil_of_length_eq_zero this
theorem bin_add (hK : X.K = G.K) : OpR X (binaryOp .Add) (lift2 G oAdd) := by
  intro pins s σ H x y v u Q I rx ry h
  obtain ⟨m, S, R, dx, dy, g, hx, hy, o, f⟩ := h
  unfold oAdd at o
  split at o
  · cases hx; cases hy
    exact op_add pins s σ H _ _ v u Q I rx ry ⟨_, _, rfl, rfl, f.now g o rfl⟩
  · cases hx; cases hy
    exact op_add_str pins s σ H _ _ v u Q I rx ry ⟨_, _, rfl, rfl, o.1, f.now g o.2 rfl⟩
  · rename_i a b S' R'
    obtain ⟨o1, o2⟩ := o
    have l1 : ∀ {ds : List D} {vs : List V}, Rels G H m ds vs → vs.length = ds.length := fun h => Rels.length h
    obtain ⟨pa, va, rfl, sa, ra⟩ := hx
    obtain ⟨pb, vb, rfl, sb, rb⟩ := hy
    rw [← hK] at sa sb
    refine op_catA pins s σ H _ _ v u Q I rx ry ⟨pa, pb, va, vb, rfl, rfl, sa, sb, ?_, fun e => ?_, fun e e' => ?_, fun e e' p hp => ?_⟩
    · rw [l1 ra, l1 rb]; exact o1
    · have := ra.nil_iff.mp e; subst this
      exact f.now g o2 ⟨pb, vb, rfl, hK ▸ sb, rb⟩
    · have := rb.nil_iff.mp e'; subst this
      rw [List.append_nil] at o2
      exact f.now g o2 ⟨pa, va, rfl, hK ▸ sa, ra⟩
    · exact f.tup g o2 (ra.append rb) hp
  · obtain ⟨xs, ys, h1, h2, hl, o⟩ := o
    obtain ⟨pa, va, ha, sa, ra, la⟩ := g.lstM h1
    obtain ⟨pb, vb, hb, sb, rb, lb⟩ := g.lstM h2
    obtain rfl := Rel.ref_inj hx ha
    obtain rfl := Rel.ref_inj hy hb
    have e1 := Rels.length ra
    have e2 := Rels.length rb
    exact op_cat pins s σ H _ _ v u Q I rx ry ⟨pa, pb, va, vb, rfl, rfl, sa, sb, by omega, fun p hp => f.lst g o (ra.append rb) (by simpa using hl) hp⟩
  · exact o.elim
theorem bin_sub : OpR X (binaryOp .Sub) (lift2 G oSub) := by
  intro pins s σ H x y v u Q I rx ry h
  obtain ⟨m, S, R, dx, dy, g, hx, hy, o, f⟩ := h
  unfold oSub at o
  split at o
  · cases hx; cases hy
    exact op_sub pins s σ H _ _ v u Q I rx ry ⟨_, _, rfl, rfl, f.now g o rfl⟩
  · exact o.elim
theorem bin_mul (hK : X.K = G.K) : OpR X (binaryOp .Mult) (lift2 G oMul) := by
  intro pins s σ H x y v u Q I rx ry h
  obtain ⟨m, S, R, dx, dy, g, hx, hy, o, f⟩ := h
  unfold oMul at o
  split at o
  · cases hx; cases hy
    exact op_mulW pins s σ H _ _ v u Q I rx ry ⟨_, _, rfl, rfl, o.1, f.now g o.2 rfl⟩
  · obtain ⟨xs, h1, k1, k2, hl, o⟩ := o
    obtain ⟨pa, va, ha, sa, ra, la⟩ := g.lstM h1
    obtain rfl := Rel.ref_inj hx ha
    cases hy
    have e1 := Rels.length ra
    refine op_rep pins s σ H _ _ v u Q I rx ry ⟨pa, _, va, rfl, rfl, sa, k1, k2, by rw [e1]; exact hl, fun p hp => f.lst g o (flat_rep ra _) ?_ hp⟩
    simp only [List.length_flatten, List.map_replicate, List.sum_replicate_nat]
    rw [Nat.mul_comm]
    exact hl
  · obtain ⟨h0, k1, k2, k3, o⟩ := o
    obtain ⟨pa, va, rfl, sa, ra⟩ := hx
    cases hy
    have e1 := Rels.length ra
    rw [← hK] at sa
    exact op_repT pins s σ H _ _ v u Q I rx ry ⟨pa, _, va, rfl, rfl, sa, fun e => h0 (ra.nil_iff.mp e), k1, k2, by rw [e1]; exact k3, fun p hp => f.tup g o (flat_rep ra _) hp⟩
  · exact o.elim
theorem bin_div : OpR X (binaryOp .FloorDiv) (lift2 G oDiv) := by
  intro pins s σ H x y v u Q I rx ry h
  obtain ⟨m, S, R, dx, dy, g, hx, hy, o, f⟩ := h
  unfold oDiv at o
  split at o
  · cases hx; cases hy
    exact op_fdivW pins s σ H _ _ v u Q I rx ry ⟨_, _, rfl, rfl, o.1, f.now g o.2 rfl⟩
  · exact o.elim
theorem bin_mod : OpR X (binaryOp .Mod) (lift2 G oMod) := by
  intro pins s σ H x y v u Q I rx ry h
  obtain ⟨m, S, R, dx, dy, g, hx, hy, o, f⟩ := h
  unfold oMod at o
  split at o
  · cases hx; cases hy
    exact op_mod pins s σ H _ _ v u Q I rx ry ⟨_, _, rfl, rfl, o.1, f.now g o.2 rfl⟩
  · exact o.elim
theorem op_powW : OpR X (binaryOp .Pow) (rI CPowW fun i j => .int (i ^ j.toNat)) := opI fun _ _ _ _ _ _ _ hc q => pow_int hc.1 hc.2 q
theorem bin_pow : OpR X (binaryOp .Pow) (lift2 G oPow) := by
  intro pins s σ H x y v u Q I rx ry h
  obtain ⟨m, S, R, dx, dy, g, hx, hy, o, f⟩ := h
  unfold oPow at o
  split at o
  · cases hx; cases hy
    exact op_powW pins s σ H _ _ v u Q I rx ry ⟨_, _, rfl, rfl, o.1, f.now g o.2 rfl⟩
  · exact o.elim
theorem OpR.never {f : Value → Value → Sem Value} : OpR X f (lift2 G fun _ _ _ _ => False) := by
  intro pins s σ H x y v u Q I rx ry h
  obtain ⟨m, S, R, dx, dy, g, hx, hy, o, f⟩ := h
  exact o.elim
theorem bin_ok (hK : X.K = G.K) (op : Operator) : OpR X (binaryOp op) (lift2 G (oBin op)) := by
  cases op
  case Add => exact bin_add hK
  case Sub => exact bin_sub
  case Mult => exact bin_mul hK
  case FloorDiv => exact bin_div
  case Mod => exact bin_mod
  case Pow => exact bin_pow
  all_goals exact OpR.never
end
end Ip

-- P4
set_option Elab.async false
set_option linter.all false
set_option maxRecDepth 100000
namespace Ip
open PySem L2 PyProof.Rows

/-! ### comparisons -/
def flatD : D → Bool
  | .non => true | .bl _ => true | .int _ => true | .str _ => true | _ => false
def eqF : D → D → Bool
  | .non, .non => true
  | .bl a, .bl b => a == b
  | .bl a, .int b => (if a then 1 else 0) == b
  | .int a, .bl b => a == (if b then 1 else 0)
  | .int a, .int b => a == b
  | .str a, .str b => a == b
  | _, _ => false
def isNon : D → Bool
  | .non => true
  | _ => false
def cEq (f : Bool → Bool) : D → D → Sto → RD → Prop := fun x y S R => ∃ p q, toPy S 60 x = some p ∧ toPy S 60 y = some q ∧ R (.bl (f (PyData.eqv p q))) S
def intsOf : List D → Option (List Int)
  | [] => some []
  | .int i :: r => (intsOf r).map (i :: ·)
  | _ => none
def cLt : D → D → Sto → RD → Prop
  | .int i, .int j, S, R => R (.bl (decide (i < j))) S
  | .str i, .str j, S, R => R (.bl (decide (i.cps.toList < j.cps.toList))) S
  | .tup a, .tup b, S, R => ∃ ns ms, a = ns.map D.int ∧ b = ms.map D.int ∧ R (.bl (HT.lexLt ns ms)) S
  | _, _, _, _ => False
def cInt (f : Int → Int → Bool) : D → D → Sto → RD → Prop
  | .int i, .int j, S, R => R (.bl (f i j)) S
  | _, _, _, _ => False
/-- a dict's key: an int or a text -/
def keyD : D → Option L2.Key
  | .int i => some (.inl i)
  | .str x => some (.inr x)
  | _ => none
def cIn (f : Bool → Bool) : D → D → Sto → RD → Prop
  | .str i, .str j, S, R => R (.bl (f (!(Builtin.Str.occurrences j i 0 j.length 1).isEmpty))) S
  | x, .tup ds, S, R => flatD x = true ∧ ds.all flatD = true ∧ R (.bl (f (ds.any fun z => eqF z x))) S
  | x, .ref n, S, R => (∃ ds, lstOf S n = some ds ∧ ((flatD x = true ∧ ds.all flatD = true ∧ R (.bl (f (ds.any fun z => eqF z x))) S) ∨
      ∃ p ps, toPy S 60 x = some p ∧ mapO (toPy S 59) ds = some ps ∧ R (.bl (f (ps.any fun z => PyData.eqv z p))) S)) ∨
      ∃ ks k, S[n]? = some (.dct ks) ∧ keyD x = some k ∧ R (.bl (f (ks.any fun p => decide (p.1 = k)))) S
  | _, _, _, _ => False
def cIs (f : Bool → Bool) : D → D → Sto → RD → Prop
  | x, .non, S, R => R (.bl (f (isNon x))) S
  | .bl a, .bl b, S, R => R (.bl (f (decide (a = b)))) S
  | _, _, _, _ => False
def oCmp : CmpOp → D → D → Sto → RD → Prop
  | .Eq => cEq id
  | .NotEq => cEq (!·)
  | .Lt => cLt
  | .LtE => cInt fun i j => decide (i ≤ j)
  | .Gt => cInt fun i j => decide (j < i)
  | .GtE => cInt fun i j => decide (j ≤ i)
  | .In => cIn id
  | .NotIn => cIn (!·)
  | .Is => cIs id
  | .IsNot => cIs (!·)
section
variable {X : Cx} {G : Adr} {H : Hp} {m : List Addr} {S : Sto}
theorem Rel.flat {d : D} {v : V} (r : Rel G H m d v) (h : flatD d = true) : flatV v = true := by
  cases d <;> first | (cases r; rfl) | cases h
theorem Rels.flat : ∀ {ds : List D} {vs : List V}, Rels G H m ds vs → ds.all flatD = true → vs.all flatV = true
  | [], _, h, _ => by cases h; rfl
  | d :: ds, _, ⟨v, r, e, h1, h2⟩, f => by
    subst e
    rw [List.all_cons, Bool.and_eq_true] at f ⊢
    exact ⟨h1.flat f.1, Rels.flat h2 f.2⟩
theorem eqF_of {d z : D} {v w : V} (r : Rel G H m d v) (r' : Rel G H m z w) (h : flatD d = true) (h' : flatD z = true) : eqV w v = eqF z d := by
  cases d <;> cases h <;> cases r <;> cases z <;> cases h' <;> cases r' <;> rfl
theorem inV_of {d : D} {v : V} (r : Rel G H m d v) (h : flatD d = true) : ∀ {ds : List D} {vs : List V}, Rels G H m ds vs → ds.all flatD = true → inV v vs = ds.any fun z => eqF z d
  | [], _, q, _ => by cases q; rfl
  | z :: ds, _, ⟨w, r', e, h1, h2⟩, f => by
    subst e
    rw [List.all_cons, Bool.and_eq_true] at f
    have := inV_of r h h2 f.2
    unfold inV at this ⊢
    rw [List.any_cons, List.any_cons, eqF_of r h1 h f.1, this]
theorem rels_ints : ∀ {ns : List Int} {vs : List V}, Rels G H m (ns.map D.int) vs → vs = ns.map V.int
  | [], _, h => by cases h; rfl
  | n :: ns, _, ⟨v, r, e, h1, h2⟩ => by
    subst e
    cases h1
    rw [rels_ints h2]
    rfl
theorem cmp_eq (hK : X.K = G.K) (hu : X.A.units + 64 < cLine) : OpR X (compareOp .Eq) (lift2 G (cEq id)) := by
  intro pins s σ H x y v u Q I rx ry h
  obtain ⟨m, S, R, dx, dy, g, hx, hy, ⟨p, q, h1, h2, o⟩, f⟩ := h
  refine op_eqD hu pins s σ H x y v u Q I rx ry ⟨p, q, ?_, ?_, toPy_shaped h1, toPy_shaped h2, f.now g o rfl⟩
  · rw [hK]; exact toPy_dp g 60 _ _ _ h1 hx
  · rw [hK]; exact toPy_dp g 60 _ _ _ h2 hy
theorem cmp_ne (hK : X.K = G.K) (hu : X.A.units + 64 < cLine) : OpR X (compareOp .NotEq) (lift2 G (cEq (!·))) := by
  intro pins s σ H x y v u Q I rx ry h
  obtain ⟨m, S, R, dx, dy, g, hx, hy, ⟨p, q, h1, h2, o⟩, f⟩ := h
  refine op_neD hu pins s σ H x y v u Q I rx ry ⟨p, q, ?_, ?_, toPy_shaped h1, toPy_shaped h2, f.now g o rfl⟩
  · rw [hK]; exact toPy_dp g 60 _ _ _ h1 hx
  · rw [hK]; exact toPy_dp g 60 _ _ _ h2 hy
theorem cmp_lt (hK : X.K = G.K) (hu : X.A.units + 64 < cLine) : OpR X (compareOp .Lt) (lift2 G cLt) := by
  intro pins s σ H x y v u Q I rx ry h
  obtain ⟨m, S, R, dx, dy, g, hx, hy, o, f⟩ := h
  unfold cLt at o
  split at o
  · cases hx; cases hy
    exact op_lt pins s σ H _ _ v u Q I rx ry ⟨_, _, rfl, rfl, f.now g o rfl⟩
  · cases hx; cases hy
    exact op_lt_str pins s σ H _ _ v u Q I rx ry ⟨_, _, rfl, rfl, f.now g o rfl⟩
  · obtain ⟨ns, ms, rfl, rfl, o⟩ := o
    obtain ⟨pa, va, rfl, sa, ra⟩ := hx
    obtain ⟨pb, vb, rfl, sb, rb⟩ := hy
    rw [rels_ints ra, ← hK] at sa
    rw [rels_ints rb, ← hK] at sb
    exact op_ltT (by omega) pins s σ H _ _ v u Q I rx ry ⟨pa, pb, ns, ms, rfl, rfl, sa, sb, f.now g o rfl⟩
  · exact o.elim
theorem cmp_int {op : CmpOp} {p : Int → Int → Bool} (ho : OpR X (compareOp op) (rI0 fun i j => .bl (p i j))) : OpR X (compareOp op) (lift2 G (cInt p)) := by
  intro pins s σ H x y v u Q I rx ry h
  obtain ⟨m, S, R, dx, dy, g, hx, hy, o, f⟩ := h
  unfold cInt at o
  split at o
  · cases hx; cases hy
    exact ho pins s σ H _ _ v u Q I rx ry ⟨_, _, rfl, rfl, f.now g o rfl⟩
  · exact o.elim
theorem keyD_rel {d : D} {v : V} {k : L2.Key} (h : keyD d = some k) (r : Rel G H m d v) : v = kV k := by
  cases d <;> simp only [keyD, Option.some.injEq, reduceCtorEq] at h <;> subst h <;> cases r <;> rfl
theorem cmp_in (hK : X.K = G.K) (hu : X.A.units + 65 < cLine) : OpR X (compareOp .In) (lift2 G (cIn id)) := by
  intro pins s σ H x y v u Q I rx ry h
  obtain ⟨m, S, R, dx, dy, g, hx, hy, o, f⟩ := h
  unfold cIn at o
  split at o
  · cases hx; cases hy
    exact op_in_str pins s σ H _ _ v u Q I rx ry ⟨_, _, rfl, rfl, f.now g o rfl⟩
  · obtain ⟨f1, f2, o⟩ := o
    obtain ⟨pb, vb, rfl, sb, rb⟩ := hy
    rw [← hK] at sb
    refine op_in_seq pins s σ H _ _ v u Q I rx ry ⟨pb, vb, rfl, .inr sb, hx.flat f1, rb.flat f2, ?_⟩
    rw [if_neg (by decide), inV_of hx f1 rb f2]
    exact f.now g o rfl
  · rename_i n
    rcases o with ⟨ds, h0, o⟩ | ⟨ks, k, h0, hk, o⟩
    case inr =>
      obtain ⟨pb, vb, hb, sb, rb, _⟩ := g.dct h0
      obtain rfl := Rel.ref_inj hy hb
      obtain rfl := keyD_rel hk hx
      cases ry
      refine d_in (by omega) I (.k sb) rx fun s' I' => ⟨.bl _, H, I', rfl, f.now g o ?_⟩
      rw [← valV_any, Kvs.any k rb]; rfl
    obtain ⟨pb, vb, hb, sb, rb, _⟩ := g.lst h0
    obtain rfl := Rel.ref_inj hy hb
    rw [← hK] at sb
    rcases o with ⟨f1, f2, o⟩ | ⟨p, ps, h1, h2, o⟩
    · refine op_in_seq pins s σ H _ _ v u Q I rx ry ⟨pb, vb, rfl, .inl sb, hx.flat f1, rb.flat f2, ?_⟩
      rw [if_neg (by decide), inV_of hx f1 rb f2]
      exact f.now g o rfl
    · have h2' : toPy S 60 (.ref n) = some (.list ps) := by
        simp only [toPy, h0, h2, Option.map_some]
      refine op_inD hu pins s σ H _ _ v u Q I rx ry ⟨p, ps, ?_, ?_, toPy_shaped h1, toPy_shaped h2', f.now g o rfl⟩
      · rw [hK]; exact toPy_dp g 60 _ _ _ h1 hx
      · rw [hK]; exact toPy_dp g 60 _ _ _ h2' hy
  · exact o.elim
theorem cmp_nin (hK : X.K = G.K) (hu : X.A.units + 65 < cLine) : OpR X (compareOp .NotIn) (lift2 G (cIn (!·))) := by
  intro pins s σ H x y v u Q I rx ry h
  obtain ⟨m, S, R, dx, dy, g, hx, hy, o, f⟩ := h
  unfold cIn at o
  split at o
  · cases hx; cases hy
    exact op_notin_str pins s σ H _ _ v u Q I rx ry ⟨_, _, rfl, rfl, f.now g o rfl⟩
  · obtain ⟨f1, f2, o⟩ := o
    obtain ⟨pb, vb, rfl, sb, rb⟩ := hy
    rw [← hK] at sb
    refine op_notIn_seq pins s σ H _ _ v u Q I rx ry ⟨pb, vb, rfl, .inr sb, hx.flat f1, rb.flat f2, ?_⟩
    rw [if_pos rfl, inV_of hx f1 rb f2]
    exact f.now g o rfl
  · rename_i n
    rcases o with ⟨ds, h0, o⟩ | ⟨ks, k, h0, hk, o⟩
    case inr =>
      obtain ⟨pb, vb, hb, sb, rb, _⟩ := g.dct h0
      obtain rfl := Rel.ref_inj hy hb
      obtain rfl := keyD_rel hk hx
      cases ry
      refine d_notIn (by omega) I (.k sb) rx fun s' I' => ⟨.bl _, H, I', rfl, f.now g o ?_⟩
      rw [← valV_any, Kvs.any k rb]; rfl
    obtain ⟨pb, vb, hb, sb, rb, _⟩ := g.lst h0
    obtain rfl := Rel.ref_inj hy hb
    rw [← hK] at sb
    rcases o with ⟨f1, f2, o⟩ | ⟨p, ps, h1, h2, o⟩
    · refine op_notIn_seq pins s σ H _ _ v u Q I rx ry ⟨pb, vb, rfl, .inl sb, hx.flat f1, rb.flat f2, ?_⟩
      rw [if_pos rfl, inV_of hx f1 rb f2]
      exact f.now g o rfl
    · have h2' : toPy S 60 (.ref n) = some (.list ps) := by
        simp only [toPy, h0, h2, Option.map_some]
      refine op_notInD hu pins s σ H _ _ v u Q I rx ry ⟨p, ps, ?_, ?_, toPy_shaped h1, toPy_shaped h2', f.now g o rfl⟩
      · rw [hK]; exact toPy_dp g 60 _ _ _ h1 hx
      · rw [hK]; exact toPy_dp g 60 _ _ _ h2' hy
  · exact o.elim
theorem isNon_of {d : D} {v : V} (r : Rel G H m d v) : decide (v = .non) = isNon d := by
  cases d <;> first | (cases r; rfl) | (obtain ⟨a, vs, rfl, _⟩ := r; rfl) | (obtain ⟨a, _, rfl⟩ := r; rfl) | (obtain ⟨rfl, _⟩ := r; rfl)
theorem cmp_is : OpR X (compareOp .Is) (lift2 G (cIs id)) := by
  intro pins s σ H x y v u Q I rx ry h
  obtain ⟨m, S, R, dx, dy, g, hx, hy, o, f⟩ := h
  unfold cIs at o
  split at o
  · cases hy
    refine op_isN pins s σ H _ _ v u Q I rx ry ⟨rfl, ?_⟩
    rw [isNon_of hx]
    exact f.now g o rfl
  · cases hx; cases hy
    exact op_is_bl pins s σ H _ _ v u Q I rx ry ⟨_, _, rfl, rfl, f.now g o rfl⟩
  · exact o.elim
theorem cmp_isnot : OpR X (compareOp .IsNot) (lift2 G (cIs (!·))) := by
  intro pins s σ H x y v u Q I rx ry h
  obtain ⟨m, S, R, dx, dy, g, hx, hy, o, f⟩ := h
  unfold cIs at o
  split at o
  · cases hy
    refine op_notN pins s σ H _ _ v u Q I rx ry ⟨rfl, ?_⟩
    rw [isNon_of hx]
    exact f.now g o rfl
  · cases hx; cases hy
    exact op_isnot_bl pins s σ H _ _ v u Q I rx ry ⟨_, _, rfl, rfl, f.now g o rfl⟩
  · exact o.elim
theorem cmp_ok (hK : X.K = G.K) (hu : X.A.units + 65 < cLine) (op : CmpOp) : OpR X (compareOp op) (lift2 G (oCmp op)) := by
  cases op
  case Eq => exact cmp_eq hK (by omega)
  case NotEq => exact cmp_ne hK (by omega)
  case Lt => exact cmp_lt hK (by omega)
  case LtE => exact cmp_int op_le
  case Gt => exact cmp_int op_gt
  case GtE => exact cmp_int op_ge
  case In => exact cmp_in hK hu
  case NotIn => exact cmp_nin hK hu
  case Is => exact cmp_is
  case IsNot => exact cmp_isnot

/-! ### truth -/
def TruD : D → Sto → Bool → Prop
  | .non, _, k => k = false
  | .bl b, _, k => k = b
  | .int i, _, k => k = (i != 0)
  | .str y, _, k => y.length ≤ sizeLine ∧ k = ((y.length : Int) != 0)
  | .tup ds, _, k => k = !ds.isEmpty
  | .ro ds, _, k => k = !ds.isEmpty
  | .ref n, S, k => ∃ ds, lstOf S n = some ds ∧ k = !ds.isEmpty
  | .fn _, _, _ => False
theorem Rels.isEmpty {ds : List D} {vs : List V} (h : Rels G H m ds vs) : vs.isEmpty = ds.isEmpty := by
  cases ds with
  | nil => cases h; rfl
  | cons d ds => obtain ⟨v, r, rfl, _⟩ := h; rfl
theorem TruD.v {d : D} {v : V} {k : Bool} (g : Good G H m S) (r : Rel G H m d v) (t : TruD d S k) : TruV G.K v H k := by
  cases d with
  | non => cases r; exact t
  | bl b => cases r; exact t
  | int i => cases r; exact t
  | str y => cases r; exact t
  | tup ds =>
    obtain ⟨a, vs, rfl, hs, rs⟩ := r
    exact .inr (.inl ⟨vs, hs, by rw [rs.isEmpty]; exact t⟩)
  | ro ds =>
    obtain ⟨a, vs, rfl, hs, rs⟩ := r
    exact .inl ⟨vs, hs.sq, by rw [rs.isEmpty]; exact t⟩
  | ref n =>
    obtain ⟨ds, h0, e⟩ := t
    obtain ⟨a, vs, ha, hs, rs, _⟩ := g.lst h0
    obtain rfl := Rel.ref_inj r ha
    exact .inl ⟨vs, hs, by rw [rs.isEmpty]; exact e⟩
  | fn f => exact t.elim
end
end Ip

-- P5
set_option Elab.async false
set_option linter.all false
set_option maxRecDepth 100000
namespace Ip
open PySem L2 PyProof.Rows

/-! ### the program's text, compact: slots for names, numbers for defs -/
inductive Tg where
  | name (i : Nat)
  | nil
  | cons (t : Tg) (r : Tg)
/-- built-in calls -/
inductive Bi where
  | len | sum | min2 | max2 | min1 | max1 | abs | all | any | int | tuple | list | gcd | repr | set | sorted | str | bool
  deriving DecidableEq
inductive Me where
  | append | extend | pop | popAt | index | insert
  deriving DecidableEq
inductive Ty where
  | int | bool | str | tuple | list | dict
  deriving DecidableEq
mutual
inductive CE where
  | lit (d : D) | var (i : Nat) | glo (d : D) | fnv (f : Nat)
  | tup (es : CEs) | lst (es : CEs)
  | bin (op : Operator) (a b : CE) | cmp (op : CmpOp) (a b : CE) | chain (op op' : CmpOp) (a b c : CE)
  | and (a b : CE) | or (a b : CE) | not (a : CE) | neg (a : CE)
  | ite (c : CT) (a b : CE)
  | idx (a i : CE) | sl (a : CE) (lo hi : CO)
  | call (f : Nat) (es : CEs) | callk (f n : Nat) (perm : List Nat) (es : CEs) | callv (i : Nat) (es : CEs) | bi (b : Bi) (es : CEs) | meth (me : Me) (o : CE) (es : CEs) | isI (a : CE) (t : Ty)
  | comp (vs : List Nat) (tg : Tg) (it : CI) (c : CF) (elt : CE)
  | comp2 (vs : List Nat) (tg : Tg) (it : CI) (c : CF) (vs1 : List Nat) (tg1 : Tg) (it1 : CI) (c1 : CF) (elt : CE)
  | dcomp (vs : List Nat) (tg : Tg) (it : CI) (c : CF) (kx vx : CE)
  | lenSet (a : CE) | sortSet (a : CE) | rev (a : CE) | dnew
inductive CEs where
  | nil | cons (e : CE) (r : CEs) | star (e : CE) (r : CEs)
inductive CT where
  | cmp (op : CmpOp) (a b : CE) | chain (op op' : CmpOp) (a b c : CE) | and (a b : CT) | or (a b : CT) | not (a : CT) | val (e : CE)
inductive CO where
  | none | some (e : CE)
inductive CI where
  | of (e : CE) | range1 (a : CE) | range2 (a b : CE) | enum (a : CE) | zip (a b : CE)
inductive CF where
  | none | one (c : CT)
end
inductive CS where
  | expr (e : CE) | asg (tg : Tg) (e : CE) | par2 (i j : Nat) (a b : CE) | par3 (i j k : Nat) (a b c : CE) | put (o i e : CE) | aug (i : Nat) (op : Operator) (e : CE)
  | ife (c : CT) (a b : List CS) | for (tg : Tg) (it : CI) (b : List CS) | while (c : CT) (b : List CS)
  | ret (e : CE) | retN | pass | brk | cont | raise (x : Nat)
  | try (b : List CS) (kn : Nat) (hs : List (List Nat × List (Nat × D)))

/-! ### its meaning -/
/-- name op= e: ints -/
def oAug : Operator → D → D → Sto → RD → Prop
  | .Add, .int i, .int j, S, R => R (.int (i + j)) S
  | .Sub, .int i, .int j, S, R => R (.int (i - j)) S
  | .Mult, .int i, .int j, S, R => CMulW i j ∧ R (.int (i * j)) S
  | .FloorDiv, .int i, .int j, S, R => CDivW i j ∧ R (.int (i / j)) S
  | .Mod, .int i, .int j, S, R => 0 < j ∧ R (.int (i % j)) S
  | _, _, _, _, _ => False
abbrev Sem := Nat → List D → Sto → RD → (Exn → Sto → Prop) → Prop
def bindT : Tg → D → Env → Option Env
  | .name i, d, ρ => some (ρ.set i (some d))
  | .nil, d, ρ => match d with
    | .tup [] => some ρ
    | _ => none
  | .cons t r, d, ρ => match d with
    | .tup (x :: xs) => (bindT t x ρ).bind (bindT r (.tup xs))
    | _ => none
def wipeD (ρ : Env) : List Nat → Env
  | [] => ρ
  | v :: vs => (wipeD ρ vs).set v none
def oIx : D → D → Sto → RD → Prop
  | .tup ds, .int i, S, R => ∃ j d, ixN ds.length i = some j ∧ ds[j]? = some d ∧ R d S
  | .ro ds, .int i, S, R => ∃ j d, ixN ds.length i = some j ∧ ds[j]? = some d ∧ R d S
  | .ref n, x, S, R => (∃ i ds j d, x = .int i ∧ lstOf S n = some ds ∧ ixN ds.length i = some j ∧ ds[j]? = some d ∧ R d S) ∨ ∃ ks k d, S[n]? = some (.dct ks) ∧ keyD x = some k ∧ valD ks k = some d ∧ R d S
  | .str z, .int i, S, R => z.length ≤ sizeLine ∧ ∃ j c, ixN z.length i = some j ∧ z.cps[j]? = some c ∧ R (.str ⟨#[c]⟩) S
  | _, _, _, _ => False
def cutD (xs : List D) (lo hi : Option Int) : List D := (xs.drop (HT.sIx xs.length 0 lo)).take (HT.sIx xs.length xs.length hi - HT.sIx xs.length 0 lo)
def oSl : D → Option Int → Option Int → Sto → RD → Prop
  | .tup ds, lo, hi, S, R => R (.tup (cutD ds lo hi)) S
  | .ro ds, lo, hi, S, R => ds.length ≤ sizeLine ∧ R (.ref S.length) (S ++ [.lst (cutD ds lo hi)])
  | .ref n, lo, hi, S, R => ∃ ds, lstOf S n = some ds ∧ R (.ref S.length) (S ++ [.lst (cutD ds lo hi)])
  | _, _, _, _, _ => False
/-- x[::-1] -/
def oRev : D → Sto → RD → Prop
  | .tup ds, S, R => R (.tup ds.reverse) S
  | .ro ds, S, R => ds.length ≤ sizeLine ∧ R (.ref S.length) (S ++ [.lst ds.reverse])
  | .ref n, S, R => ∃ ds, lstOf S n = some ds ∧ R (.ref S.length) (S ++ [.lst ds.reverse])
  | _, _, _ => False
def isTy : Ty → D → Sto → Option Bool
  | .int, .int _, _ => some true
  | .int, .bl _, _ => some true
  | .bool, .bl _, _ => some true
  | .str, .str _, _ => some true
  | .tuple, .tup _, _ => some true
  | .list, .ref n, S => match S[n]? with
    | some (.lst _) => some true
    | some (.dct _) => some false
    | none => none
  | .dict, .ref n, S => match S[n]? with
    | some (.lst _) => some false
    | some (.dct _) => some true
    | none => none
  | t, .ref n, S => match S[n]? with
    | some _ => some false
    | none => none
  | _, .fn _, _ => none
  | _, .ro _, _ => none
  | _, _, _ => some false
def intsOf? : List D → Option (List Int)
  | [] => some []
  | .int i :: r => (intsOf? r).map (i :: ·)
  | _ => none
def blsOf? : List D → Option (List Bool)
  | [] => some []
  | .bl b :: r => (blsOf? r).map (b :: ·)
  | _ => none
/-- the items of a list or tuple -/
def seqOf (S : Sto) : D → Option (List D)
  | .tup ds => some ds
  | .ro ds => some ds
  | .ref n => lstOf S n
  | _ => none
/-- built-in calls by values -/
def oBi : Bi → List D → Sto → RD → Prop
  | .len, [.tup ds], S, R => R (.int ds.length) S
  | .len, [.str z], S, R => z.length ≤ sizeLine ∧ R (.int z.length) S
  | .len, [.ro ds], S, R => R (.int ds.length) S
  | .len, [.ref n], S, R => (∃ ds, lstOf S n = some ds ∧ R (.int ds.length) S) ∨ ∃ ks, S[n]? = some (.dct ks) ∧ R (.int ks.length) S
  | .min2, [.int i, .int j], S, R => R (.int (min i j)) S
  | .max2, [.int i, .int j], S, R => R (.int (max i j)) S
  | .abs, [.int i], S, R => R (.int i.natAbs) S
  | .int, [.int i], S, R => R (.int i) S
  | .int, [.bl b], S, R => R (.int (if b = true then 1 else 0)) S
  | .tuple, [.ref n], S, R => ∃ ds, lstOf S n = some ds ∧ R (.tup ds) S
  | .tuple, [.tup ds], S, R => R (.tup ds) S
  | .list, [.ref n], S, R => ∃ ds, lstOf S n = some ds ∧ R (.ref S.length) (S ++ [.lst ds])
  | .list, [.tup ds], S, R => ds.length ≤ sizeLine ∧ R (.ref S.length) (S ++ [.lst ds])
  | .sum, [.ref n], S, R => ∃ ns : List Int, lstOf S n = some (ns.map .int) ∧ R (.int ns.sum) S
  | .all, [.ref n], S, R => ∃ bs : List Bool, lstOf S n = some (bs.map .bl) ∧ R (.bl (bs.all id)) S
  | .any, [.ref n], S, R => ∃ bs : List Bool, lstOf S n = some (bs.map .bl) ∧ R (.bl (bs.any id)) S
  | .max1, [.ref n], S, R => ∃ ns : List Int, lstOf S n = some (ns.map .int) ∧ 0 < ns.length ∧ ∀ m, m ∈ ns → (∀ y, y ∈ ns → y ≤ m) → R (.int m) S
  | .min1, [.ref n], S, R => ∃ ns : List Int, lstOf S n = some (ns.map .int) ∧ 0 < ns.length ∧ ∀ m, m ∈ ns → (∀ y, y ∈ ns → m ≤ y) → R (.int m) S
  | .gcd, [.int i, .int j], S, R => R (.int (Int.gcd i j)) S
  | .sorted, [.ref n], S, R => ∃ ns : List Int, lstOf S n = some (ns.map .int) ∧ ∀ ms : List Int, ms.Perm ns → ms.Pairwise (· ≤ ·) → R (.ref S.length) (S ++ [.lst (ms.map .int)])
  | .repr, [d], S, R => ∃ p, toPy S 60 d = some p ∧ p.showable = true ∧ p.hasDict = false ∧ p.shown.length ≤ sizeLine ∧ R (.str p.shown) S
  | _, _, _, _ => False
def oMe : Me → D → List D → Sto → RD → Prop
  | .append, .ref n, [d], S, R => ∃ ds, S[n]? = some (.lst ds) ∧ ds.length < sizeLine ∧ R .non (S.set n (.lst (ds ++ [d])))
  | .extend, .ref n, [.ref k], S, R => ∃ ds es, S[n]? = some (.lst ds) ∧ S[k]? = some (.lst es) ∧ ds.length + es.length ≤ sizeLine ∧ R .non (S.set n (.lst (ds ++ es)))
  | .pop, .ref n, [], S, R => ∃ ds d, S[n]? = some (.lst ds) ∧ ds[ds.length - 1]? = some d ∧ R d (S.set n (.lst ds.dropLast))
  | .index, .ref n, [d], S, R => ∃ ds j z, lstOf S n = some ds ∧ flatD d = true ∧ ds.all flatD = true ∧ ds[j]? = some z ∧ eqF z d = true ∧ (∀ (k : Nat) (z' : D), k < j → ds[k]? = some z' → eqF z' d = false) ∧ R (.int (j : Nat)) S
  | _, _, _, _, _ => False
/-- what a method is asked of -/
def recv (_ : Me) (x : D) (S : Sto) : Prop := ∃ n ds, x = .ref n ∧ lstOf S n = some ds
def oPut : D → D → D → Sto → (Sto → Prop) → Prop
  | .ref n, .int i, d, S, R => ∃ ds j, S[n]? = some (.lst ds) ∧ ixN ds.length i = some j ∧ j < ds.length ∧ R (S.set n (.lst (ds.set j d)))
  | _, _, _, _, _ => False

/-- over the items: a for -/
def loopF (bind : D → Env → Option Env) (ok : Sto → Prop) (body : TSD) (R : EndsD) (E : XD) : List D → Env → Sto → Prop
  | [], ρ, S => R.nx ρ S
  | d :: ds, ρ, S => match bind d ρ with
    | none => False
    | some ρ1 => body { nx := fun ρ' S' => ok S' ∧ loopF bind ok body R E ds ρ' S', rt := R.rt, bk := R.nx, ct := fun ρ' S' => ok S' ∧ loopF bind ok body R E ds ρ' S' } ρ1 S E
/-- over the items: what a comprehension's clause does at each, with the list so far -/
def loopC {α : Type} (bind : D → Env → Option Env) (ok : Sto → Prop) (ρ : Env) (turn : α → Env → Sto → (α → Sto → Prop) → Prop) (K : α → Sto → Prop) : List D → α → Sto → Prop
  | [], acc, S => K acc S
  | d :: ds, acc, S => match bind d ρ with
    | none => False
    | some ρ1 => turn acc ρ1 S fun acc' S' => ok S' ∧ loopC bind ok ρ turn K ds acc' S'
abbrev TID := Env → Sto → (List D → (Sto → Prop) → Sto → Prop) → XD → Prop
def oIter (d : D) (S : Sto) (K : List D → (Sto → Prop) → Sto → Prop) : Prop := match d with
  | .tup ds => K ds (fun _ => True) S
  | .ro ds => K ds (fun _ => True) S
  | .ref n => ∃ ds, lstOf S n = some ds ∧ K ds (fun S' => lstOf S' n = some ds) S
  | .str z => K (z.cps.toList.map fun c => .str ⟨#[c]⟩) (fun _ => True) S
  | _ => False
def oZip (x y : D) (S : Sto) (K : List D → (Sto → Prop) → Sto → Prop) : Prop := match x, y with
  | .ref n, .tup es => ∃ ds, lstOf S n = some ds ∧ K (List.zipWith (fun p q => .tup [p, q]) ds es) (fun S' => lstOf S' n = some ds) S
  | .tup ds, .ref n => ∃ es, lstOf S n = some es ∧ K (List.zipWith (fun p q => .tup [p, q]) ds es) (fun S' => lstOf S' n = some es) S
  | x, y => (∃ n k ds es, x = .ref n ∧ y = .ref k ∧ lstOf S n = some ds ∧ lstOf S k = some es ∧ K (List.zipWith (fun p q => .tup [p, q]) ds es) (fun S' => lstOf S' n = some ds ∧ lstOf S' k = some es) S) ∨
    ∃ ds es, x = .tup ds ∧ y = .tup es ∧ K (List.zipWith (fun p q => .tup [p, q]) ds es) (fun _ => True) S
def noX : XD := fun _ _ _ => False
/-- an assignment: a list is unpacked as well -/
def bindA : Tg → D → Sto → Env → Option Env
  | .name i, d, _, ρ => some (ρ.set i (some d))
  | .nil, d, _, ρ => bindT .nil d ρ
  | .cons t r, d, S, ρ => match d with
    | .ref n => match lstOf S n with
      | some ds => bindT (.cons t r) (.tup ds) ρ
      | none => none
    | d => bindT (.cons t r) d ρ
/-- slots that are given constants -/
def asgs (ρ : Env) : List (Nat × D) → Env
  | [] => ρ
  | (i, d) :: r => asgs (ρ.set i (some d)) r
/-- the except clauses, one after the other -/
def hRun (R : EndsD) (E : XD) : List (List Nat × List (Nat × D)) → Exn → Env → Sto → Prop
  | [], x, ρ, S => E x ρ S
  | (ns, as) :: r, x, ρ, S => if x.cls ∈ ns then R.nx (asgs ρ as) S else hRun R E r x ρ S
section
variable (sem : Sem)
mutual
def WE : CE → TD
  | .lit d, ρ, S, R, E => R d S
  | .var i, ρ, S, R, E => match ρ[i]? with
    | some (some d) => R d S
    | _ => False
  | .glo d, ρ, S, R, E => R d S
  | .fnv f, ρ, S, R, E => R (.fn f) S
  | .tup es, ρ, S, R, E => WA es ρ S (fun ds S1 => ds.length ≤ sizeLine ∧ R (.tup ds) S1) E
  | .lst es, ρ, S, R, E => WA es ρ S (fun ds S1 => ds.length ≤ sizeLine ∧ R (.ref S1.length) (S1 ++ [.lst ds])) E
  | .bin op a b, ρ, S, R, E => WE a ρ S (fun x S1 => WE b ρ S1 (fun y S2 => oBin op x y S2 R) E) E
  | .cmp op a b, ρ, S, R, E => WE a ρ S (fun x S1 => WE b ρ S1 (fun y S2 => oCmp op x y S2 R) E) E
  | .chain op op' a b c, ρ, S, R, E => WE a ρ S (fun x S1 => WE b ρ S1 (fun y S2 => oCmp op x y S2 fun z S3 => ∃ k, z = .bl k ∧ (if k = true then WE c ρ S3 (fun w S4 => oCmp op' y w S4 R) E else R (.bl false) S3)) E) E
  | .and a b, ρ, S, R, E => WE a ρ S (fun x S1 => ∃ k, TruD x S1 k ∧ if k = true then WE b ρ S1 R E else R x S1) E
  | .or a b, ρ, S, R, E => WE a ρ S (fun x S1 => ∃ k, TruD x S1 k ∧ if k = true then R x S1 else WE b ρ S1 R E) E
  | .not a, ρ, S, R, E => WE a ρ S (fun x S1 => ∃ k, TruD x S1 k ∧ R (.bl (!k)) S1) E
  | .neg a, ρ, S, R, E => WE a ρ S (fun x S1 => ∃ i, x = .int i ∧ R (.int (-i)) S1) E
  | .ite c a b, ρ, S, R, E => WT c ρ S (fun k S1 => if k = true then WE a ρ S1 R E else WE b ρ S1 R E) E
  | .idx a i, ρ, S, R, E => WE a ρ S (fun x S1 => WE i ρ S1 (fun y S2 => oIx x y S2 R) E) E
  | .sl a lo hi, ρ, S, R, E => WE a ρ S (fun x S1 => WO lo ρ S1 (fun l S2 => WO hi ρ S2 (fun h S3 => oSl x l h S3 R) E) E) E
  | .call f es, ρ, S, R, E => WA es ρ S (fun ds S1 => sem f ds S1 R fun x S2 => E x ρ S2) E
  | .callk f n perm es, ρ, S, R, E => WA es ρ S (fun ds S1 => ds.length = n ∧ sem f (perm.filterMap fun i => ds[i]?) S1 R fun x S2 => E x ρ S2) E
  | .callv i es, ρ, S, R, E => match ρ[i]? with
    | some (some (.fn f)) => WA es ρ S (fun ds S1 => sem f ds S1 R fun x S2 => E x ρ S2) E
    | _ => False
  | .bi b es, ρ, S, R, E => WA es ρ S (fun ds S1 => oBi b ds S1 R) E
  | .meth me o es, ρ, S, R, E => WE o ρ S (fun x S1 => recv me x S1 ∧ WA es ρ S1 (fun ds S2 => oMe me x ds S2 R) E) E
  | .isI a t, ρ, S, R, E => WE a ρ S (fun x S1 => match isTy t x S1 with
    | some k => R (.bl k) S1
    | none => False) E
  | .comp vs tg it c elt, ρ, S, R, E => WI it ρ S (fun ds ok S1 => loopC (bindT tg) ok (wipeD ρ vs) (fun acc ρ1 S2 K => WF c ρ1 S2 (fun k S3 => if k = true then WE elt ρ1 S3 (fun y S4 => acc.length < sizeLine ∧ K (acc ++ [y]) S4) noX else K acc S3) noX)
      (fun acc S2 => R (.ref S2.length) (S2 ++ [.lst acc])) ds [] S1) E
  | .comp2 vs tg it c vs1 tg1 it1 c1 elt, ρ, S, R, E => WI it ρ S (fun ds ok S1 => loopC (bindT tg) ok (wipeD ρ vs) (fun acc ρ1 S2 K => WF c ρ1 S2 (fun k S3 => if k = true then
        WI it1 ρ1 S3 (fun es ok1 S4 => loopC (bindT tg1) ok1 (wipeD ρ1 vs1) (fun acc ρ2 S5 K1 => WF c1 ρ2 S5 (fun k1 S6 => if k1 = true then WE elt ρ2 S6 (fun y S7 => acc.length < sizeLine ∧ K1 (acc ++ [y]) S7) noX else K1 acc S6) noX) K es acc S4) noX
      else K acc S3) noX)
      (fun acc S2 => R (.ref S2.length) (S2 ++ [.lst acc])) ds [] S1) E
  | .dcomp vs tg it c kx vx, ρ, S, R, E => WI it ρ S (fun ds ok S1 => loopC (bindT tg) ok (wipeD ρ vs) (fun (acc : List (L2.Key × D)) ρ1 S2 K => WF c ρ1 S2 (fun k S3 => if k = true then
        WE kx ρ1 S3 (fun y S4 => WE vx ρ1 S4 (fun z S5 => ∃ key, keyD y = some key ∧ acc.length < sizeLine ∧ K (putD acc key z) S5) noX) noX else K acc S3) noX)
      (fun acc S2 => R (.ref S2.length) (S2 ++ [.dct acc])) ds [] S1) E
  | .rev a, ρ, S, R, E => WE a ρ S (fun x S1 => oRev x S1 R) E
  | .dnew, ρ, S, R, E => R (.ref S.length) (S ++ [.dct []])
  | .lenSet a, ρ, S, R, E => WE a ρ S (fun x S1 => ∃ xs L : List Str, seqOf S1 x = some (xs.map .str) ∧ xs.length ≤ 4000 ∧ L.Nodup ∧ (∀ k, k ∈ L ↔ k ∈ xs) ∧ R (.int L.length) S1) E
  | .sortSet a, ρ, S, R, E => WE a ρ S (fun x S1 => ∃ xs L : List Str, seqOf S1 x = some (xs.map .str) ∧ xs.length ≤ 4000 ∧ L.Nodup ∧ (∀ k, k ∈ L ↔ k ∈ xs) ∧ L.length < 64 ∧ ∀ ys : List Str, ys.Perm L → sortedS ys = true → R (.ref S1.length) (S1 ++ [.lst (ys.map .str)])) E
def WA : CEs → TAD
  | .nil, ρ, S, R, E => R [] S
  | .cons e r, ρ, S, R, E => WE e ρ S (fun x S1 => WA r ρ S1 (fun xs S2 => R (x :: xs) S2) E) E
  | .star e r, ρ, S, R, E => WE e ρ S (fun x S1 => ∃ xs, seqOf S1 x = some xs ∧ WA r ρ S1 (fun ys S2 => R (xs ++ ys) S2) E) E
def WT : CT → TBD
  | .cmp op a b, ρ, S, R, E => WE a ρ S (fun x S1 => WE b ρ S1 (fun y S2 => oCmp op x y S2 fun z S3 => ∃ k, z = .bl k ∧ R k S3) E) E
  | .chain op op' a b c, ρ, S, R, E => WE a ρ S (fun x S1 => WE b ρ S1 (fun y S2 => oCmp op x y S2 fun z S3 => ∃ k, z = .bl k ∧ (if k = true then WE c ρ S3 (fun w S4 => oCmp op' y w S4 fun z' S5 => ∃ k', z' = .bl k' ∧ R k' S5) E else R false S3)) E) E
  | .and a b, ρ, S, R, E => WT a ρ S (fun k S1 => if k = true then WT b ρ S1 R E else R false S1) E
  | .or a b, ρ, S, R, E => WT a ρ S (fun k S1 => if k = true then R true S1 else WT b ρ S1 R E) E
  | .not a, ρ, S, R, E => WT a ρ S (fun k S1 => R (!k) S1) E
  | .val e, ρ, S, R, E => WE e ρ S (fun x S1 => ∃ k, TruD x S1 k ∧ R k S1) E
def WO : CO → Env → Sto → (Option Int → Sto → Prop) → XD → Prop
  | .none, ρ, S, R, E => R none S
  | .some e, ρ, S, R, E => WE e ρ S (fun x S1 => ∃ i, x = .int i ∧ R (some i) S1) E
def WI : CI → TID
  | .of e, ρ, S, K, E => WE e ρ S (fun d S1 => oIter d S1 K) E
  | .range1 a, ρ, S, K, E => WE a ρ S (fun x S1 => ∃ j, x = .int j ∧ -(2 ^ 62) ≤ j ∧ j < 2 ^ 62 ∧ K ((List.range j.toNat).map fun (k : Nat) => D.int k) (fun _ => True) S1) E
  | .range2 a b, ρ, S, K, E => WE a ρ S (fun x S1 => WE b ρ S1 (fun y S2 => ∃ i j, x = .int i ∧ y = .int j ∧ (-(2 ^ 62) ≤ i ∧ i < 2 ^ 62 ∧ -(2 ^ 62) ≤ j ∧ j < 2 ^ 62) ∧ K ((List.range (j - i).toNat).map fun (k : Nat) => D.int (i + k)) (fun _ => True) S2) E) E
  | .enum a, ρ, S, K, E => WE a ρ S (fun x S1 => ∃ n ds, x = .ref n ∧ lstOf S1 n = some ds ∧ K (ds.zipIdx.map fun p => .tup [.int p.2, p.1]) (fun S' => lstOf S' n = some ds) S1) E
  | .zip a b, ρ, S, K, E => WE a ρ S (fun x S1 => WE b ρ S1 (fun y S2 => oZip x y S2 K) E) E
def WF : CF → TBD
  | .none, ρ, S, R, E => R true S
  | .one c, ρ, S, R, E => WT c ρ S R E
end
mutual
def WS : CS → TSD
  | .expr e, R, ρ, S, E => WE sem e ρ S (fun _ S1 => R.nx ρ S1) E
  | .asg tg e, R, ρ, S, E => WE sem e ρ S (fun d S1 => match bindA tg d S1 ρ with
    | some ρ1 => R.nx ρ1 S1
    | none => False) E
  | .par2 i j a b, R, ρ, S, E => WE sem a ρ S (fun x S1 => WE sem b ρ S1 (fun y S2 => R.nx ((ρ.set i (some x)).set j (some y)) S2) E) E
  | .par3 i j k a b c, R, ρ, S, E => WE sem a ρ S (fun x S1 => WE sem b ρ S1 (fun y S2 => WE sem c ρ S2 (fun z S3 => R.nx (((ρ.set i (some x)).set j (some y)).set k (some z)) S3) E) E) E
  | .put o i e, R, ρ, S, E => WE sem e ρ S (fun d S1 => WE sem o ρ S1 (fun x S2 => WE sem i ρ S2 (fun y S3 => oPut x y d S3 fun S4 => R.nx ρ S4) E) E) E
  | .aug i op e, R, ρ, S, E => match ρ[i]? with
    | some (some x) => WE sem e ρ S (fun y S1 => oAug op x y S1 fun z S2 => R.nx (ρ.set i (some z)) S2) E
    | _ => False
  | .ife c a b, R, ρ, S, E => WT sem c ρ S (fun k S1 => if k = true then WSs a R ρ S1 E else WSs b R ρ S1 E) E
  | .for tg it b, R, ρ, S, E => WI sem it ρ S (fun ds ok S1 => loopF (bindT tg) ok (WSs b) R E ds ρ S1) E
  | .while c b, R, ρ, S, E => ∃ I : Nat → Env → Sto → Prop, (∃ n, I n ρ S) ∧ ∀ n ρ1 S1, I n ρ1 S1 → WT sem c ρ1 S1 (fun k S2 => if k = true then
      WSs b { nx := fun ρ' S' => ∃ n', n' < n ∧ I n' ρ' S', rt := R.rt, bk := R.nx, ct := fun ρ' S' => ∃ n', n' < n ∧ I n' ρ' S' } ρ1 S2 E else R.nx ρ1 S2) E
  | .ret e, R, ρ, S, E => WE sem e ρ S R.rt E
  | .retN, R, ρ, S, E => R.rt .non S
  | .pass, R, ρ, S, E => R.nx ρ S
  | .brk, R, ρ, S, E => R.bk ρ S
  | .cont, R, ρ, S, E => R.ct ρ S
  | .raise x, R, ρ, S, E => E ⟨x, none⟩ ρ S
  | .try b kn hs, R, ρ, S, E => WSs b R ρ S fun x ρ' S' => x.cls < kn ∧ hRun R E hs x ρ' S'
def WSs : List CS → TSD
  | [], R, ρ, S, E => R.nx ρ S
  | s :: r, R, ρ, S, E => WS s { R with nx := fun ρ' S' => WSs r R ρ' S' E } ρ S E
end
end
/-- a def -/
structure Def where
  slots : Nat
  pars : Nat
  body : List CS
def start (n : Nat) (ds : List D) : Env := ds.map some ++ List.replicate (n - ds.length) none
/-- the defs' meaning, so many calls deep -/
def SEM (T : Nat → Option Def) : Nat → Sem
  | 0, _, _, _, _, _ => False
  | k + 1, f, ds, S, R, E => match T f with
    | none => False
    | some d => ds.length = d.pars ∧ WSs (SEM T k) d.body { nx := fun _ S' => R .non S', rt := R, bk := fun _ _ => False, ct := fun _ _ => False } (start d.slots ds) S fun x _ S' => E x S'
end Ip

-- P6
set_option Elab.async false
set_option linter.all false
set_option maxRecDepth 100000
namespace Ip
open PySem L2 PyProof.Rows

section
variable {X : Cx} {G : Adr} {W : WX} {a b c : Expr} {ta tb tc : TD} {pos : Pos}

/-! ### constants and names -/
theorem e_const {e : Expr} {d : D} {v : V} (h : PE X e (tC v)) (r : ∀ H m, Rel G H m d v) : PE X e (lift G W fun ρ S R E => R d S) := by
  refine PE.imp h fun σ H Q q => ?_
  obtain ⟨m, ρ, S, R, E, at', o, f⟩ := q
  exact f.now at'.good o (r H m)
theorem e_var {i : Nat} {x : Str} (hN : X.N[i]? = some x) (hv : Vis X.env.scope x) (hd : (x == ("__debug__" : Str)) = false) (hcd : (x == ("__classdict__" : Str)) = false) :
    PE X (.Name x pos) (lift G W fun ρ S R E => match ρ[i]? with
      | some (some d) => R d S
      | _ => False) := by
  refine PE.imp (pe_var hN hv hd hcd) fun σ H Q q => ?_
  obtain ⟨m, ρ, S, R, E, at', o, f⟩ := q
  cases e : ρ[i]? with
  | none => rw [e] at o; exact o.elim
  | some od =>
    cases od with
    | none => rw [e] at o; exact o.elim
    | some d =>
      rw [e] at o
      obtain ⟨v, e', r⟩ := at'.env.get i d e
      exact ⟨v, e', f.now at'.good o r⟩

/-! ### argument lists, displays -/
theorem a_nil : PA X [] (liftA G W fun ρ S R E => R [] S) := by
  refine PA.imp pa_nil fun σ H Q q => ?_
  obtain ⟨m, ρ, S, R, E, at', o, f⟩ := q
  exact f [] S m H [] o .refl at'.good rfl
theorem a_cons {e : Expr} {es : List Expr} {te : TD} {t : TAD} (he : PE X e (lift G W te)) (hr : PA X es (liftA G W t)) (hs : starEach (e :: es) X.env = (false, eval e X.env) :: starEach es X.env) :
    PA X (e :: es) (liftA G W fun ρ S R E => te ρ S (fun x S1 => t ρ S1 (fun xs S2 => R (x :: xs) S2) E) E) := by
  refine PA.imp (pa_cons he hr hs) fun σ H Q q => ?_
  obtain ⟨m, ρ, S, R, E, at', o, f⟩ := q
  refine ⟨m, ρ, S, _, E, at', o, fun d S1 m1 H1 v r1 x1 g1 rel1 => ?_⟩
  refine ⟨m1, ρ, S1, _, E, at'.mono x1 g1, r1, fun ds S2 m2 H2 vs r2 x2 g2 rel2 => ?_⟩
  exact f _ S2 m2 H2 _ r2 (x1.trans x2) g2 ⟨v, vs, rfl, Rel.mono x2.tp _ _ rel1, rel2⟩
theorem seqOf_ok (hK : X.K = G.K) {H : Hp} {m : List Addr} {S : Sto} {d : D} {v : V} {ds : List D} (g : Good G H m S) (r : Rel G H m d v) (h : seqOf S d = some ds) : ∃ a vs, v = .ref a ∧ (SqT X.K H a vs ∨ SqL X.K H a vs) ∧ Rels G H m ds vs := by
  cases d <;> simp only [seqOf, Option.some.injEq, reduceCtorEq] at h
  · subst h
    obtain ⟨a, vs, e, sq, rs⟩ := r
    rw [← hK] at sq
    exact ⟨a, vs, e, .inl sq, rs⟩
  · subst h
    obtain ⟨a, vs, e, sq, rs⟩ := r
    have sq := sq.sq
    rw [← hK] at sq
    exact ⟨a, vs, e, .inr sq, rs⟩
  · obtain ⟨a, vs, ha, sq, rs, _⟩ := g.lst h
    rw [← hK] at sq
    exact ⟨a, vs, Rel.ref_inj r ha, .inr sq, rs⟩
theorem a_star (hK : X.K = G.K) {e : Expr} {es : List Expr} {te : TD} {t : TAD} {p : Pos} (he : PE X e (lift G W te)) (hr : PA X es (liftA G W t)) :
    PA X (.Starred e p :: es) (liftA G W fun ρ S R E => te ρ S (fun x S1 => ∃ xs, seqOf S1 x = some xs ∧ t ρ S1 (fun ys S2 => R (xs ++ ys) S2) E) E) := by
  refine PA.imp (StX.pa_star he hr) fun σ H Q q => ?_
  obtain ⟨m, ρ, S, R, E, at', o, f⟩ := q
  refine ⟨m, ρ, S, _, E, at', o, fun d S1 m1 H1 v ⟨xs, hx, r1⟩ x1 g1 rel1 => ?_⟩
  obtain ⟨a, vs, e, sq, rs⟩ := seqOf_ok hK g1 rel1 hx
  refine ⟨a, vs, e, sq, m1, ρ, S1, _, E, at'.mono x1 g1, r1, fun ds S2 m2 H2 ws r2 x2 g2 rel2 => ?_⟩
  exact f _ S2 m2 H2 _ r2 (x1.trans x2) g2 (Rels.append (Rels.mono x2.tp _ _ rs) rel2)
theorem e_tup {es : List Expr} {t : TAD} {x1} (h : PA X es (liftA G W t)) : PE X (.Tuple es x1 pos) (lift G W fun ρ S R E => t ρ S (fun ds S1 => ds.length ≤ sizeLine ∧ R (.tup ds) S1) E) := by
  refine PE.imp (pe_tup h) fun σ H Q q => ?_
  obtain ⟨m, ρ, S, R, E, at', o, f⟩ := q
  refine ⟨m, ρ, S, _, E, at', o, fun ds S1 m1 H1 vs r1 x1 g1 rel1 => ⟨by rw [Rels.length rel1]; exact r1.1, fun p hp => ?_⟩⟩
  exact (f.mono x1).tup g1 r1.2 rel1 hp
theorem e_lst {es : List Expr} {t : TAD} (h : PA X es (liftA G W t)) : PE X (.List es pos) (lift G W fun ρ S R E => t ρ S (fun ds S1 => ds.length ≤ sizeLine ∧ R (.ref S1.length) (S1 ++ [.lst ds])) E) := by
  refine PE.imp (pe_lst h) fun σ H Q q => ?_
  obtain ⟨m, ρ, S, R, E, at', o, f⟩ := q
  refine ⟨m, ρ, S, _, E, at', o, fun ds S1 m1 H1 vs r1 x1 g1 rel1 => ⟨by rw [Rels.length rel1]; exact r1.1, fun p hp => ?_⟩⟩
  exact (f.mono x1).lst g1 r1.2 rel1 r1.1 hp

/-! ### operators -/
/-- two in a row, then what is done with their values -/
theorem two_of {k : D → D → Sto → RD → XD → Prop} {σ : L2.St} {H : Hp} {Q : VK} {Z : V → V → Hp → Prop} {ta tb : TD} {m : List Addr} {ρ : Env} {S : Sto} {R : RD} {E : XD} (at' : At G W m H ρ σ S E)
    (o : ta ρ S (fun x S1 => tb ρ S1 (fun y S2 => k x y S2 R E) E) E) (f : Fin G m H R Q)
    (h : ∀ dx dy x y m2 H2 S2, Ext m H m2 H2 → At G W m2 H2 ρ σ S2 E → Rel G H2 m2 dx x → Rel G H2 m2 dy y → k dx dy S2 R E → Fin G m2 H2 R Q → Z x y H2) :
    lift G W ta σ H fun x H1 => lift G W tb σ H1 fun y H2 => Z x y H2 := by
  refine ⟨m, ρ, S, _, E, at', o, fun d S1 m1 H1 v r1 x1 g1 rel1 => ?_⟩
  refine ⟨m1, ρ, S1, _, E, at'.mono x1 g1, r1, fun d2 S2 m2 H2 v2 r2 x2 g2 rel2 => ?_⟩
  exact h d d2 v v2 m2 H2 S2 (x1.trans x2) ((at'.mono x1 g1).mono x2 g2) (Rel.mono x2.tp _ _ rel1) rel2 r2 (f.mono (x1.trans x2))
theorem e_bin (hK : X.K = G.K) (ha : PE X a (lift G W ta)) (hb : PE X b (lift G W tb)) (op : Operator) :
    PE X (.BinOp a op b pos) (lift G W fun ρ S R E => ta ρ S (fun x S1 => tb ρ S1 (fun y S2 => oBin op x y S2 R) E) E) := by
  refine PE.imp (pe_op (bin_ok hK op) ha hb) fun σ H Q q => ?_
  obtain ⟨m, ρ, S, R, E, at', o, f⟩ := q
  exact two_of (k := fun x y S2 R _ => oBin op x y S2 R) at' o f fun dx dy x y m2 H2 S2 e2 at2 r1 r2 k f2 => ⟨m2, S2, R, dx, dy, at2.good, r1, r2, k, f2⟩
theorem e_cmp (hK : X.K = G.K) (hu : X.A.units + 65 < cLine) (ha : PE X a (lift G W ta)) (hb : PE X b (lift G W tb)) (op : CmpOp) (hm : behindInMarks op b = false) :
    PE X (.Compare a [op] [b] pos) (lift G W fun ρ S R E => ta ρ S (fun x S1 => tb ρ S1 (fun y S2 => oCmp op x y S2 R) E) E) := by
  refine PE.imp (pe_cmpR (cmp_ok hK hu op) ha hb hm) fun σ H Q q => ?_
  obtain ⟨m, ρ, S, R, E, at', o, f⟩ := q
  exact two_of (k := fun x y S2 R _ => oCmp op x y S2 R) at' o f fun dx dy x y m2 H2 S2 e2 at2 r1 r2 k f2 => ⟨m2, S2, R, dx, dy, at2.good, r1, r2, k, f2⟩
theorem t_cmp (hK : X.K = G.K) (hu : X.A.units + 65 < cLine) (ha : PE X a (lift G W ta)) (hb : PE X b (lift G W tb)) (op : CmpOp) (hm : behindInMarks op b = false) :
    PT X (.Compare a [op] [b] pos) (liftB G W fun ρ S R E => ta ρ S (fun x S1 => tb ρ S1 (fun y S2 => oCmp op x y S2 fun z S3 => ∃ k, z = .bl k ∧ R k S3) E) E) := by
  refine PT.imp (pt_cmpR (cmp_ok hK hu op) ha hb hm) fun σ H Q q => ?_
  obtain ⟨m, ρ, S, R, E, at', o, f⟩ := q
  have f' : Fin G m H (fun z S3 => ∃ k, z = .bl k ∧ R k S3) fun x H' => ∃ k, x = .bl k ∧ Q k H' := fun d S1 m1 H1 v r x1 g1 rel => by
    obtain ⟨k, rfl, r⟩ := r
    cases rel
    exact ⟨k, rfl, f k S1 m1 H1 r x1 g1⟩
  exact two_of (k := fun x y S2 R _ => oCmp op x y S2 R) at' o f' fun dx dy x y m2 H2 S2 e2 at2 r1 r2 k f2 => ⟨m2, S2, _, dx, dy, at2.good, r1, r2, k, f2⟩
theorem e_chain (hK : X.K = G.K) (hu : X.A.units + 65 < cLine) (ha : PE X a (lift G W ta)) (hb : PE X b (lift G W tb)) (hc : PE X c (lift G W tc)) (op op' : CmpOp) (hm : lastMarks [op, op'] [b, c] = false) :
    PE X (.Compare a [op, op'] [b, c] pos) (lift G W fun ρ S R E => ta ρ S (fun x S1 => tb ρ S1 (fun y S2 => oCmp op x y S2 fun z S3 => ∃ k, z = .bl k ∧ (if k = true then tc ρ S3 (fun w S4 => oCmp op' y w S4 R) E else R (.bl false) S3)) E) E) := by
  refine PE.imp (pe_chain (cmp_ok hK hu op) (cmp_ok hK hu op') ha hb hc hm) fun σ H Q q => ?_
  obtain ⟨m, ρ, S, R, E, at', o, f⟩ := q
  refine two_of (k := fun x y S2 R E => oCmp op x y S2 fun z S3 => ∃ k, z = .bl k ∧ (if k = true then tc ρ S3 (fun w S4 => oCmp op' y w S4 R) E else R (.bl false) S3)) at' o f fun dx dy x y m2 H2 S2 e2 at2 r1 r2 k f2 => ?_
  refine ⟨m2, S2, _, dx, dy, at2.good, r1, r2, k, fun z S3 m3 H3 v r3 x3 g3 rel3 => ?_⟩
  obtain ⟨k, rfl, r3⟩ := r3
  cases rel3
  refine ⟨k, rfl, ?_⟩
  cases k with
  | false =>
    simp only [Bool.false_eq_true, if_false] at r3 ⊢
    exact (f2.mono x3).now g3 r3 rfl
  | true =>
    simp only [if_true] at r3 ⊢
    refine ⟨m3, ρ, S3, _, E, at2.mono x3 g3, r3, fun w S4 m4 H4 v4 r4 x4 g4 rel4 => ?_⟩
    exact ⟨m4, S4, R, dy, w, g4, Rel.mono (x3.trans x4).tp _ _ r2, rel4, r4, (f2.mono x3).mono x4⟩
theorem t_chain (hK : X.K = G.K) (hu : X.A.units + 65 < cLine) (ha : PE X a (lift G W ta)) (hb : PE X b (lift G W tb)) (hc : PE X c (lift G W tc)) (op op' : CmpOp) (hm : lastMarks [op, op'] [b, c] = false) :
    PT X (.Compare a [op, op'] [b, c] pos) (liftB G W fun ρ S R E => ta ρ S (fun x S1 => tb ρ S1 (fun y S2 => oCmp op x y S2 fun z S3 => ∃ k, z = .bl k ∧ (if k = true then tc ρ S3 (fun w S4 => oCmp op' y w S4 fun z' S5 => ∃ k', z' = .bl k' ∧ R k' S5) E else R false S3)) E) E) := by
  refine PT.imp (pt_chain (cmp_ok hK hu op) (cmp_ok hK hu op') ha hb hc hm) fun σ H Q q => ?_
  obtain ⟨m, ρ, S, R, E, at', o, f⟩ := q
  have f' : Fin G m H (fun z S3 => ∃ k, z = .bl k ∧ R k S3) fun x H' => ∃ k, x = .bl k ∧ Q k H' := fun d S1 m1 H1 v r x1 g1 rel => by
    obtain ⟨k, rfl, r⟩ := r
    cases rel
    exact ⟨k, rfl, f k S1 m1 H1 r x1 g1⟩
  refine two_of (R := fun z S3 => ∃ k, z = .bl k ∧ R k S3) (k := fun x y S2 R' E => oCmp op x y S2 fun z S3 => ∃ k, z = .bl k ∧ (if k = true then tc ρ S3 (fun w S4 => oCmp op' y w S4 R') E else R false S3)) at' o f' fun dx dy x y m2 H2 S2 e2 at2 r1 r2 k f2 => ?_
  refine ⟨m2, S2, _, dx, dy, at2.good, r1, r2, k, fun z S3 m3 H3 v r3 x3 g3 rel3 => ?_⟩
  obtain ⟨k, rfl, r3⟩ := r3
  cases rel3
  refine ⟨k, rfl, ?_⟩
  cases k with
  | false =>
    simp only [Bool.false_eq_true, if_false] at r3 ⊢
    exact ⟨false, rfl, f false S3 m3 H3 r3 (e2.trans x3) g3⟩
  | true =>
    simp only [if_true] at r3 ⊢
    refine ⟨m3, ρ, S3, _, E, at2.mono x3 g3, r3, fun w S4 m4 H4 v4 r4 x4 g4 rel4 => ?_⟩
    exact ⟨m4, S4, _, dy, w, g4, Rel.mono (x3.trans x4).tp _ _ r2, rel4, r4, (f2.mono x3).mono x4⟩

/-! ### and, or, not, -x, a if c else b -/
variable {rest : List Expr}
theorem e_one {op} (h : PE X a (lift G W ta)) : PE X (.BoolOp op [a] pos) (lift G W ta) := pe_one h
theorem e_and (hK : X.K = G.K) (ha : PE X a (lift G W ta)) (hb : PE X (.BoolOp .And (b :: rest) pos) (lift G W tb)) :
    PE X (.BoolOp .And (a :: b :: rest) pos) (lift G W fun ρ S R E => ta ρ S (fun x S1 => ∃ k, TruD x S1 k ∧ if k = true then tb ρ S1 R E else R x S1) E) := by
  refine PE.imp (pe_andT ha hb) fun σ H Q q => ?_
  obtain ⟨m, ρ, S, R, E, at', o, f⟩ := q
  refine ⟨m, ρ, S, _, E, at', o, fun d S1 m1 H1 v r1 x1 g1 rel1 => ?_⟩
  obtain ⟨k, t, r1⟩ := r1
  refine ⟨k, by rw [hK]; exact t.v g1 rel1, ?_⟩
  cases k with
  | true => exact ⟨m1, ρ, S1, R, E, at'.mono x1 g1, r1, f.mono x1⟩
  | false => exact (f.mono x1).now g1 r1 rel1
theorem e_or (hK : X.K = G.K) (ha : PE X a (lift G W ta)) (hb : PE X (.BoolOp .Or (b :: rest) pos) (lift G W tb)) :
    PE X (.BoolOp .Or (a :: b :: rest) pos) (lift G W fun ρ S R E => ta ρ S (fun x S1 => ∃ k, TruD x S1 k ∧ if k = true then R x S1 else tb ρ S1 R E) E) := by
  refine PE.imp (pe_orT ha hb) fun σ H Q q => ?_
  obtain ⟨m, ρ, S, R, E, at', o, f⟩ := q
  refine ⟨m, ρ, S, _, E, at', o, fun d S1 m1 H1 v r1 x1 g1 rel1 => ?_⟩
  obtain ⟨k, t, r1⟩ := r1
  refine ⟨k, by rw [hK]; exact t.v g1 rel1, ?_⟩
  cases k with
  | true => exact (f.mono x1).now g1 r1 rel1
  | false => exact ⟨m1, ρ, S1, R, E, at'.mono x1 g1, r1, f.mono x1⟩
theorem e_not (hK : X.K = G.K) (ha : PE X a (lift G W ta)) : PE X (.UnaryOp .Not a pos) (lift G W fun ρ S R E => ta ρ S (fun x S1 => ∃ k, TruD x S1 k ∧ R (.bl (!k)) S1) E) := by
  refine PE.imp (pe_notT ha) fun σ H Q q => ?_
  obtain ⟨m, ρ, S, R, E, at', o, f⟩ := q
  refine ⟨m, ρ, S, _, E, at', o, fun d S1 m1 H1 v r1 x1 g1 rel1 => ?_⟩
  obtain ⟨k, t, r1⟩ := r1
  exact ⟨k, by rw [hK]; exact t.v g1 rel1, (f.mono x1).now g1 r1 rfl⟩
theorem e_neg (ha : PE X a (lift G W ta)) : PE X (.UnaryOp .USub a pos) (lift G W fun ρ S R E => ta ρ S (fun x S1 => ∃ i, x = .int i ∧ R (.int (-i)) S1) E) := by
  refine PE.imp (pe_un un_neg ha) fun σ H Q q => ?_
  obtain ⟨m, ρ, S, R, E, at', o, f⟩ := q
  refine ⟨m, ρ, S, _, E, at', o, fun d S1 m1 H1 v r1 x1 g1 rel1 => ?_⟩
  obtain ⟨i, rfl, r1⟩ := r1
  cases rel1
  exact ⟨i, rfl, (f.mono x1).now g1 r1 rfl⟩
variable {tA tB : TBD}
theorem e_ite (hc : PT X c (liftB G W tA)) (ha : PE X a (lift G W ta)) (hb : PE X b (lift G W tb)) :
    PE X (.IfExp c a b pos) (lift G W fun ρ S R E => tA ρ S (fun k S1 => if k = true then ta ρ S1 R E else tb ρ S1 R E) E) := by
  refine PE.imp (pe_ifExp hc ha hb) fun σ H Q q => ?_
  obtain ⟨m, ρ, S, R, E, at', o, f⟩ := q
  refine ⟨m, ρ, S, _, E, at', o, fun k S1 m1 H1 r1 x1 g1 => ?_⟩
  cases k with
  | true => exact ⟨m1, ρ, S1, R, E, at'.mono x1 g1, r1, f.mono x1⟩
  | false => exact ⟨m1, ρ, S1, R, E, at'.mono x1 g1, r1, f.mono x1⟩
/-- tests -/
theorem t_val (hK : X.K = G.K) (ha : PE X a (lift G W ta)) (he : ∀ whole, isTrue a X.env whole = (do let v ← whole; standAt a.pos; holding [v] (truthy v))) :
    PT X a (liftB G W fun ρ S R E => ta ρ S (fun x S1 => ∃ k, TruD x S1 k ∧ R k S1) E) := by
  refine PT.imp (pt_truth ha he) fun σ H Q q => ?_
  obtain ⟨m, ρ, S, R, E, at', o, f⟩ := q
  refine ⟨m, ρ, S, _, E, at', o, fun d S1 m1 H1 v r1 x1 g1 rel1 => ?_⟩
  obtain ⟨k, t, r1⟩ := r1
  exact ⟨k, by rw [hK]; exact t.v g1 rel1, (f.mono x1).now g1 r1⟩
theorem w_one (op) (ha : PT X a (liftB G W tA)) : PW X (.BoolOp op [a] pos) (liftB G W tA) := by
  cases op
  · exact pw_and1 ha
  · exact pw_or1 ha
theorem w_and (ha : PT X a (liftB G W tA)) (hb : PW X (.BoolOp .And (b :: rest) pos) (liftB G W tB)) :
    PW X (.BoolOp .And (a :: b :: rest) pos) (liftB G W fun ρ S R E => tA ρ S (fun k S1 => if k = true then tB ρ S1 R E else R false S1) E) := by
  refine PW.imp (pw_and ha hb) fun σ H Q q => ?_
  obtain ⟨m, ρ, S, R, E, at', o, f⟩ := q
  refine ⟨m, ρ, S, _, E, at', o, fun k S1 m1 H1 r1 x1 g1 => ?_⟩
  cases k with
  | true => exact ⟨m1, ρ, S1, R, E, at'.mono x1 g1, r1, f.mono x1⟩
  | false => exact (f.mono x1).now g1 r1
theorem w_or (ha : PT X a (liftB G W tA)) (hb : PW X (.BoolOp .Or (b :: rest) pos) (liftB G W tB)) :
    PW X (.BoolOp .Or (a :: b :: rest) pos) (liftB G W fun ρ S R E => tA ρ S (fun k S1 => if k = true then R true S1 else tB ρ S1 R E) E) := by
  refine PW.imp (pw_or ha hb) fun σ H Q q => ?_
  obtain ⟨m, ρ, S, R, E, at', o, f⟩ := q
  refine ⟨m, ρ, S, _, E, at', o, fun k S1 m1 H1 r1 x1 g1 => ?_⟩
  cases k with
  | true => exact (f.mono x1).now g1 r1
  | false => exact ⟨m1, ρ, S1, R, E, at'.mono x1 g1, r1, f.mono x1⟩
theorem t_not (ha : PT X a (liftB G W tA)) : PT X (.UnaryOp .Not a pos) (liftB G W fun ρ S R E => tA ρ S (fun k S1 => R (!k) S1) E) := by
  refine PT.imp (pt_not ha) fun σ H Q q => ?_
  obtain ⟨m, ρ, S, R, E, at', o, f⟩ := q
  exact ⟨m, ρ, S, _, E, at', o, fun k S1 m1 H1 r1 x1 g1 => (f.mono x1).now g1 r1⟩
end
end Ip

-- P7
set_option Elab.async false
set_option linter.all false
set_option maxRecDepth 100000
namespace Ip
open PySem L2 PyProof.Rows

section
variable {X : Cx} {G : Adr} {W : WX} {a b c : Expr} {ta tb tc : TD} {pos : Pos}

/-! ### subscripts -/
theorem atI_of {α : Type} {xs : List α} {i : Int} {j : Nat} {x : α} (h : ixN xs.length i = some j) (hx : xs[j]? = some x) : atI xs i = some x := by
  unfold atI; rw [h]; exact hx
theorem ix_dK (hu : X.A.units + 65 < cLine) : IxR X (fun x y H Q => ∃ p ks k v, x = .ref p ∧ y = kV k ∧ H p = some (.dK ks) ∧ valV ks k = some v ∧ Q v H) := by
  intro value slice pins s σ H x y v u Q I rx ry h hs
  obtain ⟨p, ks, k, z, rfl, rfl, e, hv, q⟩ := h
  obtain rfl : v = Value.ref p := rx
  have hg : DGet H p (kV k) (some z) := hv ▸ .k e
  exact tail_any (isD_at I (.inl ⟨ks, .inl e⟩)).1 slot_dict_getitem.lookup (d_getItem (by omega) I hg ry fun w' s' I' rw' => ⟨z, H, I', rw', q⟩) hs
theorem ix_ok (hK : X.K = G.K) (hu : X.A.units + 65 < cLine) : IxR X (lift2 G oIx) := by
  intro value slice pins s σ H x y v u Q I rx ry h hs
  obtain ⟨m, S, R, dx, dy, g, hx, hy, o, f⟩ := h
  unfold oIx at o
  split at o
  · obtain ⟨j, d, h1, h2, o⟩ := o
    cases hy
    obtain ⟨p, vs, rfl, sq, rs⟩ := hx
    rw [← hK] at sq
    obtain ⟨w, hw, rw'⟩ := rs.get h2
    exact ix_tup value slice pins s σ H _ _ v u Q I rx ry ⟨p, vs, _, w, rfl, rfl, sq, atI_of (by rw [rs.length]; exact h1) hw, f.now g o rw'⟩ hs
  · obtain ⟨j, d, h1, h2, o⟩ := o
    cases hy
    obtain ⟨p, vs, rfl, sq, rs⟩ := hx
    have sq := sq.sq
    rw [← hK] at sq
    obtain ⟨w, hw, rw'⟩ := rs.get h2
    exact ix_list value slice pins s σ H _ _ v u Q I rx ry ⟨p, vs, _, w, rfl, rfl, sq, atI_of (by rw [rs.length]; exact h1) hw, f.now g o rw'⟩ hs
  · rcases o with ⟨i, ds, j, d, rfl, h0, h1, h2, o⟩ | ⟨ks, k, d, h0, hk, hv, o⟩
    case inr =>
      obtain ⟨p, vs, hp, e, rs, _⟩ := g.dct h0
      obtain rfl := Rel.ref_inj hx hp
      obtain rfl := keyD_rel hk hy
      rcases rs.val k with ⟨e1, _⟩ | ⟨d', w, e1, e2, r⟩
      · rw [hv] at e1; cases e1
      · rw [hv] at e1; cases e1
        exact ix_dK hu value slice pins s σ H _ _ v u Q I rx ry ⟨p, vs, k, w, rfl, rfl, e, e2, f.now g o r⟩ hs
    cases hy
    obtain ⟨p, vs, hp, sq, rs, _⟩ := g.lst h0
    obtain rfl := Rel.ref_inj hx hp
    rw [← hK] at sq
    obtain ⟨w, hw, rw'⟩ := rs.get h2
    exact ix_list value slice pins s σ H _ _ v u Q I rx ry ⟨p, vs, _, w, rfl, rfl, sq, atI_of (by rw [rs.length]; exact h1) hw, f.now g o rw'⟩ hs
  · obtain ⟨hl, j, ch, h1, h2, o⟩ := o
    cases hx; cases hy
    refine ix_str value slice pins s σ H _ _ v u Q I rx ry ⟨_, _, ch, rfl, rfl, hl, atI_of (j := j) ?_ ?_, f.now g o rfl⟩ hs
    · rw [Array.length_toList]; exact h1
    · rw [Array.getElem?_toList]; exact h2
  · exact o.elim
theorem e_idx (hK : X.K = G.K) (hu : X.A.units + 65 < cLine) (ha : PE X a (lift G W ta)) (hb : PE X b (lift G W tb)) (hs : PlainIx b) :
    PE X (.Subscript a b pos) (lift G W fun ρ S R E => ta ρ S (fun x S1 => tb ρ S1 (fun y S2 => oIx x y S2 R) E) E) := by
  refine PE.imp (pe_ix (ix_ok hK hu) ha hb hs) fun σ H Q q => ?_
  obtain ⟨m, ρ, S, R, E, at', o, f⟩ := q
  exact two_of (k := fun x y S2 R _ => oIx x y S2 R) at' o f fun dx dy x y m2 H2 S2 e2 at2 r1 r2 k f2 => ⟨m2, S2, R, dx, dy, at2.good, r1, r2, k, f2⟩

/-! ### slices -/
abbrev TOD := Env → Sto → (Option Int → Sto → Prop) → XD → Prop
def liftO (G : Adr) (W : WX) (t : TOD) : TO := fun σ H Q => ∃ m ρ S R E, At G W m H ρ σ S E ∧ t ρ S R E ∧ ∀ o S' m' H', R o S' → Ext m H m' H' → Good G H' m' S' → Q o H'
theorem PO.imp {e : Option Expr} {t t' : TO} (h : PO X e t) (i : ∀ σ H Q, t' σ H Q → t σ H Q) : PO X e t' := ⟨fun pins s σ H Q I q => h.run pins s σ H Q I (i _ _ _ q)⟩
theorem o_none : PO X none (liftO G W fun ρ S R E => R none S) := by
  refine PO.imp po_none fun σ H Q q => ?_
  obtain ⟨m, ρ, S, R, E, at', o, f⟩ := q
  exact f none S m H o .refl at'.good
theorem o_some (ha : PE X a (lift G W ta)) : PO X (some a) (liftO G W fun ρ S R E => ta ρ S (fun x S1 => ∃ i, x = .int i ∧ R (some i) S1) E) := by
  refine PO.imp (po_some ha) fun σ H Q q => ?_
  obtain ⟨m, ρ, S, R, E, at', o, f⟩ := q
  refine ⟨m, ρ, S, _, E, at', o, fun d S1 m1 H1 v r1 x1 g1 rel1 => ?_⟩
  obtain ⟨i, rfl, r1⟩ := r1
  cases rel1
  exact ⟨i, rfl, f _ S1 m1 H1 r1 x1 g1⟩
theorem Rels.cut {H : Hp} {m : List Addr} {ds : List D} {vs : List V} (r : Rels G H m ds vs) (lo hi : Option Int) : Rels G H m (cutD ds lo hi) (cutV vs lo hi) := by
  unfold cutD cutV
  rw [r.length]
  exact Rels.take _ (Rels.drop _ r)
theorem cutD_le (ds : List D) (lo hi : Option Int) : (cutD ds lo hi).length ≤ ds.length := by
  unfold cutD
  rw [List.length_take, List.length_drop]
  omega
theorem cutD_whole {ds : List D} {lo hi : Option Int} (h : HT.sIx ds.length 0 lo = 0 ∧ HT.sIx ds.length ds.length hi = ds.length) : cutD ds lo hi = ds := by
  unfold cutD
  rw [h.1, h.2]
  simp
def rSlD (G : Adr) : V → Option Int → Option Int → Hp → VK → Prop := fun x lo hi H Q => ∃ m S R dx, Good G H m S ∧ Rel G H m dx x ∧ oSl dx lo hi S R ∧ Fin G m H R Q
theorem sl_ok (hK : X.K = G.K) : SlR X (rSlD G) := by
  intro pins s σ H x v vl vu lo hi sl Q I rx hs pl pu h
  obtain ⟨m, S, R, dx, g, hx, o, f⟩ := h
  unfold oSl at o
  split at o
  · obtain ⟨p, vs, rfl, sq, rs⟩ := hx
    rename_i ds _ _
    have sq' := sq
    rw [← hK] at sq'
    have el := rs.length
    refine sl_tupA pins s σ H _ v vl vu lo hi sl Q I rx hs pl pu ⟨p, vs, rfl, sq', fun hw => ?_, fun _ q hq => ?_⟩
    · rw [el] at hw
      rw [cutD_whole hw] at o
      exact f.now g o ⟨p, vs, rfl, sq, rs⟩
    · exact f.tup g o (rs.cut lo hi) hq
  · obtain ⟨hl, o⟩ := o
    obtain ⟨p, vs, rfl, sq, rs⟩ := hx
    have sq := sq.sq
    rw [← hK] at sq
    exact sl_list pins s σ H _ v vl vu lo hi sl Q I rx hs pl pu ⟨p, vs, rfl, sq, fun q hq => f.lst g o (rs.cut lo hi) (Nat.le_trans (cutD_le _ _ _) hl) hq⟩
  · obtain ⟨ds, h0, o⟩ := o
    obtain ⟨p, vs, hp, sq, rs, hl⟩ := g.lst h0
    obtain rfl := Rel.ref_inj hx hp
    rw [← hK] at sq
    exact sl_list pins s σ H _ v vl vu lo hi sl Q I rx hs pl pu ⟨p, vs, rfl, sq, fun q hq => f.lst g o (rs.cut lo hi) (Nat.le_trans (cutD_le _ _ _) hl) hq⟩
  · exact o.elim
theorem e_sl (hK : X.K = G.K) {lo hi : Option Expr} {tl th : TOD} {p2 : Pos} (ha : PE X a (lift G W ta)) (hl : PO X lo (liftO G W tl)) (hh : PO X hi (liftO G W th)) :
    PE X (.Subscript a (.Slice lo hi none p2) pos) (lift G W fun ρ S R E => ta ρ S (fun x S1 => tl ρ S1 (fun l S2 => th ρ S2 (fun h S3 => oSl x l h S3 R) E) E) E) := by
  refine PE.imp (pe_slice (sl_ok hK) ha hl hh) fun σ H Q q => ?_
  obtain ⟨m, ρ, S, R, E, at', o, f⟩ := q
  refine ⟨m, ρ, S, _, E, at', o, fun d S1 m1 H1 v r1 x1 g1 rel1 => ?_⟩
  refine ⟨m1, ρ, S1, _, E, at'.mono x1 g1, r1, fun l S2 m2 H2 r2 x2 g2 => ?_⟩
  refine ⟨m2, ρ, S2, _, E, (at'.mono x1 g1).mono x2 g2, r2, fun h S3 m3 H3 r3 x3 g3 => ?_⟩
  exact ⟨m3, S3, R, d, g3, Rel.mono (x2.trans x3).tp _ _ rel1, r3, f.mono ((x1.trans x2).trans x3)⟩

theorem Rels.rev {H : Hp} {m : List Addr} : ∀ {ds : List D} {vs : List V}, Rels G H m ds vs → Rels G H m ds.reverse vs.reverse
  | [], _, h => by cases h; rfl
  | d :: ds, _, ⟨v, r, e, h1, h2⟩ => by
    subst e
    rw [List.reverse_cons, List.reverse_cons]
    exact (Rels.rev h2).snoc h1
theorem e_rev (hK : X.K = G.K) {a : Expr} {ta : TD} {k : Nat} {p1 p2 p3 : Pos} (ha : PE X a (lift G W ta)) : PE X (.Subscript a (.Slice none none (some (.UnaryOp .USub (.Constant (.int 1) k p1) p2)) p3) pos) (lift G W fun ρ S R E => ta ρ S (fun x S1 => oRev x S1 R) E) := by
  refine PE.imp (pe_revB ha) fun σ H Q q => ?_
  obtain ⟨m, ρ, S, R, E, at', o, f⟩ := q
  refine ⟨m, ρ, S, _, E, at', o, fun d S1 m1 H1 v r1 x1 g1 rel1 => ?_⟩
  have f := f.mono x1
  unfold oRev at r1
  split at r1
  · obtain ⟨p, vs, rfl, sq, rs⟩ := rel1
    rw [← hK] at sq
    exact ⟨p, vs, rfl, .inl ⟨sq, fun q hq => f.tup g1 r1 rs.rev hq⟩⟩
  · obtain ⟨p, vs, rfl, sq, rs⟩ := rel1
    have sq := sq.sq
    rw [← hK] at sq
    exact ⟨p, vs, rfl, .inr ⟨sq, fun q hq => f.lst g1 r1.2 rs.rev (by rw [List.length_reverse]; exact r1.1) hq⟩⟩
  · obtain ⟨ds, h0, r1⟩ := r1
    obtain ⟨p, vs, hp, sq, rs, hl⟩ := g1.lst h0
    obtain rfl := Rel.ref_inj rel1 hp
    rw [← hK] at sq
    exact ⟨p, vs, rfl, .inr ⟨sq, fun q hq => f.lst g1 r1 rs.rev (by rw [List.length_reverse]; exact hl) hq⟩⟩
  · exact r1.elim
theorem e_dnew : PE X (.Dict [] [] pos) (lift G W fun ρ S R E => R (.ref S.length) (S ++ [.dct []])) := by
  refine PE.imp pe_dnewK fun σ H Q q => ?_
  obtain ⟨m, ρ, S, R, E, at', o, f⟩ := q
  intro p hp
  refine f _ _ (m ++ [p]) _ _ o (.cell hp) (at'.good.push hp ⟨[], upd_same, rfl, Nat.zero_le _⟩) ⟨p, ?_, rfl⟩
  rw [← at'.good.len, List.getElem?_append_right (Nat.le_refl _)]
  simp
/-! ### built-in calls -/
def biName : Bi → Str
  | .len => "len" | .sum => "sum" | .min2 => "min" | .max2 => "max" | .min1 => "min" | .max1 => "max" | .abs => "abs" | .all => "all" | .any => "any" | .int => "int" | .tuple => "tuple" | .list => "list"
  | .gcd => "gcd" | .repr => "repr" | .set => "set" | .sorted => "sorted" | .str => "str" | .bool => "bool"
def biVal : Bi → Value
  | .int => .type "int" | .tuple => .type "tuple" | .list => .type "list" | .set => .type "set" | .str => .type "str" | .bool => .type "bool"
  | .len => .builtin "len" | .sum => .builtin "sum" | .min2 => .builtin "min" | .max2 => .builtin "max" | .min1 => .builtin "min" | .max1 => .builtin "max" | .abs => .builtin "abs" | .all => .builtin "all" | .any => .builtin "any"
  | .gcd => .builtin "math.gcd" | .repr => .builtin "repr" | .sorted => .builtin "sorted"
theorem CallR.imp {f : Value} {r r' : List V → Hp → VK → Prop} (h : CallR X f r) (i : ∀ xs H Q, r' xs H Q → r xs H Q) : CallR X f r' := fun pins s σ H xs us Q I rx q => h pins s σ H xs us Q I rx (i _ _ _ q)
theorem CallR.cases {f : Value} {t : List D → Sto → RD → Prop} (h : ∀ (pins : List (Addr × Obj)) (s : Shared) (σ : L2.St) (H : Hp) (xs : List V) (us : List Value) (Q : VK) (m : List Addr) (S : Sto) (R : RD) (ds : List D), L2.Inv X pins σ H s → Vals xs us → Good G H m S → Rels G H m ds xs → t ds S R → Fin G m H R Q →
    wpAny (model X.prog X.w) X.A (call f us) (EP X pins σ Q) X.xe s) : CallR X f (liftN G t) := fun pins s σ H xs us Q I rx ⟨m, S, R, ds, g, rs, o, fin⟩ => h pins s σ H xs us Q m S R ds I rx g rs o fin
theorem rel1 {H : Hp} {m : List Addr} {d : D} {vs : List V} (h : Rels G H m [d] vs) : ∃ v, vs = [v] ∧ Rel G H m d v := by
  obtain ⟨v, r, e, h1, h2⟩ := h; cases h2; exact ⟨v, e, h1⟩
theorem rel2 {H : Hp} {m : List Addr} {d e : D} {vs : List V} (h : Rels G H m [d, e] vs) : ∃ v w, vs = [v, w] ∧ Rel G H m d v ∧ Rel G H m e w := by
  obtain ⟨v, r, e, h1, w, r2, e2, h2, h3⟩ := h; cases h3; subst e2; exact ⟨v, w, e, h1, h2⟩
theorem rels_bls {H : Hp} {m : List Addr} : ∀ {ns : List Bool} {vs : List V}, Rels G H m (ns.map D.bl) vs → vs = ns.map V.bl
  | [], _, h => by cases h; rfl
  | n :: ns, _, ⟨v, r, e, h1, h2⟩ => by
    subst e
    cases h1
    rw [rels_bls h2]
    rfl
theorem rels_of_ints {H : Hp} {m : List Addr} : ∀ ns : List Int, Rels G H m (ns.map D.int) (ns.map V.int)
  | [] => rfl
  | n :: ns => ⟨_, _, rfl, rfl, rels_of_ints ns⟩
/-- repr(x), x told as data -/
def rReprD (K : PySem.W.Frag) : List V → Hp → VK → Prop := fun xs H Q => ∃ x p, xs = [x] ∧ Dp K H x p ∧ p.showable = true ∧ p.hasDict = false ∧ p.depth ≤ 60 ∧ p.shown.length ≤ sizeLine ∧ Q (.str p.shown) H
theorem cr_reprD (gu : X.A.guards = some []) (hu : X.A.units + 65 < cLine) : CallR X (.builtin "repr") (rReprD X.K) := by
  intro pins s σ H xs us Q I rx ⟨x, p, e, hd, h1, h2, h3, h4, q⟩
  subst e
  obtain ⟨u, rfl, ru⟩ := vals1 rx
  obtain ⟨as, rd⟩ := Dp.reads I p x u hd ru
  have fin : ∀ (h' : Heap) (t tk : Nat), (∀ b o, s.heap.get? b = some o → h'.get? b = some o) → EP X pins σ Q (.str p.shown t) { s with heap := h', toks := tk } := fun h' t tk k => ⟨.str p.shown, H, I.kept k, ⟨t, rfl⟩, q⟩
  cases rd with
  | none => exact P.repr_of_none (fin _ _ _ fun _ _ e => e)
  | bool b => exact P.repr_of_bool (fin _ _ _ fun _ _ e => e)
  | int i t => exact P.repr_of_int (by simpa [PyData.showable] using h1) (fin _ _ _ fun _ _ e => e)
  | str z t => exact P.repr_of_str (fin _ _ _ fun _ _ e => e) h4
  | list a1 a2 a3 a4 => exact repr_of_reads' (.list a1 a2 a3 a4) h1 (PyData.noDict_hsm h2) gu (by omega) (fun _ _ e => e) fin h4
  | tuple a1 a2 a3 a4 => exact repr_of_reads' (.tuple a1 a2 a3 a4) h1 (PyData.noDict_hsm h2) gu (by omega) (fun _ _ e => e) fin h4
  | dict a1 a2 a3 a4 a5 => simp [PyData.hasDict] at h2
theorem bi_ok (hK : X.K = G.K) (hc : X.calm = true) (gu : X.A.guards = some []) (hu : X.A.units + 65 < cLine) (b : Bi) : CallR X (biVal b) (liftN G (oBi b)) := by
  refine CallR.cases fun pins s σ H xs us Q m S R ds I rx g rs o f => ?_
  unfold oBi at o
  split at o
  · -- len
    obtain ⟨v, rfl, p, vs, rfl, sq, r⟩ := rel1 rs
    rw [← hK] at sq
    exact call_len_seq pins s σ H _ us Q I rx ⟨p, vs, rfl, .inr sq, by rw [r.length]; exact f.now g o rfl⟩
  · obtain ⟨v, rfl, rfl⟩ := rel1 rs
    exact call_len_str pins s σ H _ us Q I rx ⟨_, rfl, o.1, f.now g o.2 rfl⟩
  · obtain ⟨v, rfl, p, vs, rfl, sq, r⟩ := rel1 rs
    have sq := sq.sq
    rw [← hK] at sq
    exact call_len_seq pins s σ H _ us Q I rx ⟨p, vs, rfl, .inl sq, by rw [r.length]; exact f.now g o rfl⟩
  · obtain ⟨v, rfl, r⟩ := rel1 rs
    rcases o with ⟨ds, h0, o⟩ | ⟨ks, h0, o⟩
    case inr =>
      obtain ⟨p, vs, hp, e, r', _⟩ := g.dct h0
      obtain rfl := Rel.ref_inj r hp
      exact call_lenD pins s σ H _ us Q I rx ⟨p, vs, rfl, e, by rw [r'.length]; exact f.now g o rfl⟩
    obtain ⟨p, vs, hp, sq, r', _⟩ := g.lst h0
    obtain rfl := Rel.ref_inj r hp
    rw [← hK] at sq
    exact call_len_seq pins s σ H _ us Q I rx ⟨p, vs, rfl, .inl sq, by rw [r'.length]; exact f.now g o rfl⟩
  · -- min, max
    obtain ⟨v, w, rfl, rfl, rfl⟩ := rel2 rs
    refine call_min2 hc pins s σ H _ us Q I rx ⟨_, _, rfl, f.now g o ?_⟩
    show V.int _ = V.int _
    congr 1
    simp only [Int.min_def]
    split <;> split <;> omega
  · obtain ⟨v, w, rfl, rfl, rfl⟩ := rel2 rs
    refine call_max2 hc pins s σ H _ us Q I rx ⟨_, _, rfl, f.now g o ?_⟩
    show V.int _ = V.int _
    congr 1
    simp only [Int.max_def]
    split <;> split <;> omega
  · obtain ⟨v, rfl, rfl⟩ := rel1 rs
    refine call_abs pins s σ H _ us Q I rx ⟨_, rfl, f.now g o ?_⟩
    show V.int _ = V.int _
    congr 1
    split <;> omega
  · obtain ⟨v, rfl, rfl⟩ := rel1 rs
    exact call_int1 pins s σ H _ us Q I rx (.inl ⟨_, rfl, f.now g o rfl⟩)
  · obtain ⟨v, rfl, rfl⟩ := rel1 rs
    exact call_int1 pins s σ H _ us Q I rx (.inr ⟨_, rfl, f.now g o rfl⟩)
  · -- tuple, list
    obtain ⟨ds, h0, o⟩ := o
    obtain ⟨v, rfl, r⟩ := rel1 rs
    obtain ⟨p, vs, hp, sq, r', _⟩ := g.lst h0
    obtain rfl := Rel.ref_inj r hp
    rw [← hK] at sq
    exact call_tuple_of pins s σ H _ us Q I rx ⟨p, vs, rfl, .inl ⟨sq, fun l hl => f.tup g o r' hl⟩⟩
  · obtain ⟨v, rfl, p, vs, rfl, sq, r⟩ := rel1 rs
    have sq' := sq
    rw [← hK] at sq'
    exact call_tuple_of pins s σ H _ us Q I rx ⟨p, vs, rfl, .inr ⟨sq', f.now g o ⟨p, vs, rfl, sq, r⟩⟩⟩
  · obtain ⟨ds, h0, o⟩ := o
    obtain ⟨v, rfl, r⟩ := rel1 rs
    obtain ⟨p, vs, hp, sq, r', hl⟩ := g.lst h0
    obtain rfl := Rel.ref_inj r hp
    rw [← hK] at sq
    exact call_list_of pins s σ H _ us Q I rx ⟨p, vs, rfl, .inl sq, fun l hl' => f.lst g o r' hl hl'⟩
  · obtain ⟨o1, o⟩ := o
    obtain ⟨v, rfl, p, vs, rfl, sq, r⟩ := rel1 rs
    rw [← hK] at sq
    exact call_list_of pins s σ H _ us Q I rx ⟨p, vs, rfl, .inr sq, fun l hl' => f.lst g o r o1 hl'⟩
  · -- sum, all, any
    obtain ⟨ns, h0, o⟩ := o
    obtain ⟨v, rfl, r⟩ := rel1 rs
    obtain ⟨p, vs, hp, sq, r', hl⟩ := g.lst h0
    obtain rfl := Rel.ref_inj r hp
    rw [← hK, rels_ints r'] at sq
    exact cr_sum hc pins s σ H _ us Q I rx ⟨p, ns, rfl, sq, f.now g o rfl⟩
  · obtain ⟨ns, h0, o⟩ := o
    obtain ⟨v, rfl, r⟩ := rel1 rs
    obtain ⟨p, vs, hp, sq, r', hl⟩ := g.lst h0
    obtain rfl := Rel.ref_inj r hp
    rw [← hK, rels_bls r'] at sq
    exact cr_all hc pins s σ H _ us Q I rx ⟨p, ns, rfl, sq, f.now g o rfl⟩
  · obtain ⟨ns, h0, o⟩ := o
    obtain ⟨v, rfl, r⟩ := rel1 rs
    obtain ⟨p, vs, hp, sq, r', hl⟩ := g.lst h0
    obtain rfl := Rel.ref_inj r hp
    rw [← hK, rels_bls r'] at sq
    exact cr_any hc pins s σ H _ us Q I rx ⟨p, ns, rfl, sq, f.now g o rfl⟩
  · obtain ⟨ns, h0, h1, o⟩ := o
    obtain ⟨v, rfl, r⟩ := rel1 rs
    obtain ⟨p, vs, hp, sq, r', hl⟩ := g.lst h0
    obtain rfl := Rel.ref_inj r hp
    rw [← hK, rels_ints r'] at sq
    exact cr_max hc pins s σ H _ us Q I rx ⟨p, ns, rfl, sq, h1, fun m hm hy => f.now g (o m hm hy) rfl⟩
  · obtain ⟨ns, h0, h1, o⟩ := o
    obtain ⟨v, rfl, r⟩ := rel1 rs
    obtain ⟨p, vs, hp, sq, r', hl⟩ := g.lst h0
    obtain rfl := Rel.ref_inj r hp
    rw [← hK, rels_ints r'] at sq
    exact cr_min hc pins s σ H _ us Q I rx ⟨p, ns, rfl, sq, h1, fun m hm hy => f.now g (o m hm hy) rfl⟩
  · obtain ⟨v, w, rfl, rfl, rfl⟩ := rel2 rs
    exact cr_gcd pins s σ H _ us Q I rx ⟨_, _, rfl, f.now g o rfl⟩
  · obtain ⟨ns, h0, o⟩ := o
    obtain ⟨v, rfl, r⟩ := rel1 rs
    obtain ⟨p, vs, hp, sq, r', hl⟩ := g.lst h0
    obtain rfl := Rel.ref_inj r hp
    rw [← hK, rels_ints r'] at sq
    rw [List.length_map] at hl
    refine cr_sortedI pins s σ H _ us Q I rx ⟨p, ns, rfl, sq, fun ms q hm hs hq => ?_⟩
    exact f.lst g (o ms hm hs) (rels_of_ints ms) (by rw [List.length_map, hm.length_eq]; exact hl) hq
  · obtain ⟨p, h1, h2, h3, h4, o⟩ := o
    obtain ⟨v, rfl, r⟩ := rel1 rs
    exact cr_reprD gu hu pins s σ H _ us Q I rx ⟨v, p, rfl, by rw [hK]; exact toPy_dp g 60 _ _ _ h1 r, h2, h3, (toPy_shape 60 _ _ h1).2, h4, f.now g o rfl⟩
  · exact o.elim
end
end Ip

-- P8
set_option Elab.async false
set_option linter.all false
set_option maxRecDepth 100000
namespace Ip
open PySem L2 PyProof.Rows

/-! ### what the compiler lets by -/
/-- nothing is special about the expression where it stands -/
structure Plain (e : Expr) : Prop where
  star : ∀ es env, starEach (e :: es) env = (false, eval e env) :: starEach es env
  mark : ∀ op, behindInMarks op e = false
  ix : PlainIx e
  fold : ∀ env x, foldedSetIterable e env x = pure x
theorem lastMarks_of {op op' : CmpOp} {b c : Expr} (h : Plain c) : lastMarks [op, op'] [b, c] = false := h.mark op'
inductive Plains : List Expr → Prop where
  | nil : Plains []
  | cons {e : Expr} {es : List Expr} : Plain e → Plains es → Plains (e :: es)
theorem Plains.each {es : List Expr} (h : Plains es) (env : PySem.Env) : starEach es env = es.map fun e => (false, eval e env) := by
  induction h with
  | nil => rfl
  | cons h _ ih => rw [h.star, ih]; rfl
theorem Plains.back {es : List Expr} (h : Plains es) (pos : Pos) (env : PySem.Env) : (backTo pos (starEach es env)).any (·.1) = false := by
  rw [h.each]
  induction h with
  | nil => rfl
  | cons _ _ ih => simpa [backTo] using ih
theorem Plains.few {e : Expr} {es : List Expr} (h : Plains (e :: es)) (hl : es.length < 28) (pos : Pos) (env : PySem.Env) :
    ((backTo pos (starEach (e :: es) env)).all (fun x => !x.1) && (backToKw pos (keywordEach [] env)).all (fun x => x.1.isSome)
      && decide ((e :: es).length + ([] : List Keyword).length + (if ([] : List Keyword).isEmpty then 0 else 1) < 30)) = true := by
  have h1 : (backTo pos (starEach (e :: es) env)).all (fun x => !x.1) = true := by
    have := h.back pos env
    rw [List.all_eq_not_any_not]
    simpa using this
  rw [h1]
  simp [backToKw, keywordEach]
  omega

section
variable {X : Cx} {G : Adr} {W : WX} {a b c : Expr} {ta tb tc : TD} {pos p : Pos}

/-! ### built-in calls -/
def biFact (mg : Str → Option Value) : Bi → Prop
  | .gcd => mg "gcd" = some (.builtin "math.gcd")
  | b => mg (biName b) = none
theorem of_callB {r : List D → Sto → RD → Prop} {ta : TAD} {e : Expr} (h : PE X e (tCB (liftN G r) (liftA G W ta))) : PE X e (lift G W fun ρ S R E => ta ρ S (fun ds S1 => r ds S1 R) E) := by
  refine PE.imp h fun σ H Q q => ?_
  obtain ⟨m, ρ, S, R, E, at', o, f⟩ := q
  refine ⟨m, ρ, S, _, E, at', o, fun ds S1 m1 H1 vs r1 x1 g1 rel1 => ?_⟩
  exact ⟨m1, S1, R, ds, g1, rel1, r1, f.mono x1⟩
theorem e_bi (hK : X.K = G.K) (hc : X.calm = true) (gu : X.A.guards = some []) (hu : X.A.units + 65 < cLine) {b : Bi} (hm : biFact X.mg b) (hg : Gl X (biName b)) {e : Expr} {es : List Expr} {ta : TAD} (pl : Plains (e :: es)) (ha : PA X (e :: es) (liftA G W ta)) :
    PE X (.Call (.Name (biName b) p) (e :: es) [] pos) (lift G W fun ρ S R E => ta ρ S (fun ds S1 => oBi b ds S1 R) E) := by
  have hok := bi_ok (X := X) hK hc gu hu b
  have hs : starEach (e :: es) X.env = (false, eval e X.env) :: starEach es X.env := by cases pl with | cons h _ => exact h.star es X.env
  have hb : (backTo pos (starEach es X.env)).any (·.1) = false := by cases pl with | cons _ h => exact h.back pos X.env
  have F : ∀ {x : Str} {id : String}, biName b = x → biVal b = .builtin id → X.mg x = none → bootBuiltins x = some (.builtin id) → x ≠ "__name__" → (x == ("__debug__" : Str)) = false →
      PE X (.Call (.Name (biName b) p) (e :: es) [] pos) (lift G W fun ρ S R E => ta ρ S (fun ds S1 => oBi b ds S1 R) E) := fun {x id} e1 e2 h1 h2 h3 h4 => by
    rw [e1] at hg ⊢
    rw [e2] at hok
    exact of_callB (pe_callB hok hg h1 h2 ha h3 h4 hs hb)
  have T : ∀ {x : Str} {id : String}, biName b = x → biVal b = .type id → X.mg x = none → bootBuiltins x = some (.type id) → x ≠ "__name__" → (x == ("__debug__" : Str)) = false →
      PE X (.Call (.Name (biName b) p) (e :: es) [] pos) (lift G W fun ρ S R E => ta ρ S (fun ds S1 => oBi b ds S1 R) E) := fun {x id} e1 e2 h1 h2 h3 h4 => by
    rw [e1] at hg ⊢
    rw [e2] at hok
    exact of_callB (pe_callTy hok hg h1 h2 ha h3 h4 hs hb)
  cases b
  case gcd => exact of_callB (pe_callBfun hok hg hm ha (by decide) hs hb)
  case int => exact T rfl rfl hm (by decide +kernel) (by decide) (by decide)
  case tuple => exact T rfl rfl hm (by decide +kernel) (by decide) (by decide)
  case list => exact T rfl rfl hm (by decide +kernel) (by decide) (by decide)
  case set => exact T rfl rfl hm (by decide +kernel) (by decide) (by decide)
  case str => exact T rfl rfl hm (by decide +kernel) (by decide) (by decide)
  case bool => exact T rfl rfl hm (by decide +kernel) (by decide) (by decide)
  all_goals exact F rfl rfl hm (by decide +kernel) (by decide) (by decide)

/-! ### methods of lists -/
theorem MtR.imp {id : String} {r r' : V → List V → Hp → VK → Prop} (h : MtR X id r) (i : ∀ x xs H Q, r' x xs H Q → r x xs H Q) : MtR X id r' := fun pins s σ H x xs v us Q I rx rs q => h pins s σ H x xs v us Q I rx rs (i _ _ _ _ q)
def liftM (G : Adr) (me : D → List D → Sto → RD → Prop) : V → List V → Hp → VK → Prop := fun x xs H Q => ∃ m S R dx ds, Good G H m S ∧ Rel G H m dx x ∧ Rels G H m ds xs ∧ me dx ds S R ∧ Fin G m H R Q
def meName : Me → Str
  | .append => "append" | .extend => "extend" | .pop => "pop" | .popAt => "pop" | .index => "index" | .insert => "insert"
def meId : Me → String
  | .append => "list.append" | .extend => "list.extend" | .pop => "list.pop" | .popAt => "list.pop" | .index => "list.index" | .insert => "list.insert"
theorem me_ok (hK : X.K = G.K) (me : Me) : MtR X (meId me) (liftM G (oMe me)) := by
  intro pins s σ H x xs v us Q I rx rs h
  obtain ⟨m, S, R, dx, ds, g, hx, hs, o, f⟩ := h
  unfold oMe at o
  split at o
  · obtain ⟨es, h0, hl, o⟩ := o
    obtain ⟨w, rfl, rw'⟩ := rel1 hs
    obtain ⟨p, vs, hp, hv, r', _⟩ := g.lstM h0
    obtain rfl := Rel.ref_inj hx hp
    exact mt_append pins s σ H _ _ v us Q I rx rs ⟨p, vs, w, rfl, rfl, hv, by rw [r'.length]; exact hl, f.put g hp hv o (r'.snoc rw') (by simp; omega) rfl⟩
  · obtain ⟨es, fs, h0, h1, hl, o⟩ := o
    obtain ⟨w, rfl, rw'⟩ := rel1 hs
    obtain ⟨p, vs, hp, hv, r', _⟩ := g.lstM h0
    obtain ⟨p2, vs2, hp2, hv2, r2, _⟩ := g.lstM h1
    obtain rfl := Rel.ref_inj hx hp
    obtain rfl := Rel.ref_inj rw' hp2
    exact mt_extend pins s σ H _ _ v us Q I rx rs ⟨p, p2, vs, vs2, rfl, rfl, hv, hv2, by rw [r'.length, r2.length]; exact hl, f.put g hp hv o (r'.append r2) (by simpa using hl) rfl⟩
  · obtain ⟨es, d, h0, h1, o⟩ := o
    cases hs
    obtain ⟨p, vs, hp, hv, r', hl⟩ := g.lstM h0
    obtain rfl := Rel.ref_inj hx hp
    obtain ⟨w, hw, rw'⟩ := r'.get h1
    have e := r'.length
    have rd : Rels G H m es.dropLast vs.dropLast := by
      rw [List.dropLast_eq_take, List.dropLast_eq_take, e]
      exact Rels.take _ r'
    exact mt_pop pins s σ H _ _ v us Q I rx rs ⟨p, vs, w, rfl, rfl, hv, by rw [e]; exact hw, f.put g hp hv o rd (by simp; omega) rw'⟩
  · obtain ⟨es, j, z, h0, f1, f2, h1, h2, h3, o⟩ := o
    obtain ⟨w, rfl, rw'⟩ := rel1 hs
    obtain ⟨p, vs, hp, sq, r', _⟩ := g.lst h0
    obtain rfl := Rel.ref_inj hx hp
    rw [← hK] at sq
    obtain ⟨y, hy, ry⟩ := r'.get h1
    have fz : ∀ {k : Nat} {z' : D}, es[k]? = some z' → flatD z' = true := fun h => List.all_eq_true.mp f2 _ (List.mem_of_getElem? h)
    refine mt_index pins s σ H _ _ v us Q I rx rs ⟨p, vs, w, j, y, rfl, rfl, sq, rw'.flat f1, r'.flat f2, hy, by rw [eqF_of rw' ry f1 (fz h1)]; exact h2, fun k y' hk hy' => ?_, f.now g o rfl⟩
    have hlt : k < es.length := by
      have := (List.getElem?_eq_some_iff.mp hy').1
      rw [r'.length] at this; exact this
    obtain ⟨y2, hy2, ry2⟩ := r'.get (List.getElem?_eq_getElem hlt)
    rw [hy'] at hy2; cases hy2
    rw [eqF_of rw' ry2 f1 (fz (List.getElem?_eq_getElem hlt))]
    exact h3 k _ hk (List.getElem?_eq_getElem hlt)
  · exact o.elim
theorem recv_ty (hK : X.K = G.K) {me : Me} {H : Hp} {m : List Addr} {S : Sto} {d : D} {v : V} (g : Good G H m S) (r : Rel G H m d v) (h : recv me d S) : tyV X.K "list" v H := by
  obtain ⟨n, ds, rfl, h0⟩ := h
  obtain ⟨p, vs, hp, sq, _, _⟩ := g.lst h0
  obtain rfl := Rel.ref_inj r hp
  rw [← hK] at sq
  exact .inl ⟨rfl, vs, sq⟩
theorem of_meth (hK : X.K = G.K) {me : Me} {to : TD} {ta : TAD} {e : Expr} (h : PE X e (tBM X.K "list" (liftM G (oMe me)) (lift G W to) (liftA G W ta))) :
    PE X e (lift G W fun ρ S R E => to ρ S (fun x S1 => recv me x S1 ∧ ta ρ S1 (fun ds S2 => oMe me x ds S2 R) E) E) := by
  refine PE.imp h fun σ H Q q => ?_
  obtain ⟨m, ρ, S, R, E, at', o, f⟩ := q
  refine ⟨m, ρ, S, _, E, at', o, fun d S1 m1 H1 v r1 x1 g1 rel1 => ⟨recv_ty hK g1 rel1 r1.1, ?_⟩⟩
  refine ⟨m1, ρ, S1, _, E, at'.mono x1 g1, r1.2, fun ds S2 m2 H2 vs r2 x2 g2 rel2 => ?_⟩
  exact ⟨m2, S2, R, d, ds, g2, Rel.mono x2.tp _ _ rel1, rel2, r2, f.mono (x1.trans x2)⟩
theorem e_meth (hK : X.K = G.K) (me : Me) {o e : Expr} {es : List Expr} {to : TD} {ta : TAD} {apos cpos : Pos} (ho : PE X o (lift G W to)) (pl : Plains (e :: es)) (hl : es.length < 28) (ha : PA X (e :: es) (liftA G W ta))
    (hbase : attributeBase o (meName me) X.env (eval o X.env) = eval o X.env) (hline : (apos.endLine == cpos.line) = true) :
    PE X (.Call (.Attribute o (meName me) apos) (e :: es) [] cpos) (lift G W fun ρ S R E => to ρ S (fun x S1 => recv me x S1 ∧ ta ρ S1 (fun ds S2 => oMe me x ds S2 R) E) E) := by
  have hs : starEach (e :: es) X.env = (false, eval e X.env) :: starEach es X.env := by cases pl with | cons h _ => exact h.star es X.env
  have hb : (backTo cpos (starEach es X.env)).any (·.1) = false := by cases pl with | cons _ h => exact h.back cpos X.env
  have hf := pl.few hl cpos X.env
  have hm := me_ok (X := X) hK me
  refine of_meth hK ?_
  cases me
  case append => exact pe_bm PySem.F.plainAttrs_list PySem.F.slot_list_append PySem.F.type_list_append hm ho ha hbase hf hline hs hb
  case extend => exact pe_bm PySem.F.plainAttrs_list PySem.F.slot_list_extend PySem.F.type_list_extend hm ho ha hbase hf hline hs hb
  case pop => exact pe_bm PySem.F.plainAttrs_list PySem.F.slot_list_pop PySem.F.type_list_pop hm ho ha hbase hf hline hs hb
  case popAt => exact pe_bm PySem.F.plainAttrs_list PySem.F.slot_list_pop PySem.F.type_list_pop hm ho ha hbase hf hline hs hb
  case index => exact pe_bm PySem.F.plainAttrs_list PySem.F.slot_list_index PySem.F.type_list_index hm ho ha hbase hf hline hs hb
  case insert => exact pe_bm PySem.F.plainAttrs_list PySem.F.slot_list_insert PySem.F.type_list_insert hm ho ha hbase hf hline hs hb
theorem e_meth0 (hK : X.K = G.K) {o : Expr} {to : TD} {apos cpos : Pos} (ho : PE X o (lift G W to))
    (hbase : attributeBase o "pop" X.env (eval o X.env) = eval o X.env) (hline : (apos.endLine == cpos.line) = true) :
    PE X (.Call (.Attribute o "pop" apos) [] [] cpos) (lift G W fun ρ S R E => to ρ S (fun x S1 => recv .pop x S1 ∧ oMe .pop x [] S1 R) E) := by
  refine PE.imp (pe_bm0 PySem.F.plainAttrs_list PySem.F.slot_list_pop PySem.F.type_list_pop (me_ok (X := X) hK .pop) ho hbase hline) fun σ H Q q => ?_
  obtain ⟨m, ρ, S, R, E, at', o, f⟩ := q
  refine ⟨m, ρ, S, _, E, at', o, fun d S1 m1 H1 v r1 x1 g1 rel1 => ⟨recv_ty hK g1 rel1 r1.1, ?_⟩⟩
  exact ⟨m1, S1, R, d, [], g1, rel1, rfl, r1.2, f.mono x1⟩

/-! ### isinstance -/
def tyName : Ty → String
  | .int => "int" | .bool => "bool" | .str => "str" | .tuple => "tuple" | .list => "list" | .dict => "dict"
theorem isTy_kit {H : Hp} {m : List Addr} {S : Sto} {d : D} {v : V} {t : Ty} {k : Bool} (g : Good G H m S) (r : Rel G H m d v) (h : isTy t d S = some k) :
    ∃ tv, TyX G.K H v tv ∧ PySem.W.kitOne G.K tv (.type (tyName t)) = some k := by
  cases d with
  | non => cases r; exact ⟨_, .base .non, by cases t <;> cases h <;> rfl⟩
  | bl b => cases r; exact ⟨_, .base (.bl b), by cases t <;> cases h <;> rfl⟩
  | int i => cases r; exact ⟨_, .base (.int i), by cases t <;> cases h <;> rfl⟩
  | str x => cases r; exact ⟨_, .base (.str x), by cases t <;> cases h <;> rfl⟩
  | tup ds =>
    obtain ⟨p, vs, rfl, sq, rs⟩ := r
    have ty : TyX G.K H (.ref p) (.type "tuple") := by
      rcases sq with (sq | ⟨o, sq⟩) | ⟨o, its, n, sq, hc, _⟩
      · exact .base (.tup sq)
      · exact .fTuple sq
      · exact .kTuple sq hc
    exact ⟨_, ty, by cases t <;> cases h <;> rfl⟩
  | ref n =>
    cases hc : S[n]? with
    | none => cases t <;> simp [isTy, hc] at h
    | some cl => cases cl with
      | lst ds =>
        obtain ⟨p, vs, hp, hv, _, _⟩ := g.lstM hc
        obtain rfl := Rel.ref_inj r hp
        exact ⟨_, .base (.lst hv), by cases t <;> simp [isTy, hc] at h <;> subst h <;> rfl⟩
      | dct ks =>
        obtain ⟨p, vs, hp, hv, _, _⟩ := g.dct hc
        obtain rfl := Rel.ref_inj r hp
        exact ⟨_, .base (.dK hv), by cases t <;> simp [isTy, hc] at h <;> subst h <;> rfl⟩
  | ro ds => cases t <;> cases h
  | fn f => cases t <;> cases h
theorem tyBoot : ∀ t : Ty, bootBuiltins (tyName t : Str) = some (.type (tyName t)) ∧ (tyName t : Str) ≠ "__name__" ∧ ((tyName t : Str) == ("__debug__" : Str)) = false := fun t => by cases t <;> decide +kernel
theorem e_isI (hK : X.K = G.K) {t : Ty} (hm : X.mg "isinstance" = none) (hg : Gl X "isinstance") (hm2 : X.mg (tyName t : Str) = none) (hg2 : Gl X (tyName t : Str)) (pl : Plain a) (ha : PE X a (lift G W ta)) {p2 : Pos} :
    PE X (.Call (.Name "isinstance" p) [a, .Name (tyName t : Str) p2] [] pos) (lift G W fun ρ S R E => ta ρ S (fun x S1 => match isTy t x S1 with
      | some k => R (.bl k) S1
      | none => False) E) := by
  have hs : starEach [a, .Name (tyName t : Str) p2] X.env = (false, eval a X.env) :: starEach [.Name (tyName t : Str) p2] X.env := pl.star _ _
  have pt : PE X (.Name (tyName t : Str) p2) (tC (.ty (tyName t))) := by
    obtain ⟨h1, h2, h3⟩ := tyBoot t
    exact pe_bltn hg2 hm2 h1 rfl h2 h3
  refine PE.imp (pe_callB call_isi hg hm boot_isinstance (pa_cons ha (pa_cons pt pa_nil rfl) hs) (by decide) (by decide) hs rfl) fun σ H Q q => ?_
  obtain ⟨m, ρ, S, R, E, at', o, f⟩ := q
  refine ⟨m, ρ, S, _, E, at', o, fun d S1 m1 H1 v r1 x1 g1 rel1 => ?_⟩
  split at r1
  · rename_i k hk
    obtain ⟨tv, ty, e⟩ := isTy_kit g1 rel1 hk
    rw [← hK] at ty e
    exact ⟨v, _, tv, _, k, rfl, .ty _, ty, e, (f.mono x1).now g1 r1 rfl⟩
  · exact r1.elim

/-! ### own defs -/
def liftSp (G : Adr) (sp : List D → Sto → RD → (Exn → Sto → Prop) → Prop) : Sp := fun vs H Q E => ∃ m S R Ex ds, Good G H m S ∧ Rels G H m ds vs ∧ sp ds S R Ex ∧ Fin G m H R Q ∧
  ∀ x S' m' H' c d, Ex x S' → Ext m H m' H' → Good G H' m' S' → ExOk G H' m' x c d → E c d H'
end
/-- a def keeps its promise, called from anywhere but within a repr -/
structure GOk (P : Program) (w : World) (K : PySem.W.Frag) (mg : Str → Option Value) (base : Heap) (k : Nat) (f : Addr) (fd : FuncData) (ps : List Str) (sp : Sp) : Prop where
  len : ∀ vs H Q E, sp vs H Q E → vs.length = ps.length
  run : ∀ (A : Around) (outer : List PySem.Env) (s : Shared) (H : Hp) (args : Args) (us : List Value) (vs : List V) (Q : VK) (E : XK), A.guards = some [] → Room k A → Env0 P w K mg base A outer s H → BindsTo s fd args (ps.zip us) → Vals vs us → sp vs H Q E →
    codeAny (model P w) A (.call (.ref f) args) (CR (L2.CX P w) outer P w H s Q E) s
section
variable {G : Adr} {W : WX} {X : Cx} {p pos : Pos}
theorem GOk.call {k : Nat} {f : Addr} {fd : FuncData} {ps : List Str} {sp : Sp} (F : GOk X.prog X.w X.K X.mg X.base k f fd ps sp) (gu : X.A.guards = some []) (hr : Room k X.A) (tk : Takes X W)
    {pins : List (Addr × Obj)} {σ : L2.St} {H : Hp} {s : Shared} {vs : List V} {us : List Value} {zs : List (Str × Value)} {ws : List Value} {Q : VK} (hb : BindsTo s fd ⟨ws, zs⟩ (ps.zip us)) (I : Inv X pins σ H s) (r : Vals vs us) (h : sp vs H Q (L2.WE W σ)) :
    wpAny (model X.prog X.w) X.A (PySem.call (.ref f) ws zs) (EP X pins σ Q) X.xe s := by
  refine wpAny_call (codeAny_mono (F.run X.A X.stack s H ⟨ws, zs⟩ us vs Q (L2.WE W σ) gu hr I.env0 hb r h) fun r s' hq => ?_)
  cases r with
  | error e => exact passAt tk σ pins H s e s' I hq
  | ok fl => cases fl with
    | ret u => exact I.after hq
    | next => exact hq.elim
    | brk => exact hq.elim
    | cont => exact hq.elim
theorem e_call {k : Nat} {f : Addr} {fd : FuncData} {ps : List Str} {sp : List D → Sto → RD → (Exn → Sto → Prop) → Prop} {x : Str} {e : Expr} {es : List Expr} {t : TAD}
    (F : GOk X.prog X.w X.K X.mg X.base k f fd ps (liftSp G sp)) (gu : X.A.guards = some []) (hr : Room k X.A) (hg : Gl X x) (hm : X.mg x = some (.ref f)) (hk : PySem.W.keepIn X.K (.ref f) = true) (hb : Binds X.K fd ps []) (tk : Takes X W)
    (pl : Plains (e :: es)) (ha : PA X (e :: es) (liftA G W t)) (hdb : (x == ("__debug__" : Str)) = false) :
    PE X (.Call (.Name x p) (e :: es) [] pos) (lift G W fun ρ S R E => t ρ S (fun ds S1 => sp ds S1 R fun x S2 => E x ρ S2) E) := by
  have hs : starEach (e :: es) X.env = (false, eval e X.env) :: starEach es X.env := by cases pl with | cons h _ => exact h.star es X.env
  have hb' : (backTo pos (starEach es X.env)).any (·.1) = false := by cases pl with | cons _ h => exact h.back pos X.env
  refine ⟨fun pins s σ H Q I q => ?_⟩
  obtain ⟨m, ρ, S, R, E, at', o, fin⟩ := q
  refine wpAny_Call_Name_kw (ld_glob I hg hm ?_ hdb)
  refine PySem.W.callWith_K (h₀ := X.base) I.ok.mod.kin hk (thn (ha.run pos pins s σ _ (fun vs H2 => liftSp G sp vs H2 Q (L2.WE W σ)) I ⟨m, ρ, S, _, E, at', o, fun ds S1 m1 H1 vs r1 x1 g1 rel1 => ?_⟩) fun us s2 ⟨vs, H2, I2, r, q⟩ => ⟨I2.kIn, ?_⟩) hs hb'
  · refine ⟨m1, S1, R, _, ds, g1, rel1, r1, fin.mono x1, fun x S2 m2 H2 c d hx x2 g2 ok => ?_⟩
    exact at'.xto x ρ S2 m2 H2 σ c d hx (x1.trans x2) g2 (at'.env.mono (x1.trans x2).tp) ok
  · refine F.call gu hr tk ?_ I2 r q
    have hl : us.length = ps.length := by rw [← r.length]; exact F.len _ _ _ _ q
    have := hb s2 us I2.kIn (by simpa using hl)
    rwa [List.append_nil] at this
theorem rels_strs {H : Hp} {m : List Addr} : ∀ {ns : List Str} {vs : List V}, Rels G H m (ns.map D.str) vs → vs = ns.map V.str
  | [], _, h => by cases h; rfl
  | n :: ns, _, ⟨v, r, e, h1, h2⟩ => by
    subst e
    cases h1
    rw [rels_strs h2]
    rfl
theorem strs_rels {H : Hp} {m : List Addr} : ∀ ns : List Str, Rels G H m (ns.map D.str) (ns.map V.str)
  | [] => rfl
  | n :: ns => ⟨_, _, rfl, rfl, strs_rels ns⟩
theorem e_lenSet (hK : X.K = G.K) (hc : X.calm = true) {a : Expr} {ta : TD} {p2 q : Pos} (hg : Gl X "len") (hm : X.mg "len" = none) (hg2 : Gl X "set") (hm2 : X.mg "set" = none) (pl : Plain a) (ha : PE X a (lift G W ta)) :
    PE X (.Call (.Name "len" p) [.Call (.Name "set" p2) [a] [] q] [] pos) (lift G W fun ρ S R E => ta ρ S (fun x S1 => ∃ xs L : List Str, seqOf S1 x = some (xs.map .str) ∧ xs.length ≤ 4000 ∧ L.Nodup ∧ (∀ k, k ∈ L ↔ k ∈ xs) ∧ R (.int L.length) S1) E) := by
  refine PE.imp (pe_lenT hc hg hm hg2 hm2 ha (pl.star [] X.env)) fun σ H Q h => ?_
  obtain ⟨m, ρ, S, R, E, at', o, f⟩ := h
  refine ⟨m, ρ, S, _, E, at', o, fun d S1 m1 H1 v ⟨xs, L, e1, l1, nd, mem, r1⟩ x1 g1 rel1 => ?_⟩
  obtain ⟨b, vs, e, sq, rs⟩ := seqOf_ok hK g1 rel1 e1
  rw [rels_strs rs] at sq
  exact ⟨b, xs, L, e, sq.symm, l1, nd, mem, f _ S1 m1 H1 _ r1 x1 g1 rfl⟩
theorem e_sortSet (hK : X.K = G.K) (hc : X.calm = true) {a : Expr} {ta : TD} {p2 q : Pos} (hg : Gl X "sorted") (hm : X.mg "sorted" = none) (hg2 : Gl X "set") (hm2 : X.mg "set" = none) (pl : Plain a) (ha : PE X a (lift G W ta)) :
    PE X (.Call (.Name "sorted" p) [.Call (.Name "set" p2) [a] [] q] [] pos) (lift G W fun ρ S R E => ta ρ S (fun x S1 => ∃ xs L : List Str, seqOf S1 x = some (xs.map .str) ∧ xs.length ≤ 4000 ∧ L.Nodup ∧ (∀ k, k ∈ L ↔ k ∈ xs) ∧ L.length < 64 ∧
      ∀ ys : List Str, ys.Perm L → sortedS ys = true → R (.ref S1.length) (S1 ++ [.lst (ys.map .str)])) E) := by
  refine PE.imp (pe_sortT hc hg hm hg2 hm2 ha (pl.star [] X.env)) fun σ H Q h => ?_
  obtain ⟨m, ρ, S, R, E, at', o, f⟩ := h
  refine ⟨m, ρ, S, _, E, at', o, fun d S1 m1 H1 v ⟨xs, L, e1, l1, nd, mem, l64, r1⟩ x1 g1 rel1 => ?_⟩
  obtain ⟨b, vs, e, sq, rs⟩ := seqOf_ok hK g1 rel1 e1
  rw [rels_strs rs] at sq
  refine ⟨b, xs, L, e, sq.symm, l1, nd, mem, l64, fun ys p hy hs hp => ?_⟩
  exact (f.mono x1).lst g1 (r1 ys hy hs) (strs_rels ys) (by rw [List.length_map, hy.length_eq, sizeLine_eq]; omega) hp
end
end Ip

-- P9
set_option Elab.async false
set_option linter.all false
set_option maxRecDepth 100000
namespace Ip
open PySem L2 PyProof.Rows

section
variable {X : Cx} {G : Adr} {W : WX} {a b c : Expr} {ta tb tc : TD} {pos p : Pos}

/-! ### what is walked -/
/-- the iterator J gives the items, as long as ok stands -/
def JOk (G : Adr) (J : It) (items : List D) (ok : Sto → Prop) (m0 : List Addr) (H0 : Hp) : Prop := ∀ (i : Nat) (m : List Addr) (H : Hp) (S : Sto), Tp m0 H0 m H → Good G H m S → ok S →
  (∀ d, items[i]? = some d → J.go i H ∧ ∀ x H', J.yld i H x H' → Ext m H m H' ∧ Good G H' m S ∧ Rel G H' m d x ∧ ∀ a o, H a = some o → H' a = some o) ∧ (items.length ≤ i → J.stop i H)
def liftI (G : Adr) (W : WX) (t : TID) : TI := fun σ H Rk => ∃ m ρ S K E, At G W m H ρ σ S E ∧ t ρ S K E ∧ ∀ items ok S' m' H' J, K items ok S' → Ext m H m' H' → Good G H' m' S' → ok S' → JOk G J items ok m' H' → Rk J H'
theorem PI.imp {tg e : Expr} {t t' : TI} (h : PI X tg e t) (i : ∀ σ H Q, t' σ H Q → t σ H Q) : PI X tg e t' := ⟨fun pins s σ H R I q => h.run pins s σ H R I (i _ _ _ q)⟩
theorem jok_list {n : Nat} {ds : List D} {m0 : List Addr} {H0 : Hp} {p : Addr} (hp : m0[n]? = some p) : JOk G (Itl G.K p) ds (fun S => lstOf S n = some ds) m0 H0 := by
  intro i m H S x g ok
  obtain ⟨p', vs, hp', sq, rs, _⟩ := g.lst ok
  have hpm : m[n]? = some p := by
    obtain ⟨r, rfl⟩ := x.pre
    rw [List.getElem?_append_left (List.getElem?_eq_some_iff.mp hp).1]; exact hp
  rw [hpm] at hp'; cases hp'
  refine ⟨fun d hd => ?_, fun hl => ⟨vs, sq, by rw [rs.length]; exact hl⟩⟩
  obtain ⟨v, hv, rv⟩ := rs.get hd
  refine ⟨⟨vs, v, sq, hv⟩, fun x H' hy => ?_⟩
  obtain ⟨rfl, hy⟩ := hy
  have e := hy vs sq
  rw [hv] at e; cases e
  exact ⟨.refl, g, rv, fun _ _ h => h⟩
theorem jok_tup {ds : List D} {m0 : List Addr} {H0 : Hp} {p : Addr} {vs : List V} (sq : SqT G.K H0 p vs) (rs : Rels G H0 m0 ds vs) : JOk G (Itt G.K p) ds (fun _ => True) m0 H0 := by
  intro i m H S x g ok
  have sq' := x.sqT sq
  have rs' := Rels.mono x _ _ rs
  refine ⟨fun d hd => ?_, fun hl => ⟨vs, sq', by rw [rs.length]; exact hl⟩⟩
  obtain ⟨v, hv, rv⟩ := rs'.get hd
  refine ⟨⟨vs, v, sq', hv⟩, fun x H' hy => ?_⟩
  obtain ⟨rfl, hy⟩ := hy
  have e := hy vs sq'
  rw [hv] at e; cases e
  exact ⟨.refl, g, rv, fun _ _ h => h⟩
theorem jok_ro {ds : List D} {m0 : List Addr} {H0 : Hp} {p : Addr} {vs : List V} (sq : SqR G.K H0 p vs) (rs : Rels G H0 m0 ds vs) : JOk G (Itl G.K p) ds (fun _ => True) m0 H0 := by
  intro i m H S x g ok
  have sq' : SqL G.K H p vs := SqR.sq (sq.imp (fun ⟨o, q⟩ => ⟨o, x.frz _ _ _ q⟩) id)
  have rs' := Rels.mono x _ _ rs
  refine ⟨fun d hd => ?_, fun hl => ⟨vs, sq', by rw [rs.length]; exact hl⟩⟩
  obtain ⟨v, hv, rv⟩ := rs'.get hd
  refine ⟨⟨vs, v, sq', hv⟩, fun x H' hy => ?_⟩
  obtain ⟨rfl, hy⟩ := hy
  have e := hy vs sq'
  rw [hv] at e; cases e
  exact ⟨.refl, g, rv, fun _ _ h => h⟩
theorem jok_range {lo : Int} {n : Nat} {m0 : List Addr} {H0 : Hp} : JOk G (Itr lo n) ((List.range n).map fun (k : Nat) => D.int (lo + k)) (fun _ => True) m0 H0 := by
  intro i m H S x g ok
  refine ⟨fun d hd => ?_, fun hl => by show n ≤ i; simpa using hl⟩
  rw [List.getElem?_map] at hd
  cases e : (List.range n)[i]? with
  | none => rw [e] at hd; cases hd
  | some j =>
    rw [e] at hd; cases hd
    obtain ⟨h1, h2⟩ := List.getElem?_eq_some_iff.mp e
    simp at h1 h2
    subst h2
    refine ⟨h1, fun x H' hy => ?_⟩
    obtain ⟨rfl, rfl⟩ := hy
    exact ⟨.refl, g, rfl, fun _ _ h => h⟩
theorem jok_str {z : Str} {m0 : List Addr} {H0 : Hp} : JOk G (Its z) (z.cps.toList.map fun c => D.str ⟨#[c]⟩) (fun _ => True) m0 H0 := by
  intro i m H S x g ok
  refine ⟨fun d hd => ?_, fun hl => by show z.cps.size ≤ i; simpa using hl⟩
  rw [List.getElem?_map] at hd
  cases e : z.cps.toList[i]? with
  | none => rw [e] at hd; cases hd
  | some ch =>
    rw [e] at hd; cases hd
    have e' : z.cps[i]? = some ch := by rw [← Array.getElem?_toList]; exact e
    obtain ⟨h1, _⟩ := Array.getElem?_eq_some_iff.mp e'
    refine ⟨h1, fun x H' hy => ?_⟩
    obtain ⟨rfl, c, hc, rfl⟩ := hy
    rw [e'] at hc; cases hc
    exact ⟨.refl, g, rfl, fun _ _ h => h⟩
theorem i_of {tg : Expr} (hK : X.K = G.K) (ha : PE X a (lift G W ta)) : PI X tg a (liftI G W fun ρ S K E => ta ρ S (fun d S1 => oIter d S1 K) E) := by
  refine ⟨fun pins s σ H Rk I q => ?_⟩
  obtain ⟨m, ρ, S, K, E, at', o, f⟩ := q
  refine thn (ha.run pins s σ H (fun v H1 => ∃ d S1 m1, oIter d S1 K ∧ Ext m H m1 H1 ∧ Good G H1 m1 S1 ∧ Rel G H1 m1 d v) I ⟨m, ρ, S, _, E, at', o, fun d S1 m1 H1 v r1 x1 g1 rel1 => ⟨d, S1, m1, r1, x1, g1, rel1⟩⟩) fun u s1 ⟨v, H1, I1, r1, d, S1, m1, o1, x1, g1, rel1⟩ => ?_
  unfold oIter at o1
  split at o1
  · obtain ⟨p, vs, rfl, sq, rs⟩ := rel1
    have j := jok_tup (G := G) (m0 := m1) (H0 := H1) sq rs
    rw [← hK] at sq j
    cases r1
    obtain ⟨its, rv, pl, hz⟩ := I1.tuple sq
    refine wpAny_pyIter_tuple (show s1.heap.IsTuple p its.toArray from pl) ?_
    exact pi_one (tk := s1.toks) I1 _ (turn_tuple p _) ⟨_, Heap.get?_push_size _ rfl, rfl, rfl⟩ (f _ _ S1 m1 H1 _ o1 x1 g1 trivial j)
  · obtain ⟨p, vs, rfl, sq, rs⟩ := rel1
    have j := jok_ro (G := G) (m0 := m1) (H0 := H1) sq rs
    have sq := sq.sq
    rw [← hK] at sq j
    cases r1
    obtain ⟨its, rv, pl, hz⟩ := I1.list sq
    refine wpAny_pyIter_list pl.isList ?_
    exact pi_one (tk := s1.toks) I1 _ (turn_list p _) ⟨_, Heap.get?_push_size _ rfl, rfl, rfl⟩ (f _ _ S1 m1 H1 _ o1 x1 g1 trivial j)
  · obtain ⟨ds, h0, o1⟩ := o1
    obtain ⟨p, vs, hp, sq, rs, hl⟩ := g1.lst h0
    obtain rfl := Rel.ref_inj rel1 hp
    have j := jok_list (G := G) (H0 := H1) (ds := ds) hp
    rw [← hK] at sq j
    cases r1
    obtain ⟨its, rv, pl, hz⟩ := I1.list sq
    refine wpAny_pyIter_list pl.isList ?_
    exact pi_one (tk := s1.toks) I1 _ (turn_list p _) ⟨_, Heap.get?_push_size _ rfl, rfl, rfl⟩ (f _ _ S1 m1 H1 _ o1 x1 g1 h0 j)
  · rename_i z
    cases rel1
    obtain ⟨t, rfl⟩ := r1
    have q := f _ _ S1 m1 H1 _ o1 x1 g1 trivial jok_str
    cases hz : z.cps.all (· < 128)
    · exact wpAny_pyIter_wide hz (pi_one (tk := s1.toks) I1 _ (turn_str _ z t "str_iterator" (.inr rfl)) ⟨_, Heap.get?_push_size _ rfl, rfl, rfl⟩ q)
    · exact wpAny_pyIter_ascii hz (pi_one (tk := s1.toks) I1 _ (turn_str _ z t "str_ascii_iterator" (.inl rfl)) ⟨_, Heap.get?_push_size _ rfl, rfl, rfl⟩ q)
  · exact o1.elim
theorem i_range1 {tg : Expr} (hg : Gl X "range") (hm : X.mg "range" = none) (pl : Plain a) (ha : PE X a (lift G W ta)) :
    PI X tg (.Call (.Name "range" p) [a] [] pos) (liftI G W fun ρ S K E => ta ρ S (fun x S1 => ∃ j, x = .int j ∧ -(2 ^ 62) ≤ j ∧ j < 2 ^ 62 ∧ K ((List.range j.toNat).map fun (k : Nat) => D.int k) (fun _ => True) S1) E) := by
  have hs : starEach [a] X.env = [(false, eval a X.env)] := pl.star [] X.env
  refine PI.imp (pi_range1 hg hm (pa_cons ha pa_nil hs) hs) fun σ H Q q => ?_
  obtain ⟨m, ρ, S, K, E, at', o, f⟩ := q
  refine ⟨m, ρ, S, _, E, at', o, fun d S1 m1 H1 v r1 x1 g1 rel1 => ?_⟩
  obtain ⟨j, rfl, h1, h2, r1⟩ := r1
  cases rel1
  have jk := jok_range (G := G) (lo := 0) (n := j.toNat) (m0 := m1) (H0 := H1)
  simp only [Int.zero_add] at jk
  exact ⟨j, rfl, h1, h2, f _ _ S1 m1 H1 _ r1 x1 g1 trivial jk⟩
theorem i_range2 {tg : Expr} (hg : Gl X "range") (hm : X.mg "range" = none) (pa : Plain a) (pb : Plain b) (ha : PE X a (lift G W ta)) (hb : PE X b (lift G W tb)) :
    PI X tg (.Call (.Name "range" p) [a, b] [] pos) (liftI G W fun ρ S K E => ta ρ S (fun x S1 => tb ρ S1 (fun y S2 => ∃ i j, x = .int i ∧ y = .int j ∧ (-(2 ^ 62) ≤ i ∧ i < 2 ^ 62 ∧ -(2 ^ 62) ≤ j ∧ j < 2 ^ 62) ∧ K ((List.range (j - i).toNat).map fun (k : Nat) => D.int (i + k)) (fun _ => True) S2) E) E) := by
  have hs2 : starEach [b] X.env = [(false, eval b X.env)] := pb.star [] X.env
  have hs1 : starEach [a, b] X.env = (false, eval a X.env) :: starEach [b] X.env := pa.star [b] X.env
  refine PI.imp (pi_range2 hg hm (pa_cons ha (pa_cons hb pa_nil hs2) hs1) (by rw [hs1, hs2]) hs2) fun σ H Q q => ?_
  obtain ⟨m, ρ, S, K, E, at', o, f⟩ := q
  refine ⟨m, ρ, S, _, E, at', o, fun d S1 m1 H1 v r1 x1 g1 rel1 => ?_⟩
  refine ⟨m1, ρ, S1, _, E, at'.mono x1 g1, r1, fun d2 S2 m2 H2 v2 r2 x2 g2 rel2 => ?_⟩
  obtain ⟨i, j, rfl, rfl, hb, r2⟩ := r2
  cases rel1; cases rel2
  exact ⟨i, j, rfl, hb, f _ _ S2 m2 H2 _ r2 (x1.trans x2) g2 trivial jok_range⟩
theorem jok_enum {n : Nat} {ds : List D} {m0 : List Addr} {H0 : Hp} {p : Addr} (hp : m0[n]? = some p) : JOk G (Ite G.K p) (ds.zipIdx.map fun q => .tup [.int q.2, q.1]) (fun S => lstOf S n = some ds) m0 H0 := by
  intro i m H S x g ok
  obtain ⟨p', vs, hp', sq, rs, _⟩ := g.lst ok
  have hpm : m[n]? = some p := by
    obtain ⟨r, rfl⟩ := x.pre
    rw [List.getElem?_append_left (List.getElem?_eq_some_iff.mp hp).1]; exact hp
  rw [hpm] at hp'; cases hp'
  refine ⟨fun d hd => ?_, fun hl => ⟨vs, sq, by rw [rs.length]; simpa using hl⟩⟩
  rw [List.getElem?_map] at hd
  cases e : ds.zipIdx[i]? with
  | none => rw [e] at hd; cases hd
  | some q =>
    rw [e] at hd; cases hd
    rw [List.getElem?_zipIdx] at e
    cases e2 : ds[i]? with
    | none => rw [e2] at e; cases e
    | some d =>
      rw [e2] at e
      simp at e
      subst e
      obtain ⟨v, hv, rv⟩ := rs.get e2
      refine ⟨⟨vs, v, sq, hv⟩, fun x H' hy => ?_⟩
      obtain ⟨T, y, rfl, hT, rfl, hy⟩ := hy
      have e := hy vs sq
      rw [hv] at e; cases e
      exact ⟨.obj hT, g.aside hT, ⟨T, _, rfl, .of upd_same, _, _, rfl, rfl, _, _, rfl, Rel.mono (Ext.obj hT).tp _ _ rv, rfl⟩, fun a o h => by rw [upd_ne (ne_of_none h hT)]; exact h⟩
theorem i_enum (hK : X.K = G.K) {elts : List Expr} {kk : Nat} {tpos : Pos} (hg : Gl X "enumerate") (hm : X.mg "enumerate" = none) (pl : Plain a) (ha : PE X a (lift G W ta)) :
    PI X (.Tuple elts kk tpos) (.Call (.Name "enumerate" p) [a] [] pos) (liftI G W fun ρ S K E => ta ρ S (fun x S1 => ∃ n ds, x = .ref n ∧ lstOf S1 n = some ds ∧ K (ds.zipIdx.map fun p => .tup [.int p.2, p.1]) (fun S' => lstOf S' n = some ds) S1) E) := by
  have hs : starEach [a] X.env = [(false, eval a X.env)] := pl.star [] X.env
  refine PI.imp (pi_enum hg hm (pa_cons ha pa_nil hs) hs) fun σ H Q q => ?_
  obtain ⟨m, ρ, S, K, E, at', o, f⟩ := q
  refine ⟨m, ρ, S, _, E, at', o, fun d S1 m1 H1 v r1 x1 g1 rel1 => ?_⟩
  obtain ⟨n, ds, rfl, h0, r1⟩ := r1
  obtain ⟨p, vs, hp, sq, rs, hl⟩ := g1.lst h0
  obtain rfl := Rel.ref_inj rel1 hp
  have j := jok_enum (G := G) (H0 := H1) (ds := ds) hp
  rw [← hK] at sq j
  exact ⟨p, vs, rfl, sq, f _ _ S1 m1 H1 _ r1 x1 g1 h0 j⟩
theorem jok_zip {n k : Nat} {ds es : List D} {m0 : List Addr} {H0 : Hp} {p q : Addr} (hp : m0[n]? = some p) (hq : m0[k]? = some q) :
    JOk G (Itz G.K p q) (List.zipWith (fun x y => .tup [x, y]) ds es) (fun S => lstOf S n = some ds ∧ lstOf S k = some es) m0 H0 := by
  intro i m H S x g ok
  have up : ∀ {n p}, m0[n]? = some p → m[n]? = some p := fun {n p} hp => by
    obtain ⟨r, rfl⟩ := x.pre
    rw [List.getElem?_append_left (List.getElem?_eq_some_iff.mp hp).1]; exact hp
  obtain ⟨p', vs, hp', sq, rs, _⟩ := g.lst ok.1
  obtain ⟨q', ws, hq', sq2, rs2, _⟩ := g.lst ok.2
  rw [up hp] at hp'; cases hp'
  rw [up hq] at hq'; cases hq'
  refine ⟨fun d hd => ?_, fun hl => ⟨vs, ws, sq, sq2, ?_⟩⟩
  · rw [List.getElem?_zipWith] at hd
    cases e : ds[i]? with
    | none => simp [e] at hd
    | some dx =>
      cases e2 : es[i]? with
      | none => simp [e, e2] at hd
      | some dy =>
        simp [e, e2] at hd
        subst hd
        obtain ⟨v, hv, rv⟩ := rs.get e
        obtain ⟨w, hw, rw'⟩ := rs2.get e2
        refine ⟨⟨vs, ws, v, w, sq, sq2, hv, hw⟩, fun x H' hy => ?_⟩
        obtain ⟨T, y, z, rfl, hT, rfl, hy, hz⟩ := hy
        have e := hy vs sq
        rw [hv] at e; cases e
        have e := hz ws sq2
        rw [hw] at e; cases e
        exact ⟨.obj hT, g.aside hT, ⟨T, _, rfl, .of upd_same, _, _, rfl, Rel.mono (Ext.obj hT).tp _ _ rv, _, _, rfl, Rel.mono (Ext.obj hT).tp _ _ rw', rfl⟩, fun a o h => by rw [upd_ne (ne_of_none h hT)]; exact h⟩
  · rw [rs.length, rs2.length]
    simp at hl
    omega
theorem jok_zipT {ds es : List D} {m0 : List Addr} {H0 : Hp} {p q : Addr} {vs ws : List V} (sq : SqT G.K H0 p vs) (rs : Rels G H0 m0 ds vs) (sq2 : SqT G.K H0 q ws) (rs2 : Rels G H0 m0 es ws) :
    JOk G (RZ.ItzT G.K p q) (List.zipWith (fun x y => .tup [x, y]) ds es) (fun _ => True) m0 H0 := by
  intro i m H S x g ok
  have sq' := x.sqT sq
  have rs' := Rels.mono x _ _ rs
  have sq2' := x.sqT sq2
  have rs2' := Rels.mono x _ _ rs2
  refine ⟨fun d hd => ?_, fun hl => ⟨vs, ws, sq', sq2', ?_⟩⟩
  · rw [List.getElem?_zipWith] at hd
    cases e : ds[i]? with
    | none => simp [e] at hd
    | some dx =>
      cases e2 : es[i]? with
      | none => simp [e, e2] at hd
      | some dy =>
        simp [e, e2] at hd
        subst hd
        obtain ⟨v, hv, rv⟩ := rs'.get e
        obtain ⟨w, hw, rw'⟩ := rs2'.get e2
        refine ⟨⟨vs, ws, v, w, sq', sq2', hv, hw⟩, fun x H' hy => ?_⟩
        obtain ⟨T, y, z, rfl, hT, rfl, hy, hz⟩ := hy
        have e := hy vs sq'
        rw [hv] at e; cases e
        have e := hz ws sq2'
        rw [hw] at e; cases e
        exact ⟨.obj hT, g.aside hT, ⟨T, _, rfl, .of upd_same, _, _, rfl, Rel.mono (Ext.obj hT).tp _ _ rv, _, _, rfl, Rel.mono (Ext.obj hT).tp _ _ rw', rfl⟩, fun a o h => by rw [upd_ne (ne_of_none h hT)]; exact h⟩
  · rw [rs.length, rs2.length]
    simp at hl
    omega
theorem jok_mix {t u : Bool} {ok : Sto → Prop} {ds es : List D} {m0 : List Addr} {H0 : Hp} {p q : Addr}
    (h1 : ∀ m H S, Tp m0 H0 m H → Good G H m S → ok S → ∃ vs, ZM.Sq t G.K H p vs ∧ Rels G H m ds vs) (h2 : ∀ m H S, Tp m0 H0 m H → Good G H m S → ok S → ∃ vs, ZM.Sq u G.K H q vs ∧ Rels G H m es vs) :
    JOk G (ZM.ItM t u G.K p q) (List.zipWith (fun x y => .tup [x, y]) ds es) ok m0 H0 := by
  intro i m H S x g o
  obtain ⟨vs, sq, rs⟩ := h1 m H S x g o
  obtain ⟨ws, sq2, rs2⟩ := h2 m H S x g o
  refine ⟨fun d hd => ?_, fun hl => ⟨vs, ws, sq, sq2, ?_⟩⟩
  · rw [List.getElem?_zipWith] at hd
    cases e : ds[i]? with
    | none => simp [e] at hd
    | some dx =>
      cases e2 : es[i]? with
      | none => simp [e, e2] at hd
      | some dy =>
        simp [e, e2] at hd
        subst hd
        obtain ⟨v, hv, rv⟩ := rs.get e
        obtain ⟨w, hw, rw'⟩ := rs2.get e2
        refine ⟨⟨vs, ws, v, w, sq, sq2, hv, hw⟩, fun x H' hy => ?_⟩
        obtain ⟨T, y, z, rfl, hT, rfl, hy, hz⟩ := hy
        have e := hy vs sq
        rw [hv] at e; cases e
        have e := hz ws sq2
        rw [hw] at e; cases e
        exact ⟨.obj hT, g.aside hT, ⟨T, _, rfl, .of upd_same, _, _, rfl, Rel.mono (Ext.obj hT).tp _ _ rv, _, _, rfl, Rel.mono (Ext.obj hT).tp _ _ rw', rfl⟩, fun a o h => by rw [upd_ne (ne_of_none h hT)]; exact h⟩
  · rw [rs.length, rs2.length]
    simp at hl
    omega
theorem i_zip (hK : X.K = G.K) {elts : List Expr} {kk : Nat} {tpos : Pos} (hg : Gl X "zip") (hm : X.mg "zip" = none) (pa : Plain a) (pb : Plain b) (ha : PE X a (lift G W ta)) (hb : PE X b (lift G W tb)) :
    PI X (.Tuple elts kk tpos) (.Call (.Name "zip" p) [a, b] [] pos) (liftI G W fun ρ S K E => ta ρ S (fun x S1 => tb ρ S1 (fun y S2 => oZip x y S2 K) E) E) := by
  have hs2 : starEach [b] X.env = [(false, eval b X.env)] := pb.star [] X.env
  have hs1 : starEach [a, b] X.env = (false, eval a X.env) :: starEach [b] X.env := pa.star [b] X.env
  refine PI.imp (ZM.pi_zipX hg hm (pa_cons ha (pa_cons hb pa_nil hs2) hs1) hs1 (by rw [hs2]; rfl)) fun σ H Q q => ?_
  obtain ⟨m, ρ, S, K, E, at', o, f⟩ := q
  refine ⟨m, ρ, S, _, E, at', o, fun d S1 m1 H1 v r1 x1 g1 rel1 => ?_⟩
  refine ⟨m1, ρ, S1, _, E, at'.mono x1 g1, r1, fun d2 S2 m2 H2 v2 r2 x2 g2 rel2 => ?_⟩
  have rel1' := Rel.mono x2.tp _ _ rel1
  unfold oZip at r2
  split at r2
  · rename_i n es
    obtain ⟨ds, h1, r2⟩ := r2
    obtain ⟨p, vs, hp, sq, rs, _⟩ := g2.lst h1
    obtain rfl := Rel.ref_inj rel1' hp
    obtain ⟨q, ws, rfl, sq2, rs2⟩ := rel2
    have j := jok_mix (G := G) (t := false) (u := true) (m0 := m2) (H0 := H2) (p := p) (q := q) (ds := ds) (es := es) (ok := fun S' => lstOf S' n = some ds) (fun m H S x g o => by
      obtain ⟨p', vs', hp', sq', rs', _⟩ := g.lst o
      have hpm : m[n]? = some p := by
        obtain ⟨r, rfl⟩ := x.pre
        rw [List.getElem?_append_left (List.getElem?_eq_some_iff.mp hp).1]; exact hp
      rw [hpm] at hp'; cases hp'
      exact ⟨vs', sq', rs'⟩) fun m H S x g o => ⟨ws, x.sqT sq2, Rels.mono x _ _ rs2⟩
    rw [← hK] at sq sq2 j
    exact ⟨p, q, vs, ws, rfl, .inr (.inr ⟨false, true, by decide, sq, sq2, f _ _ S2 m2 H2 _ r2 (x1.trans x2) g2 h1 j⟩)⟩
  · rename_i ds n
    obtain ⟨es, h1, r2⟩ := r2
    obtain ⟨q, ws, hq, sq2, rs2, _⟩ := g2.lst h1
    obtain rfl := Rel.ref_inj rel2 hq
    obtain ⟨p, vs, rfl, sq, rs⟩ := rel1'
    have j := jok_mix (G := G) (t := true) (u := false) (m0 := m2) (H0 := H2) (p := p) (q := q) (ds := ds) (es := es) (ok := fun S' => lstOf S' n = some es) (fun m H S x g o => ⟨vs, x.sqT sq, Rels.mono x _ _ rs⟩) fun m H S x g o => by
      obtain ⟨p', vs', hp', sq', rs', _⟩ := g.lst o
      have hpm : m[n]? = some q := by
        obtain ⟨r, rfl⟩ := x.pre
        rw [List.getElem?_append_left (List.getElem?_eq_some_iff.mp hq).1]; exact hq
      rw [hpm] at hp'; cases hp'
      exact ⟨vs', sq', rs'⟩
    rw [← hK] at sq sq2 j
    exact ⟨p, q, vs, ws, rfl, .inr (.inr ⟨true, false, by decide, sq, sq2, f _ _ S2 m2 H2 _ r2 (x1.trans x2) g2 h1 j⟩)⟩
  · rcases r2 with ⟨n, k, ds, es, rfl, rfl, h1, h2, r2⟩ | ⟨ds, es, rfl, rfl, r2⟩
    · obtain ⟨p, vs, hp, sq, rs, _⟩ := g2.lst h1
      obtain ⟨q, ws, hq, sq2, rs2, _⟩ := g2.lst h2
      obtain rfl := Rel.ref_inj rel1' hp
      obtain rfl := Rel.ref_inj rel2 hq
      have j := jok_zip (G := G) (H0 := H2) (ds := ds) (es := es) hp hq
      rw [← hK] at sq sq2 j
      exact ⟨p, q, vs, ws, rfl, .inl ⟨sq, sq2, f _ _ S2 m2 H2 _ r2 (x1.trans x2) g2 ⟨h1, h2⟩ j⟩⟩
    · obtain ⟨p, vs, rfl, sq, rs⟩ := rel1'
      obtain ⟨q, ws, rfl, sq2, rs2⟩ := rel2
      have j := jok_zipT (G := G) (m0 := m2) (H0 := H2) sq rs sq2 rs2
      rw [← hK] at sq sq2 j
      exact ⟨p, q, vs, ws, rfl, .inr (.inl ⟨sq, sq2, f _ _ S2 m2 H2 _ r2 (x1.trans x2) g2 trivial j⟩)⟩
end
end Ip

-- P10
set_option Elab.async false
set_option linter.all false
set_option maxRecDepth 100000
namespace Ip
open PySem L2 PyProof.Rows

/-! ### stores -/
def slotsT : Tg → List Nat
  | .name i => [i] | .nil => [] | .cons t r => slotsT t ++ slotsT r
theorem wipe_set {i : Nat} {x : Option V} : ∀ {vs : List Nat} {σ : L2.St}, i ∈ vs → wipe (σ.set i x) vs = wipe σ vs
  | [], _, h => by cases h
  | v :: vs, σ, h => by
    unfold wipe
    by_cases hi : i ∈ vs
    · rw [wipe_set hi]
    · have e : v = i := by
        rcases List.mem_cons.mp h with e | e
        · exact e.symm
        · exact absurd e hi
      subst e
      have : ∀ (vs : List Nat) (σ : L2.St), v ∉ vs → wipe (σ.set v x) vs = (wipe σ vs).set v x := by
        intro vs
        induction vs with
        | nil => intro σ _; rfl
        | cons w ws ih =>
          intro σ hn
          simp only [List.mem_cons, not_or] at hn
          unfold wipe
          rw [ih σ hn.2, List.set_comm _ _ hn.1]
      rw [this vs σ hi, List.set_set]
theorem wipe_twice (σ : L2.St) : ∀ (vs ws : List Nat), (∀ i ∈ ws, i ∈ vs) → wipe (wipe σ vs) ws = wipe σ vs := by
  intro vs ws
  induction ws with
  | nil => intro _; rfl
  | cons w ws ih =>
    intro h
    show (wipe (wipe σ vs) ws).set w none = wipe σ vs
    rw [ih fun i hi => h i (List.mem_cons_of_mem _ hi)]
    have hm := h w List.mem_cons_self
    have gn : ∀ (vs : List Nat) (σ : L2.St), w ∈ vs → (wipe σ vs).set w none = wipe σ vs := by
      intro vs
      induction vs with
      | nil => intro _ h; cases h
      | cons u us ih2 =>
        intro σ h
        unfold wipe
        by_cases e : u = w
        · subst e; rw [List.set_set]
        · rw [List.set_comm _ _ e, ih2 σ (by rcases List.mem_cons.mp h with h | h; exact absurd h.symm e; exact h)]
    exact gn vs σ hm
section
variable {G : Adr} {H : Hp} {m : List Addr}
theorem EnvOk.set {ρ : Env} {σ : L2.St} {i : Nat} {d : D} {v : V} (e : EnvOk G H m ρ σ) (r : Rel G H m d v) : EnvOk G H m (ρ.set i (some d)) (σ.set i (some v)) := by
  refine ⟨by simp [e.len], fun j dj hj => ?_⟩
  by_cases hi : i = j
  · subst hi
    have hl := (List.getElem?_eq_some_iff.mp hj).1
    rw [List.length_set] at hl
    rw [List.getElem?_set_self hl] at hj
    cases hj
    exact ⟨v, List.getElem?_set_self (by rw [← e.len]; exact hl), r⟩
  · rw [List.getElem?_set_ne hi] at hj ⊢
    exact e.get j dj hj
theorem EnvOk.unset {ρ : Env} {σ : L2.St} {i : Nat} (e : EnvOk G H m ρ σ) : EnvOk G H m (ρ.set i none) (σ.set i none) := by
  refine ⟨by simp [e.len], fun j dj hj => ?_⟩
  by_cases hi : i = j
  · subst hi
    have hl := (List.getElem?_eq_some_iff.mp hj).1
    rw [List.length_set] at hl
    rw [List.getElem?_set_self hl] at hj
    cases hj
  · rw [List.getElem?_set_ne hi] at hj ⊢
    exact e.get j dj hj
theorem EnvOk.wiped {ρ : Env} {σ : L2.St} (e : EnvOk G H m ρ σ) : ∀ vs, EnvOk G H m (wipeD ρ vs) (wipe σ vs)
  | [] => e
  | v :: vs => (EnvOk.wiped e vs).unset
end
section
variable {X : Cx} {G : Adr} {W : WX} {pos p : Pos}
def liftG (G : Adr) (tg : Tg) : TG := fun v σ H Q => ∃ m ρ S d ρ1, Good G H m S ∧ EnvOk G H m ρ σ ∧ Rel G H m d v ∧ bindT tg d ρ = some ρ1 ∧ ∀ σ1, EnvOk G H m ρ1 σ1 → (∀ vs, (∀ i ∈ slotsT tg, i ∈ vs) → wipe σ1 vs = wipe σ vs) → Q σ1 H
def liftGs (G : Adr) (tg : Tg) : TGs := fun vs σ H Q => ∃ m ρ S ds ρ1, Good G H m S ∧ EnvOk G H m ρ σ ∧ Rels G H m ds vs ∧ bindT tg (.tup ds) ρ = some ρ1 ∧ ∀ σ1, EnvOk G H m ρ1 σ1 → (∀ vs, (∀ i ∈ slotsT tg, i ∈ vs) → wipe σ1 vs = wipe σ vs) → Q σ1 H
def liftGA (G : Adr) (tg : Tg) : TG := fun v σ H Q => ∃ m ρ S d ρ1, Good G H m S ∧ EnvOk G H m ρ σ ∧ Rel G H m d v ∧ bindA tg d S ρ = some ρ1 ∧ ∀ σ1, EnvOk G H m ρ1 σ1 → (∀ vs, (∀ i ∈ slotsT tg, i ∈ vs) → wipe σ1 vs = wipe σ vs) → Q σ1 H
theorem pg_or {e : Expr} {t t' : TG} (h : PG X e t) (h' : PG X e t') : PG X e (fun v σ H Q => t v σ H Q ∨ t' v σ H Q) :=
  ⟨fun pins s σ H v u Q I r q => q.elim (h.run pins s σ H v u Q I r) (h'.run pins s σ H v u Q I r)⟩
theorem PGs.imp {e : List Expr} {t t' : TGs} (h : PGs X e t) (i : ∀ v σ H Q, t' v σ H Q → t v σ H Q) : PGs X e t' := ⟨fun pins s σ H v u Q I r q => h.run pins s σ H v u Q I r (i _ _ _ _ q)⟩
theorem g_name {i : Nat} {x : Str} (hN : X.N.Nodup) (hi : X.N[i]? = some x) (hx : Loc X.env.scope x) (hf : X.fn x = true ∨ X.env.scope.names.lookup x = some .local) : PG X (.Name x pos) (liftG G (.name i)) := by
  refine PG.imp (pg_name hN hi hx hf) fun v σ H Q q => ?_
  obtain ⟨m, ρ, S, d, ρ1, g, e, r, b, f⟩ := q
  simp only [bindT, Option.some.injEq] at b
  subst b
  exact f _ (e.set r) fun vs hv => wipe_set (hv i (by simp [slotsT]))
theorem gs_nil : PGs X [] (liftGs G .nil) := by
  refine PGs.imp pgs_nil fun v σ H Q q => ?_
  obtain ⟨m, ρ, S, ds, ρ1, g, e, r, b, f⟩ := q
  cases ds with
  | nil =>
    simp only [bindT, Option.some.injEq] at b
    subst b
    cases r
    exact ⟨rfl, f _ e fun _ _ => rfl⟩
  | cons d ds => simp [bindT] at b
theorem gs_cons {e : Expr} {es : List Expr} {t r : Tg} (h1 : PG X e (liftG G t)) (h2 : PGs X es (liftGs G r)) (hs : (assignEach (e :: es) X.env).map (·.2) = assign e X.env :: (assignEach es X.env).map (·.2)) :
    PGs X (e :: es) (liftGs G (.cons t r)) := by
  refine PGs.imp (pgs_cons h1 h2 hs) fun v σ H Q q => ?_
  obtain ⟨m, ρ, S, ds, ρ1, g, env, rs, b, f⟩ := q
  cases ds with
  | nil => simp [bindT] at b
  | cons d ds =>
    obtain ⟨v0, vr, rfl, r1, r2⟩ := rs
    simp only [bindT] at b
    cases hb : bindT t d ρ with
    | none => rw [hb] at b; cases b
    | some ρ0 =>
      rw [hb] at b
      simp only [Option.bind_some] at b
      refine ⟨v0, vr, rfl, m, ρ, S, d, ρ0, g, env, r1, hb, fun σ1 env1 w1 => ?_⟩
      refine ⟨m, ρ0, S, ds, ρ1, g, env1, r2, b, fun σ2 env2 w2 => f σ2 env2 fun vs hv => ?_⟩
      rw [w2 vs fun i hi => hv i (by simp [slotsT, hi]), w1 vs fun i hi => hv i (by simp [slotsT, hi])]
theorem bindT_len {r : Tg} : ∀ {ds : List D} {ρ ρ1 : Env}, bindT r (.tup ds) ρ = some ρ1 → ∀ {es : List Expr} (n : Nat), n = ds.length → True := fun _ _ _ _ => trivial
def tgLen : Tg → Option Nat
  | .nil => some 0
  | .cons _ r => (tgLen r).map (· + 1)
  | .name _ => none
theorem bindT_length : ∀ {r : Tg} {ds : List D} {ρ ρ1 : Env} {n : Nat}, tgLen r = some n → bindT r (.tup ds) ρ = some ρ1 → ds.length = n
  | .nil, [], _, _, _, h, _ => by simp [tgLen] at h; subst h; rfl
  | .nil, _ :: _, _, _, _, _, b => by simp [bindT] at b
  | .cons t r, [], _, _, _, _, b => by simp [bindT] at b
  | .cons t r, d :: ds, ρ, _, n, h, b => by
    simp only [bindT] at b
    cases hb : bindT t d ρ with
    | none => rw [hb] at b; cases b
    | some ρ0 =>
      rw [hb] at b
      simp only [tgLen] at h
      cases hr : tgLen r with
      | none => rw [hr] at h; cases h
      | some k =>
        rw [hr] at h
        simp at h
        subst h
        simp [bindT_length hr b]
  | .name _, _, _, _, _, h, _ => by simp [tgLen] at h
theorem g_tup (hK : X.K = G.K) (hc : X.calm = true) {es : List Expr} {k : Nat} {tg : Tg} {n : Nat} (h : PGs X es (liftGs G tg)) (ht : tgLen tg = some n) (hn : (assignEach es X.env).length = n) (hst : (assignEach es X.env).findIdx? (·.1) = none) :
    PG X (.Tuple es k pos) (liftG G tg) := by
  refine PG.imp (pg_tup hc h hn hst) fun v σ H Q q => ?_
  obtain ⟨m, ρ, S, d, ρ1, g, env, r, b, f⟩ := q
  cases d with
  | tup ds =>
    obtain ⟨a, vs, rfl, sq, rs⟩ := r
    rw [← hK] at sq
    exact ⟨a, vs, rfl, sq, by rw [rs.length]; exact bindT_length ht b, m, ρ, S, ds, ρ1, g, env, rs, b, f⟩
  | _ => cases tg <;> first | (simp [tgLen] at ht; done) | (simp [bindT] at b; done)
theorem g_nameA {i : Nat} {e : Expr} (h : PG X e (liftG G (.name i))) : PG X e (liftGA G (.name i)) := PG.imp h fun v σ H Q q => by
  obtain ⟨m, ρ, S, d, ρ1, g, env, r, b, f⟩ := q
  exact ⟨m, ρ, S, d, ρ1, g, env, r, b, f⟩
theorem g_tupA (hK : X.K = G.K) (hc : X.calm = true) {es : List Expr} {k : Nat} {tg : Tg} {n : Nat} (h : PGs X es (liftGs G tg)) (ht : tgLen tg = some n) (hn : (assignEach es X.env).length = n) (hst : (assignEach es X.env).findIdx? (·.1) = none) :
    PG X (.Tuple es k pos) (liftGA G tg) := by
  refine PG.imp (pg_or (g_tup (pos := pos) (k := k) hK hc h ht hn hst) (pg_lst (pos := pos) (k := k) hc h hn hst)) fun v σ H Q q => ?_
  obtain ⟨m, ρ, S, d, ρ1, g, env, r, b, f⟩ := q
  cases tg with
  | name i => simp [tgLen] at ht
  | nil => exact .inl ⟨m, ρ, S, d, ρ1, g, env, r, b, f⟩
  | cons t r' =>
    cases d with
    | ref z =>
      simp only [bindA] at b
      cases hl : lstOf S z with
      | none => rw [hl] at b; cases b
      | some ds =>
        rw [hl] at b
        obtain ⟨a, vs, ha, sq, rs, _⟩ := g.lst hl
        obtain rfl := Rel.ref_inj r ha
        rw [← hK] at sq
        exact .inr ⟨a, vs, rfl, sq, by rw [rs.length]; exact bindT_length ht b, m, ρ, S, ds, ρ1, g, env, rs, b, f⟩
    | _ => exact .inl ⟨m, ρ, S, _, ρ1, g, env, r, b, f⟩

/-! ### list comprehensions -/
theorem Ext.out {m m' : List Addr} {H H' : Hp} {p : Addr} {o : HO} (x : Ext m H m' H') (hp : H p = none) : Ext m H m' (upd H' p o) :=
  ⟨x.pre, fun a o' h c => by rw [upd_ne (ne_of_none h hp)]; exact x.keep a o' h c, x.new⟩
theorem Ext.own {m m' : List Addr} {H H' : Hp} {p : Addr} (x : Ext m H m' H') (hp : H p = none) : Ext m H (m' ++ [p]) H' :=
  ⟨x.pre.trans (List.prefix_append _ _), x.keep, fun a h n => by
    rcases List.mem_append.mp h with h | h
    · exact x.new a h n
    · simp at h; subst h; exact hp⟩
theorem Ext.free {m m' : List Addr} {H H' : Hp} {p : Addr} {o : HO} (x : Ext m H m' H') (hp : H p = some o) (n : p ∉ m) : p ∉ m' := fun h => by
  have := x.new p h n
  rw [hp] at this; cases this
abbrev W0 : WX := fun _ _ _ _ => False
/-- behind the clause's tests: an item is put to the list, or not -/
theorem e_comp (hc : X.calm = true) (hN : X.N.Nodup) {elt tg iter : Expr} {ifs : List Expr} {scope : Scope} {own : List (Str × Nat)} {wi : TID} {tD : Tg} {wf : TBD} {we : TD}
    (hi : PI X tg iter (liftI G W wi)) (ok : BlkOk X.N X.env.scope scope own) (hv : ∀ i ∈ slotsT tD, i ∈ own.map (·.2))
    (hg : ∀ (s : Shared) (H : Hp) (C : Addr) (cl : List (Str × Addr)) (fp : List Addr), PG (X.blk s H scope (compEnvC scope cl C X.env) fp) tg (liftG G tD))
    (ht : ∀ (s : Shared) (H : Hp) (C : Addr) (cl : List (Str × Addr)) (fp : List Addr), PTs (X.blk s H scope (compEnvC scope cl C X.env) fp) ifs (liftB G W0 wf))
    (he : ∀ (s : Shared) (H : Hp) (C : Addr) (cl : List (Str × Addr)) (fp : List Addr), PE (X.blk s H scope (compEnvC scope cl C X.env) fp) elt (lift G W0 we)) (hs : ∀ x, foldedSetIterable iter X.env x = pure x)
    {σ : L2.St} {H : Hp} {Q : VK} {m : List Addr} {ρ : Env} {S : Sto} {R : RD} {E : XD} (at' : At G W m H ρ σ S E)
    (o : wi ρ S (fun ds ok S1 => loopC (bindT tD) ok (wipeD ρ (own.map (·.2))) (fun acc ρ1 S2 K => wf ρ1 S2 (fun k S3 => if k = true then we ρ1 S3 (fun y S4 => acc.length < sizeLine ∧ K (acc ++ [y]) S4) noX else K acc S3) noX)
      (fun acc S2 => R (.ref S2.length) (S2 ++ [.lst acc])) ds [] S1) E) (f : Fin G m H R Q) : tLc (liftI G W wi) (liftG G tD) (liftB G W0 wf) (lift G W0 we) (own.map (·.2)) σ H Q := by
  refine ⟨m, ρ, S, _, E, at', o, fun items okS S1 m1 H1 J k1 x1 g1 ok1 jok => fun D' hD => ?_⟩
  have nD1 : D' ∉ m1 := fun h => by
    obtain ⟨i, hi', e⟩ := List.mem_iff_getElem.mp h
    obtain ⟨o', e'⟩ := g1.addr (n := i) (a := D') (by rw [List.getElem?_eq_getElem hi', e])
    rw [hD] at e'; cases e'
  let vs := own.map (·.2)
  refine ⟨fun i n H2 => ∃ m2 S2 acc va, Ext m1 H1 m2 H2 ∧ Good G H2 m2 S2 ∧ okS S2 ∧ H2 D' = some (.lst va) ∧ D' ∉ m2 ∧ Rels G H2 m2 acc va ∧ acc.length ≤ sizeLine ∧ n = items.length - i ∧ i ≤ items.length ∧
      loopC (bindT tD) okS (wipeD ρ vs) (fun acc ρ1 S2 K => wf ρ1 S2 (fun k S3 => if k = true then we ρ1 S3 (fun y S4 => acc.length < sizeLine ∧ K (acc ++ [y]) S4) noX else K acc S3) noX)
        (fun acc S2 => R (.ref S2.length) (S2 ++ [.lst acc])) (items.drop i) acc S2, ⟨items.length, m1, S1, [], [], .obj hD, g1.aside hD, ok1, upd_same, nD1, rfl, Nat.zero_le _, by simp, Nat.zero_le _, k1⟩, ?_⟩
  rintro i n H2 ⟨m2, S2, acc, va, x2, g2, ok2, hD2, nD2, ra, la, rfl, hi2, lp⟩
  have jk := jok i m2 H2 S2 x2.tp g2 ok2
  by_cases hlt : i < items.length
  · have hd : items[i]? = some items[i] := List.getElem?_eq_getElem hlt
    obtain ⟨go, yl⟩ := jk.1 _ hd
    rw [List.drop_eq_getElem_cons hlt] at lp
    simp only [loopC] at lp
    cases hb : bindT tD items[i] (wipeD ρ vs) with
    | none => rw [hb] at lp; exact lp.elim
    | some ρ1 =>
      rw [hb] at lp
      simp only at lp
      refine .inr ⟨go, _, fun H' h => ⟨items.length - (i + 1), by omega, h⟩, fun x H' hy => ?_⟩
      obtain ⟨x3, g3, rx, kp⟩ := yl x H' hy
      have env2 : EnvOk G H' m2 (wipeD ρ vs) (wipe σ vs) := (at'.env.mono ((x1.trans x2).trans x3).tp).wiped vs
      refine ⟨m2, _, S2, items[i], ρ1, g3, env2, rx, hb, fun σ1 env3 hw => ⟨?_, ?_⟩⟩
      · rw [hw vs hv]
        exact wipe_twice σ vs vs fun _ h => h
      have hD3 : H' D' = some (.lst va) := kp _ _ hD2
      have atB : At G W0 m2 H' ρ1 σ1 S2 noX := ⟨g3, env3, fun _ _ _ _ _ _ _ _ h => h.elim⟩
      refine ⟨m2, ρ1, S2, _, noX, atB, lp, fun k S3 m3 H3 r3 x4 g4 => ?_⟩
      have hD4 : H3 D' = some (.lst va) := x4.keep _ _ hD3 (.inl nD2)
      have nD4 : D' ∉ m3 := x4.free hD3 nD2
      cases k with
      | false =>
        simp only [Bool.false_eq_true, if_false] at r3 ⊢
        obtain ⟨okn, r3⟩ := r3
        exact ⟨m3, S3, acc, va, (x2.trans x3).trans x4, g4, okn, hD4, nD4, Rels.mono (x3.trans x4).tp _ _ ra, la, by first | trivial | rfl, hlt, r3⟩
      | true =>
        simp only [if_true] at r3 ⊢
        refine ⟨m3, ρ1, S3, _, noX, atB.mono x4 g4, r3, fun y S4 m4 H4 v r4 x5 g5 rel => ?_⟩
        obtain ⟨hl, okn, r4⟩ := r4
        have hD5 : H4 D' = some (.lst va) := x5.keep _ _ hD4 (.inl nD4)
        have nD5 : D' ∉ m4 := x5.free hD4 nD4
        have ra5 : Rels G H4 m4 acc va := Rels.mono ((x3.trans x4).trans x5).tp _ _ ra
        have t6 : Tp m4 H4 m4 (upd H4 D' (.lst (va ++ [v]))) := .put hD5 (fun _ e => by cases e) (fun _ _ e => by cases e)
        refine ⟨va, hD5, by rw [ra.length]; exact hl, m4, S4, acc ++ [y], va ++ [v], (((x2.trans x3).trans x4).trans x5).out hD, g5.beside nD5 hD5 (fun _ e => by cases e) (fun _ _ e => by cases e), okn, upd_same, nD5, Rels.mono t6 _ _ (ra5.snoc rel), ?_, by first | trivial | rfl, hlt, r4⟩
        simp
        omega
  · have e : i = items.length := by omega
    subst e
    refine .inl ⟨jk.2 (Nat.le_refl _), ?_⟩
    rw [List.drop_length] at lp
    simp only [loopC] at lp
    refine f _ _ (m2 ++ [D']) H2 _ lp (x1.trans (x2.own hD)) (g2.taken nD2 ⟨va, hD2, Rels.mono ⟨List.prefix_append _ _, fun _ _ h => h, fun _ _ _ h => h⟩ _ _ ra, la⟩) ⟨D', ?_, rfl⟩
    rw [← g2.len, List.getElem?_append_right (Nat.le_refl _)]
    simp
/-- two clauses -/
theorem e_comp2 {own : List (Str × Nat)} {vs1 : List Nat} {wi wi1 : TID} {tD tD1 : Tg} {wf wf1 : TBD} {we : TD}
    (hv : ∀ i ∈ slotsT tD, i ∈ own.map (·.2)) (hv1 : ∀ i ∈ slotsT tD1, i ∈ vs1)
    {σ : L2.St} {H : Hp} {Q : VK} {m : List Addr} {ρ : Env} {S : Sto} {R : RD} {E : XD} (at' : At G W m H ρ σ S E)
    (o : wi ρ S (fun ds ok S1 => loopC (bindT tD) ok (wipeD ρ (own.map (·.2))) (fun acc ρ1 S2 K => wf ρ1 S2 (fun k S3 => if k = true then wi1 ρ1 S3 (fun es ok1 S4 => loopC (bindT tD1) ok1 (wipeD ρ1 vs1) (fun acc ρ2 S5 K1 => wf1 ρ2 S5 (fun k1 S6 => if k1 = true then we ρ2 S6 (fun y S7 => acc.length < sizeLine ∧ K1 (acc ++ [y]) S7) noX else K1 acc S6) noX) K es acc S4) noX else K acc S3) noX)
      (fun acc S2 => R (.ref S2.length) (S2 ++ [.lst acc])) ds [] S1) E) (f : Fin G m H R Q) :
    tLc2 (liftI G W wi) (liftG G tD) (liftB G W0 wf) (liftI G W0 wi1) (liftG G tD1) (liftB G W0 wf1) (lift G W0 we) (own.map (·.2)) vs1 σ H Q := by
  refine ⟨m, ρ, S, _, E, at', o, fun items okS S1 m1 H1 J k1 x1 g1 ok1 jok => fun D' hD => ?_⟩
  have nD1 : D' ∉ m1 := fun h => by
    obtain ⟨i, hi', e⟩ := List.mem_iff_getElem.mp h
    obtain ⟨o', e'⟩ := g1.addr (n := i) (a := D') (by rw [List.getElem?_eq_getElem hi', e])
    rw [hD] at e'; cases e'
  let vs := own.map (·.2)
  refine ⟨fun i n H2 => ∃ m2 S2 acc va, Ext m1 H1 m2 H2 ∧ Good G H2 m2 S2 ∧ okS S2 ∧ H2 D' = some (.lst va) ∧ D' ∉ m2 ∧ Rels G H2 m2 acc va ∧ acc.length ≤ sizeLine ∧ n = items.length - i ∧ i ≤ items.length ∧
      loopC (bindT tD) okS (wipeD ρ vs) (fun acc ρ1 S2 K => wf ρ1 S2 (fun k S3 => if k = true then wi1 ρ1 S3 (fun es ok1 S4 => loopC (bindT tD1) ok1 (wipeD ρ1 vs1) (fun acc ρ2 S5 K1 => wf1 ρ2 S5 (fun k1 S6 => if k1 = true then we ρ2 S6 (fun y S7 => acc.length < sizeLine ∧ K1 (acc ++ [y]) S7) noX else K1 acc S6) noX) K es acc S4) noX else K acc S3) noX)
        (fun acc S2 => R (.ref S2.length) (S2 ++ [.lst acc])) (items.drop i) acc S2, ⟨items.length, m1, S1, [], [], .obj hD, g1.aside hD, ok1, upd_same, nD1, rfl, Nat.zero_le _, by simp, Nat.zero_le _, k1⟩, ?_⟩
  rintro i n H2 ⟨m2, S2, acc, va, x2, g2, ok2, hD2, nD2, ra, la, rfl, hi2, lp⟩
  have jk := jok i m2 H2 S2 x2.tp g2 ok2
  by_cases hlt : i < items.length
  · have hd : items[i]? = some items[i] := List.getElem?_eq_getElem hlt
    obtain ⟨go, yl⟩ := jk.1 _ hd
    rw [List.drop_eq_getElem_cons hlt] at lp
    simp only [loopC] at lp
    cases hb : bindT tD items[i] (wipeD ρ vs) with
    | none => rw [hb] at lp; exact lp.elim
    | some ρ1 =>
      rw [hb] at lp
      simp only at lp
      refine .inr ⟨go, _, fun H' h => ⟨items.length - (i + 1), by omega, h⟩, fun x H' hy => ?_⟩
      obtain ⟨x3, g3, rx, kp⟩ := yl x H' hy
      have env2 : EnvOk G H' m2 (wipeD ρ vs) (wipe σ vs) := (at'.env.mono ((x1.trans x2).trans x3).tp).wiped vs
      refine ⟨m2, _, S2, items[i], ρ1, g3, env2, rx, hb, fun σ1 env3 hw => ⟨?_, ?_⟩⟩
      · rw [hw vs hv]
        exact wipe_twice σ vs vs fun _ h => h
      have hD3 : H' D' = some (.lst va) := kp _ _ hD2
      have atB : At G W0 m2 H' ρ1 σ1 S2 noX := ⟨g3, env3, fun _ _ _ _ _ _ _ _ h => h.elim⟩
      refine ⟨m2, ρ1, S2, _, noX, atB, lp, fun k S3 m3 H3 r3 x4 g4 => ?_⟩
      have hD4 : H3 D' = some (.lst va) := x4.keep _ _ hD3 (.inl nD2)
      have nD4 : D' ∉ m3 := x4.free hD3 nD2
      have xx : Ext m1 H1 m3 H3 := (x2.trans x3).trans x4
      have ra4 : Rels G H3 m3 acc va := Rels.mono (x3.trans x4).tp _ _ ra
      cases k with
      | false =>
        simp only [Bool.false_eq_true, if_false] at r3 ⊢
        obtain ⟨okn, r3⟩ := r3
        exact ⟨m3, S3, acc, va, xx, g4, okn, hD4, nD4, ra4, la, by first | trivial | rfl, hlt, r3⟩
      | true =>
        simp only [if_true] at r3 ⊢
        have atC := atB.mono x4 g4
        refine ⟨m3, ρ1, S3, _, noX, atC, r3, fun items1 okS1 S4 m4 H4 J1 k4 x5 g5 ok5 jok1 => ?_⟩
        have hD5 : H4 D' = some (.lst va) := x5.keep _ _ hD4 (.inl nD4)
        have nD5 : D' ∉ m4 := x5.free hD4 nD4
        refine ⟨fun j n1 H5 => ∃ m5 S5 acc5 va5, Tp m4 H4 m5 H5 ∧ Ext m1 H1 m5 H5 ∧ Good G H5 m5 S5 ∧ okS1 S5 ∧ H5 D' = some (.lst va5) ∧ D' ∉ m5 ∧ Rels G H5 m5 acc5 va5 ∧ acc5.length ≤ sizeLine ∧ n1 = items1.length - j ∧ j ≤ items1.length ∧
            loopC (bindT tD1) okS1 (wipeD ρ1 vs1) (fun acc ρ2 S5 K1 => wf1 ρ2 S5 (fun k1 S6 => if k1 = true then we ρ2 S6 (fun y S7 => acc.length < sizeLine ∧ K1 (acc ++ [y]) S7) noX else K1 acc S6) noX)
              (fun acc' S' => okS S' ∧ loopC (bindT tD) okS (wipeD ρ vs) (fun acc ρ1 S2 K => wf ρ1 S2 (fun k S3 => if k = true then wi1 ρ1 S3 (fun es ok1 S4 => loopC (bindT tD1) ok1 (wipeD ρ1 vs1) (fun acc ρ2 S5 K1 => wf1 ρ2 S5 (fun k1 S6 => if k1 = true then we ρ2 S6 (fun y S7 => acc.length < sizeLine ∧ K1 (acc ++ [y]) S7) noX else K1 acc S6) noX) K es acc S4) noX else K acc S3) noX) (fun acc S2 => R (.ref S2.length) (S2 ++ [.lst acc])) (items.drop (i + 1)) acc' S') (items1.drop j) acc5 S5,
          ⟨items1.length, m4, S4, acc, va, Ext.refl.tp, xx.trans x5, g5, ok5, hD5, nD5, Rels.mono x5.tp _ _ ra4, la, by simp, Nat.zero_le _, k4⟩, ?_⟩
        rintro j n1 H5 ⟨m5, S5, acc5, va5, t5, x6, g6, ok6, hD6, nD6, ra6, la6, rfl, hj, lp5⟩
        have jk1 := jok1 j m5 H5 S5 t5 g6 ok6
        by_cases hlt1 : j < items1.length
        · have hd1 : items1[j]? = some items1[j] := List.getElem?_eq_getElem hlt1
          obtain ⟨go1, yl1⟩ := jk1.1 _ hd1
          rw [List.drop_eq_getElem_cons hlt1] at lp5
          simp only [loopC] at lp5
          cases hb1 : bindT tD1 items1[j] (wipeD ρ1 vs1) with
          | none => rw [hb1] at lp5; exact lp5.elim
          | some ρ2 =>
            rw [hb1] at lp5
            simp only at lp5
            refine .inr ⟨go1, _, fun H' h => ⟨items1.length - (j + 1), by omega, h⟩, fun x7 H7 hy7 => ?_⟩
            obtain ⟨x7e, g7, rx7, kp7⟩ := yl1 x7 H7 hy7
            have env7 : EnvOk G H7 m5 (wipeD ρ1 vs1) (wipe σ1 vs1) := (atC.env.mono (⟨x5.tp.pre.trans t5.pre, fun a xs h => t5.tup _ _ (x5.tup _ _ h), fun a o u h => t5.frz _ _ _ (x5.frz _ _ _ h)⟩ : Tp m3 H3 m5 H5)).mono x7e.tp |>.wiped vs1
            refine ⟨m5, _, S5, items1[j], ρ2, g7, env7, rx7, hb1, fun σ3 env8 hw8 => ⟨?_, ?_⟩⟩
            · rw [hw8 vs1 hv1]
              exact wipe_twice σ1 vs1 vs1 fun _ h => h
            have hD7 : H7 D' = some (.lst va5) := kp7 _ _ hD6
            have atE : At G W0 m5 H7 ρ2 σ3 S5 noX := ⟨g7, env8, fun _ _ _ _ _ _ _ _ h => h.elim⟩
            refine ⟨m5, ρ2, S5, _, noX, atE, lp5, fun k8 S8 m8 H8 r8 x8 g8 => ?_⟩
            have hD8 : H8 D' = some (.lst va5) := x8.keep _ _ hD7 (.inl nD6)
            have nD8 : D' ∉ m8 := x8.free hD7 nD6
            have t8 : Tp m4 H4 m8 H8 := ⟨t5.pre.trans (x7e.trans x8).pre, fun a xs h => (x7e.trans x8).tup _ _ (t5.tup _ _ h), fun a o u h => (x7e.trans x8).frz _ _ _ (t5.frz _ _ _ h)⟩
            cases k8 with
            | false =>
              simp only [Bool.false_eq_true, if_false] at r8 ⊢
              obtain ⟨okn, r8⟩ := r8
              exact ⟨m8, S8, acc5, va5, t8, (x6.trans x7e).trans x8, g8, okn, hD8, nD8, Rels.mono (x7e.trans x8).tp _ _ ra6, la6, by first | trivial | rfl, hlt1, r8⟩
            | true =>
              simp only [if_true] at r8 ⊢
              refine ⟨m8, ρ2, S8, _, noX, atE.mono x8 g8, r8, fun y S9 m9 H9 v r9 x9 g9 rel => ?_⟩
              obtain ⟨hl, okn, r9⟩ := r9
              have hD9 : H9 D' = some (.lst va5) := x9.keep _ _ hD8 (.inl nD8)
              have nD9 : D' ∉ m9 := x9.free hD8 nD8
              have ra9 : Rels G H9 m9 acc5 va5 := Rels.mono ((x7e.trans x8).trans x9).tp _ _ ra6
              have t10 : Tp m9 H9 m9 (upd H9 D' (.lst (va5 ++ [v]))) := .put hD9 (fun _ e => by cases e) (fun _ _ e => by cases e)
              refine ⟨va5, hD9, by rw [ra6.length]; exact hl, m9, S9, acc5 ++ [y], va5 ++ [v], ⟨t8.pre.trans x9.pre, fun a xs h => t10.tup _ _ (x9.tup _ _ (t8.tup _ _ h)), fun a o u h => t10.frz _ _ _ (x9.frz _ _ _ (t8.frz _ _ _ h))⟩,
                (((x6.trans x7e).trans x8).trans x9).out hD, g9.beside nD9 hD9 (fun _ e => by cases e) (fun _ _ e => by cases e), okn, upd_same, nD9, Rels.mono t10 _ _ (ra9.snoc rel), ?_, by first | trivial | rfl, hlt1, r9⟩
              simp
              omega
        · have e : j = items1.length := by omega
          subst e
          refine .inl ⟨jk1.2 (Nat.le_refl _), ?_⟩
          rw [List.drop_length] at lp5
          simp only [loopC] at lp5
          exact ⟨m5, S5, acc5, va5, x6, g6, lp5.1, hD6, nD6, ra6, la6, by first | trivial | rfl, hlt, lp5.2⟩
  · have e : i = items.length := by omega
    subst e
    refine .inl ⟨jk.2 (Nat.le_refl _), ?_⟩
    rw [List.drop_length] at lp
    simp only [loopC] at lp
    refine f _ _ (m2 ++ [D']) H2 _ lp (x1.trans (x2.own hD)) (g2.taken nD2 ⟨va, hD2, Rels.mono ⟨List.prefix_append _ _, fun _ _ h => h, fun _ _ _ h => h⟩ _ _ ra, la⟩) ⟨D', ?_, rfl⟩
    rw [← g2.len, List.getElem?_append_right (Nat.le_refl _)]
    simp
/-- a new dict -/
theorem e_dcomp {own : List (Str × Nat)} {wi : TID} {tD : Tg} {wf : TBD} {wk wv : TD} (hv : ∀ i ∈ slotsT tD, i ∈ own.map (·.2))
    {σ : L2.St} {H : Hp} {Q : VK} {m : List Addr} {ρ : Env} {S : Sto} {R : RD} {E : XD} (at' : At G W m H ρ σ S E)
    (o : wi ρ S (fun ds ok S1 => loopC (bindT tD) ok (wipeD ρ (own.map (·.2))) (fun (acc : List (L2.Key × D)) ρ1 S2 K => wf ρ1 S2 (fun k S3 => if k = true then wk ρ1 S3 (fun y S4 => wv ρ1 S4 (fun z S5 => ∃ key, keyD y = some key ∧ acc.length < sizeLine ∧ K (putD acc key z) S5) noX) noX else K acc S3) noX) (fun acc S2 => R (.ref S2.length) (S2 ++ [.dct acc])) ds [] S1) E) (f : Fin G m H R Q) :
    tDc (liftI G W wi) (liftG G tD) (liftB G W0 wf) (lift G W0 wk) (lift G W0 wv) (own.map (·.2)) σ H Q := by
  refine ⟨m, ρ, S, _, E, at', o, fun items okS S1 m1 H1 J k1 x1 g1 ok1 jok => fun D' hD => ?_⟩
  have nD1 : D' ∉ m1 := fun h => by
    obtain ⟨i, hi', e⟩ := List.mem_iff_getElem.mp h
    obtain ⟨o', e'⟩ := g1.addr (n := i) (a := D') (by rw [List.getElem?_eq_getElem hi', e])
    rw [hD] at e'; cases e'
  let vs := own.map (·.2)
  refine ⟨fun i n H2 => ∃ m2 S2 acc va, Ext m1 H1 m2 H2 ∧ Good G H2 m2 S2 ∧ okS S2 ∧ H2 D' = some (.dK va) ∧ D' ∉ m2 ∧ Kvs G H2 m2 acc va ∧ acc.length ≤ sizeLine ∧ n = items.length - i ∧ i ≤ items.length ∧
      loopC (bindT tD) okS (wipeD ρ vs) (fun (acc : List (L2.Key × D)) ρ1 S2 K => wf ρ1 S2 (fun k S3 => if k = true then wk ρ1 S3 (fun y S4 => wv ρ1 S4 (fun z S5 => ∃ key, keyD y = some key ∧ acc.length < sizeLine ∧ K (putD acc key z) S5) noX) noX else K acc S3) noX) (fun acc S2 => R (.ref S2.length) (S2 ++ [.dct acc])) (items.drop i) acc S2, ⟨items.length, m1, S1, [], [], .obj hD, g1.aside hD, ok1, upd_same, nD1, rfl, Nat.zero_le _, by simp, Nat.zero_le _, k1⟩, ?_⟩
  rintro i n H2 ⟨m2, S2, acc, va, x2, g2, ok2, hD2, nD2, ra, la, rfl, hi2, lp⟩
  have jk := jok i m2 H2 S2 x2.tp g2 ok2
  by_cases hlt : i < items.length
  · have hd : items[i]? = some items[i] := List.getElem?_eq_getElem hlt
    obtain ⟨go, yl⟩ := jk.1 _ hd
    rw [List.drop_eq_getElem_cons hlt] at lp
    simp only [loopC] at lp
    cases hb : bindT tD items[i] (wipeD ρ vs) with
    | none => rw [hb] at lp; exact lp.elim
    | some ρ1 =>
      rw [hb] at lp
      simp only at lp
      refine .inr ⟨go, _, fun H' h => ⟨items.length - (i + 1), by omega, h⟩, fun x H' hy => ?_⟩
      obtain ⟨x3, g3, rx, kp⟩ := yl x H' hy
      have env2 : EnvOk G H' m2 (wipeD ρ vs) (wipe σ vs) := (at'.env.mono ((x1.trans x2).trans x3).tp).wiped vs
      refine ⟨m2, _, S2, items[i], ρ1, g3, env2, rx, hb, fun σ1 env3 hw => ⟨?_, ?_⟩⟩
      · rw [hw vs hv]
        exact wipe_twice σ vs vs fun _ h => h
      have hD3 : H' D' = some (.dK va) := kp _ _ hD2
      have atB : At G W0 m2 H' ρ1 σ1 S2 noX := ⟨g3, env3, fun _ _ _ _ _ _ _ _ h => h.elim⟩
      refine ⟨m2, ρ1, S2, _, noX, atB, lp, fun k S3 m3 H3 r3 x4 g4 => ?_⟩
      have hD4 : H3 D' = some (.dK va) := x4.keep _ _ hD3 (.inl nD2)
      have nD4 : D' ∉ m3 := x4.free hD3 nD2
      cases k with
      | false =>
        simp only [Bool.false_eq_true, if_false] at r3 ⊢
        obtain ⟨okn, r3⟩ := r3
        exact ⟨m3, S3, acc, va, (x2.trans x3).trans x4, g4, okn, hD4, nD4, Kvs.mono (x3.trans x4).tp ra, la, by first | trivial | rfl, hlt, r3⟩
      | true =>
        simp only [if_true] at r3 ⊢
        refine ⟨m3, ρ1, S3, _, noX, atB.mono x4 g4, r3, fun y S4 m4 H4 u r4 x5 g5 relk => ?_⟩
        refine ⟨m4, ρ1, S4, _, noX, (atB.mono x4 g4).mono x5 g5, r4, fun z S5 m5 H5 v r5 x6 g6 rel => ?_⟩
        obtain ⟨key, hk, hl, okn, r5⟩ := r5
        have hD5 : H4 D' = some (.dK va) := x5.keep _ _ hD4 (.inl nD4)
        have nD5 : D' ∉ m4 := x5.free hD4 nD4
        have hD6 : H5 D' = some (.dK va) := x6.keep _ _ hD5 (.inl nD5)
        have nD6 : D' ∉ m5 := x6.free hD5 nD5
        have ra5 : Kvs G H5 m5 acc va := Kvs.mono (((x3.trans x4).trans x5).trans x6).tp ra
        have t6 : Tp m5 H5 m5 (upd H5 D' (.dK (putK va key v))) := .put hD6 (fun _ e => by cases e) (fun _ _ e => by cases e)
        refine ⟨va, key, keyD_rel hk relk, hD6, by rw [ra5.length]; exact hl, m5, S5, putD acc key z, putK va key v, ((((x2.trans x3).trans x4).trans x5).trans x6).out hD, g6.beside nD6 hD6 (fun _ e => by cases e) (fun _ _ e => by cases e), okn, upd_same, nD6,
          Kvs.put (Rel.mono t6 _ _ rel) (Kvs.mono t6 ra5), ?_, by first | trivial | rfl, hlt, r5⟩
        have := putD_length (ks := acc) (k := key) (d := z)
        omega
  · have e : i = items.length := by omega
    subst e
    refine .inl ⟨jk.2 (Nat.le_refl _), ?_⟩
    rw [List.drop_length] at lp
    simp only [loopC] at lp
    refine f _ _ (m2 ++ [D']) H2 _ lp (x1.trans (x2.own hD)) (g2.taken nD2 ⟨va, hD2, Kvs.mono ⟨List.prefix_append _ _, fun _ _ h => h, fun _ _ _ h => h⟩ ra, la⟩) ⟨D', ?_, rfl⟩
    rw [← g2.len, List.getElem?_append_right (Nat.le_refl _)]
    simp
end
end Ip

-- P11
set_option Elab.async false
set_option linter.all false
set_option maxRecDepth 100000
namespace Ip
open PySem L2 PyProof.Rows

/-! ### statements -/
section
variable {X : Cx} {G : Adr} {W : WX} {pos p : Pos} {e : Expr} {te : TD}
theorem asg_read {tD : Tg} {σ : L2.St} {H : Hp} {D : Ends} (h : liftS G W (fun R ρ S E => te ρ S (fun d S1 => match bindA tD d S1 ρ with
    | some ρ1 => R.nx ρ1 S1
    | none => False) E) D σ H) : lift G W te σ H fun x H1 => liftGA G tD x σ H1 D.nx := by
  obtain ⟨m, ρ, S, R, E, at', o, f⟩ := h
  refine ⟨m, ρ, S, _, E, at', o, fun d S1 m1 H1 v r1 x1 g1 rel1 => ?_⟩
  cases hb : bindA tD d S1 ρ with
  | none => rw [hb] at r1; exact r1.elim
  | some ρ1 =>
    rw [hb] at r1
    exact ⟨m1, ρ, S1, d, ρ1, g1, at'.env.mono x1.tp, rel1, hb, fun σ1 env1 _ => f.nx ρ1 S1 m1 H1 σ1 r1 x1 g1 env1⟩
theorem s_asg {tg : Expr} {tD : Tg} (he : PE X e (lift G W te)) (hg : PG X tg (liftGA G tD)) (hs : swapsWithSole [tg] e pos.line X.env = pure false) (hw : swappedStores [tg] e X.env = pure none)
    (h1 : (assignEach [tg] X.env).map (·.2) = [assign tg X.env]) : PS X (.Assign [tg] e pos) (liftS G W fun R ρ S E => te ρ S (fun d S1 => match bindA tD d S1 ρ with
      | some ρ1 => R.nx ρ1 S1
      | none => False) E) := PS.imp (ps_asg he hg hs hw h1) fun D σ H h => asg_read h
theorem s_comp {i : Nat} {y : Str} {py : Pos} {elt tg iter : Expr} {ifs : List Expr} {scope : Scope} {own : List (Str × Nat)} {cpos : Pos} {wi : TID} {tD : Tg} {wf : TBD} {we : TD}
    (hc : X.calm = true) (hN : X.N.Nodup) (hy : X.N[i]? = some y) (hyl : X.env.scope.names.lookup y = some .local)
    (hsw : swapsWith (.ListComp elt [⟨tg, iter, ifs, 0⟩] scope cpos) (some (.Name y py)) pos.line X.env = pure true)
    (hi : PI X tg iter (liftI G W wi)) (ok : BlkOk X.N X.env.scope scope own) (hv : ∀ i ∈ slotsT tD, i ∈ own.map (·.2))
    (hg : ∀ (s : Shared) (H : Hp) (C : Addr) (cl : List (Str × Addr)) (fp : List Addr), PG (X.blk s H scope (compEnvC scope cl C X.env) fp) tg (liftG G tD))
    (ht : ∀ (s : Shared) (H : Hp) (C : Addr) (cl : List (Str × Addr)) (fp : List Addr), PTs (X.blk s H scope (compEnvC scope cl C X.env) fp) ifs (liftB G W0 wf))
    (he : ∀ (s : Shared) (H : Hp) (C : Addr) (cl : List (Str × Addr)) (fp : List Addr), PE (X.blk s H scope (compEnvC scope cl C X.env) fp) elt (lift G W0 we)) (hs : ∀ x, foldedSetIterable iter X.env x = pure x) :
    PS X (.Assign [.Name y py] (.ListComp elt [⟨tg, iter, ifs, 0⟩] scope cpos) pos) (liftS G W fun R ρ S E => wi ρ S (fun ds ok S1 => loopC (bindT tD) ok (wipeD ρ (own.map (·.2))) (fun acc ρ1 S2 K => wf ρ1 S2 (fun k S3 => if k = true then we ρ1 S3 (fun y S4 => acc.length < sizeLine ∧ K (acc ++ [y]) S4) noX else K acc S3) noX)
      (fun acc S2 => R.nx (ρ.set i (some (.ref S2.length))) (S2 ++ [.lst acc])) ds [] S1) E) := by
  refine PS.imp (ps_setLc hc hN hy hyl hsw hi ok hg ht he hs) fun D σ H h => ?_
  obtain ⟨m, ρ, S, R, E, at', o, f⟩ := h
  show tLc _ _ _ _ _ σ H fun x H1 => gName i x σ H1 D.nx
  refine e_comp (R := fun d S1 => R.nx (ρ.set i (some d)) S1) hc hN hi ok hv hg ht he hs at' o fun d S' m' H' v r x g rel => ?_
  exact f.nx _ S' m' H' _ r x g ((at'.env.mono x.tp).set rel)
theorem s_expr (he : PE X e (lift G W te)) (hs : swapsWith e none pos.line X.env = pure false) : PS X (.Expr e pos) (liftS G W fun R ρ S E => te ρ S (fun _ S1 => R.nx ρ S1) E) := by
  refine PS.imp (ps_expr he hs) fun D σ H h => ?_
  obtain ⟨m, ρ, S, R, E, at', o, f⟩ := h
  exact ⟨m, ρ, S, _, E, at', o, fun d S1 m1 H1 v r1 x1 g1 rel1 => f.nx ρ S1 m1 H1 σ r1 x1 g1 (at'.env.mono x1.tp)⟩
theorem s_ret (he : PE X e (lift G W te)) : PS X (.Return (some e) pos) (liftS G W fun R ρ S E => te ρ S R.rt E) := by
  refine PS.imp (ps_ret he) fun D σ H h => ?_
  obtain ⟨m, ρ, S, R, E, at', o, f⟩ := h
  exact ⟨m, ρ, S, _, E, at', o, f.rt⟩
theorem s_retN : PS X (.Return none pos) (liftS G W fun R ρ S E => R.rt .non S) := by
  refine PS.imp ps_retN fun D σ H h => ?_
  obtain ⟨m, ρ, S, R, E, at', o, f⟩ := h
  exact f.rt.now at'.good o rfl
theorem s_pass : PS X (.Pass pos) (liftS G W fun R ρ S E => R.nx ρ S) := by
  refine PS.imp ps_pass fun D σ H h => ?_
  obtain ⟨m, ρ, S, R, E, at', o, f⟩ := h
  exact f.nx.now at'.good at'.env o
theorem s_brk : PS X (.Break pos) (liftS G W fun R ρ S E => R.bk ρ S) := by
  refine PS.imp ps_break fun D σ H h => ?_
  obtain ⟨m, ρ, S, R, E, at', o, f⟩ := h
  exact f.bk.now at'.good at'.env o
theorem s_cont : PS X (.Continue pos) (liftS G W fun R ρ S E => R.ct ρ S) := by
  refine PS.imp ps_continue fun D σ H h => ?_
  obtain ⟨m, ρ, S, R, E, at', o, f⟩ := h
  exact f.ct.now at'.good at'.env o
theorem s_doc {x j pos'} : PS X (.Expr (.Constant (.str x) j pos) pos') (liftS G W fun R ρ S E => R.nx ρ S) := by
  refine PS.imp ps_doc fun D σ H h => ?_
  obtain ⟨m, ρ, S, R, E, at', o, f⟩ := h
  exact f.nx.now at'.good at'.env o
variable {c : Expr} {tc : TBD} {a b body : List Stmt} {sa sb : TSD}
theorem s_if (hc : PT X c (liftB G W tc)) (ha : PSs X a (liftS G W sa)) (hb : PSs X b (liftS G W sb)) : PS X (.If c a b pos) (liftS G W fun R ρ S E => tc ρ S (fun k S1 => if k = true then sa R ρ S1 E else sb R ρ S1 E) E) := by
  refine PS.imp (ps_if hc ha hb) fun D σ H h => ?_
  obtain ⟨m, ρ, S, R, E, at', o, f⟩ := h
  refine ⟨m, ρ, S, _, E, at', o, fun k S1 m1 H1 r1 x1 g1 => ?_⟩
  cases k with
  | true => exact ⟨m1, ρ, S1, R, E, at'.mono x1 g1, r1, f.mono x1⟩
  | false => exact ⟨m1, ρ, S1, R, E, at'.mono x1 g1, r1, f.mono x1⟩
theorem ss_nil : PSs X [] (liftS G W fun R ρ S E => R.nx ρ S) := by
  refine PSs.imp pss_nil fun D σ H h => ?_
  obtain ⟨m, ρ, S, R, E, at', o, f⟩ := h
  exact f.nx.now at'.good at'.env o
theorem ss_cons {st : Stmt} {r : List Stmt} (h1 : PS X st (liftS G W sa)) (h2 : PSs X r (liftS G W sb)) : PSs X (st :: r) (liftS G W fun R ρ S E => sa { R with nx := fun ρ' S' => sb R ρ' S' E } ρ S E) := by
  refine PSs.imp (pss_cons h1 h2) fun D σ H h => ?_
  obtain ⟨m, ρ, S, R, E, at', o, f⟩ := h
  refine ⟨m, ρ, S, _, E, at', o, ⟨fun ρ' S1 m1 H1 σ1 r1 x1 g1 env1 => ?_, f.rt, f.bk, f.ct⟩⟩
  exact ⟨m1, ρ', S1, R, E, (at'.mono x1 g1).env' env1, r1, f.mono x1⟩
theorem s_for {tg iter : Expr} {wi : TID} {tD : Tg} (hp : PassesOwn (model X.prog X.w) X.A X.env X.xe) (hc : X.calm = true) (hi : PI X tg iter (liftI G W wi)) (hg : PG X tg (liftG G tD)) (hb : PSs X body (liftS G W sb))
    (hs : ∀ x, foldedSetIterable iter X.env x = pure x) : PS X (.For tg iter body [] pos) (liftS G W fun R ρ S E => wi ρ S (fun ds ok S1 => loopF (bindT tD) ok sb R E ds ρ S1) E) := by
  refine PS.imp (ps_for hp hc hi hg hb hs) fun D σ H h => ?_
  obtain ⟨m, ρ, S, R, E, at', o, f⟩ := h
  refine ⟨m, ρ, S, _, E, at', o, fun items okS S1 m1 H1 J k1 x1 g1 ok1 jok => ?_⟩
  refine ⟨fun i n σ2 H2 => ∃ m2 ρ2 S2, Ext m1 H1 m2 H2 ∧ Good G H2 m2 S2 ∧ EnvOk G H2 m2 ρ2 σ2 ∧ okS S2 ∧ n = items.length - i ∧ i ≤ items.length ∧ loopF (bindT tD) okS sb R E (items.drop i) ρ2 S2,
    ⟨items.length, m1, ρ, S1, .refl, g1, at'.env.mono x1.tp, ok1, by simp, Nat.zero_le _, k1⟩, ?_⟩
  rintro i n σ2 H2 ⟨m2, ρ2, S2, x2, g2, env2, ok2, rfl, hi2, lp⟩
  have jk := jok i m2 H2 S2 x2.tp g2 ok2
  by_cases hlt : i < items.length
  · have hd : items[i]? = some items[i] := List.getElem?_eq_getElem hlt
    obtain ⟨go, yl⟩ := jk.1 _ hd
    rw [List.drop_eq_getElem_cons hlt] at lp
    simp only [loopF] at lp
    cases hb : bindT tD items[i] ρ2 with
    | none => rw [hb] at lp; exact lp.elim
    | some ρ3 =>
      rw [hb] at lp
      simp only at lp
      refine .inr ⟨go, _, fun σ' H' h => ⟨items.length - (i + 1), by omega, h⟩, fun x H' hy => ?_⟩
      obtain ⟨x3, g3, rx, _⟩ := yl x H' hy
      refine ⟨m2, ρ2, S2, items[i], ρ3, g3, env2.mono x3.tp, rx, hb, fun σ3 env3 _ => ?_⟩
      have at3 : At G W m2 H' ρ3 σ3 S2 E := (at'.mono ((x1.trans x2).trans x3) g3).env' env3
      refine ⟨m2, ρ3, S2, _, E, at3, lp, ?_, (f.mono ((x1.trans x2).trans x3)).rt, (f.mono ((x1.trans x2).trans x3)).nx, ?_⟩
      · intro ρ4 S4 m4 H4 σ4 r4 x4 g4 env4
        exact ⟨m4, ρ4, S4, (x2.trans x3).trans x4, g4, env4, r4.1, by first | trivial | rfl, hlt, r4.2⟩
      · intro ρ4 S4 m4 H4 σ4 r4 x4 g4 env4
        exact ⟨m4, ρ4, S4, (x2.trans x3).trans x4, g4, env4, r4.1, by first | trivial | rfl, hlt, r4.2⟩
  · have e : i = items.length := by omega
    subst e
    refine .inl ⟨jk.2 (Nat.le_refl _), ?_⟩
    rw [List.drop_length] at lp
    simp only [loopF] at lp
    exact f.nx ρ2 S2 m2 H2 σ2 lp (x1.trans x2) g2 env2
theorem s_while (hp : PassesOwn (model X.prog X.w) X.A X.env X.xe) (hc : PT X c (liftB G W tc)) (hb : PSs X body (liftS G W sb)) :
    PS X (.While c body [] pos) (liftS G W fun R ρ S E => ∃ I : Nat → Env → Sto → Prop, (∃ n, I n ρ S) ∧ ∀ n ρ1 S1, I n ρ1 S1 → tc ρ1 S1 (fun k S2 => if k = true then
      sb { nx := fun ρ' S' => ∃ n', n' < n ∧ I n' ρ' S', rt := R.rt, bk := R.nx, ct := fun ρ' S' => ∃ n', n' < n ∧ I n' ρ' S' } ρ1 S2 E else R.nx ρ1 S2) E) := by
  refine PS.imp (ps_while hp hc hb) fun D σ H h => ?_
  obtain ⟨m, ρ, S, R, E, at', o, f⟩ := h
  obtain ⟨I, ⟨n0, i0⟩, turn⟩ := o
  refine ⟨fun n σ2 H2 => ∃ m2 ρ2 S2, Ext m H m2 H2 ∧ Good G H2 m2 S2 ∧ EnvOk G H2 m2 ρ2 σ2 ∧ I n ρ2 S2, ⟨n0, m, ρ, S, .refl, at'.good, at'.env, i0⟩, ?_⟩
  rintro n σ2 H2 ⟨m2, ρ2, S2, x2, g2, env2, i2⟩
  have at2 : At G W m2 H2 ρ2 σ2 S2 E := (at'.mono x2 g2).env' env2
  refine ⟨m2, ρ2, S2, _, E, at2, turn n ρ2 S2 i2, fun k S3 m3 H3 r3 x3 g3 => ?_⟩
  cases k with
  | false =>
    simp only [Bool.false_eq_true, if_false] at r3 ⊢
    exact f.nx ρ2 S3 m3 H3 σ2 r3 (x2.trans x3) g3 (env2.mono x3.tp)
  | true =>
    simp only [if_true] at r3 ⊢
    refine ⟨fun σ' H' => ∃ n', n' < n ∧ ∃ m2 ρ2 S2, Ext m H m2 H' ∧ Good G H' m2 S2 ∧ EnvOk G H' m2 ρ2 σ' ∧ I n' ρ2 S2, fun σ' H' h => h, m3, ρ2, S3, _, E, at2.mono x3 g3, r3, ?_, (f.mono (x2.trans x3)).rt, (f.mono (x2.trans x3)).nx, ?_⟩
    · intro ρ4 S4 m4 H4 σ4 r4 x4 g4 env4
      obtain ⟨n', hn, i4⟩ := r4
      exact ⟨n', hn, m4, ρ4, S4, (x2.trans x3).trans x4, g4, env4, i4⟩
    · intro ρ4 S4 m4 H4 σ4 r4 x4 g4 env4
      obtain ⟨n', hn, i4⟩ := r4
      exact ⟨n', hn, m4, ρ4, S4, (x2.trans x3).trans x4, g4, env4, i4⟩
/-- a, b = x, y -/
theorem s_par2 {i j : Nat} {x y : Str} {a b : Expr} {ta tb : TD} {px py pt : Pos} {kt k2 pt2} (hc : X.calm = true) (hN : X.N.Nodup) (hi : X.N[i]? = some x) (hj : X.N[j]? = some y) (hij : i ≠ j)
    (hx : X.env.scope.names.lookup x = some .local) (hy : X.env.scope.names.lookup y = some .local) (ha : PE X a (lift G W ta)) (hb : PE X b (lift G W tb)) (pa : Plain a) (pb : Plain b)
    (hw : swappedStores [.Tuple [.Name x px, .Name y py] kt pt] (.Tuple [a, b] k2 pt2) X.env = pure (some [x, y])) :
    PS X (.Assign [.Tuple [.Name x px, .Name y py] kt pt] (.Tuple [a, b] k2 pt2) pos) (liftS G W fun R ρ S E => ta ρ S (fun x S1 => tb ρ S1 (fun y S2 => R.nx ((ρ.set i (some x)).set j (some y)) S2) E) E) := by
  have hA : PA X [a, b] _ := a_cons ha (a_cons hb a_nil (pb.star [] X.env)) (pa.star [b] X.env)
  refine PS.imp (ps_par hc hN hi hj hij hx hy hA hw rfl) fun D σ H h => ?_
  obtain ⟨m, ρ, S, R, E, at', o, f⟩ := h
  refine ⟨m, ρ, S, fun ds S2 => match ds with
    | [x, y] => R.nx ((ρ.set i (some x)).set j (some y)) S2
    | _ => False, E, at', o, fun ds S1 m1 H1 vs r1 x1 g1 rs => ?_⟩
  match ds, r1, rs with
  | [d1, d2], r1, rs =>
    obtain ⟨v, w, rfl, rv, rw'⟩ := rel2 rs
    exact ⟨v, w, rfl, f.nx _ S1 m1 H1 _ r1 x1 g1 (((at'.env.mono x1.tp).set rv).set rw')⟩
  | [], r1, _ => exact r1.elim
  | [_], r1, _ => exact r1.elim
  | _ :: _ :: _ :: _, r1, _ => exact r1.elim
/-- a, b, c = x, y, z -/
theorem s_par3 {i j l : Nat} {x y z : Str} {a b c : Expr} {ta tb tc : TD} {px py pz pt : Pos} {kt k2 pt2} (hc : X.calm = true) (hN : X.N.Nodup) (hi : X.N[i]? = some x) (hj : X.N[j]? = some y) (hl : X.N[l]? = some z) (hij : i ≠ j) (hil : i ≠ l) (hjl : j ≠ l)
    (hx : X.env.scope.names.lookup x = some .local) (hy : X.env.scope.names.lookup y = some .local) (hz : X.env.scope.names.lookup z = some .local) (ha : PE X a (lift G W ta)) (hb : PE X b (lift G W tb)) (hc' : PE X c (lift G W tc)) (pa : Plain a) (pb : Plain b) (pc : Plain c)
    (hw : swappedStores [.Tuple [.Name x px, .Name y py, .Name z pz] kt pt] (.Tuple [a, b, c] k2 pt2) X.env = pure (some [x, y, z])) :
    PS X (.Assign [.Tuple [.Name x px, .Name y py, .Name z pz] kt pt] (.Tuple [a, b, c] k2 pt2) pos) (liftS G W fun R ρ S E => ta ρ S (fun x S1 => tb ρ S1 (fun y S2 => tc ρ S2 (fun z S3 => R.nx (((ρ.set i (some x)).set j (some y)).set l (some z)) S3) E) E) E) := by
  have hA : PA X [a, b, c] _ := a_cons ha (a_cons hb (a_cons hc' a_nil (pc.star [] X.env)) (pb.star [c] X.env)) (pa.star [b, c] X.env)
  refine PS.imp (ps_par3 hc hN hi hj hl hij hil hjl hx hy hz hA hw rfl) fun D σ H h => ?_
  obtain ⟨m, ρ, S, R, E, at', o, f⟩ := h
  refine ⟨m, ρ, S, fun ds S2 => match ds with
    | [x, y, z] => R.nx (((ρ.set i (some x)).set j (some y)).set l (some z)) S2
    | _ => False, E, at', o, fun ds S1 m1 H1 vs r1 x1 g1 rs => ?_⟩
  match ds, r1, rs with
  | [d1, d2, d3], r1, rs =>
    obtain ⟨v, r, rfl, rv, w, r', rfl, rw', u, r'', rfl, ru, h0⟩ := rs
    cases h0
    exact ⟨v, w, u, rfl, f.nx _ S1 m1 H1 _ r1 x1 g1 ((((at'.env.mono x1.tp).set rv).set rw').set ru)⟩
  | [], r1, _ => exact r1.elim
  | [_], r1, _ => exact r1.elim
  | [_, _], r1, _ => exact r1.elim
  | _ :: _ :: _ :: _ :: _, r1, _ => exact r1.elim

/-! ### o[i] = e, name op= e, raise -/
def liftP (G : Adr) : TSet := fun o i v H Q => ∃ m S R dx dy d, Good G H m S ∧ Rel G H m dx o ∧ Rel G H m dy i ∧ Rel G H m d v ∧ oPut dx dy d S R ∧ ∀ S' m' H', R S' → Ext m H m' H' → Good G H' m' S' → Q H'
theorem put_ok : PSet X (liftP G) := by
  intro pins s σ H o i v ov iv u Q I ro ri rv h
  obtain ⟨m, S, R, dx, dy, d, g, hx, hy, hd, o', f⟩ := h
  unfold oPut at o'
  split at o'
  · obtain ⟨ds, j, h0, h1, h2, o'⟩ := o'
    cases hy
    obtain ⟨p, vs, hp, hv, r', hl⟩ := g.lstM h0
    obtain rfl := Rel.ref_inj hx hp
    have e := r'.length
    have t : Ext m H m (upd H p (.lst (vs.set j v))) := .put (List.mem_of_getElem? hp) hv (fun _ e => by cases e) (fun _ _ e => by cases e)
    refine set_list pins s σ H _ _ v ov iv u Q I ro ri rv ⟨p, vs, _, j, rfl, rfl, hv, by rw [e]; exact h1, ?_⟩
    exact f _ m _ o' t (g.put hp hv (fun _ e => by cases e) (fun _ _ e => by cases e) ⟨_, upd_same, Rels.mono t.tp _ _ (r'.set hd), by simpa using hl⟩)
  · exact o'.elim
theorem s_put {o i : Expr} {to ti : TD} {spos : Pos} (he : PE X e (lift G W te)) (ho : PE X o (lift G W to)) (hi : PE X i (lift G W ti)) (hs : swapsWithSole [.Subscript o i spos] e pos.line X.env = pure false) (hw : swappedStores [.Subscript o i spos] e X.env = pure none)
    (ha : ∀ v, assign (.Subscript o i spos) X.env v = (do
      let ov ← holding [v] (eval o X.env)
      let iv ← holding [v, ov] (eval i X.env)
      standAt spos
      holding [v, ov, iv] (setItem ov iv v)
      release [v, ov, iv] [])) : PS X (.Assign [.Subscript o i spos] e pos) (liftS G W fun R ρ S E => te ρ S (fun d S1 => to ρ S1 (fun x S2 => ti ρ S2 (fun y S3 => oPut x y d S3 fun S4 => R.nx ρ S4) E) E) E) := by
  refine PS.imp (ps_asg he (pg_sub ho hi (put_ok (G := G)) ha) hs hw rfl) fun D σ H h => ?_
  obtain ⟨m, ρ, S, R, E, at', o, f⟩ := h
  refine ⟨m, ρ, S, _, E, at', o, fun d S1 m1 H1 v r1 x1 g1 rel1 => ?_⟩
  refine ⟨m1, ρ, S1, _, E, at'.mono x1 g1, r1, fun dx S2 m2 H2 v2 r2 x2 g2 rel2 => ?_⟩
  refine ⟨m2, ρ, S2, _, E, (at'.mono x1 g1).mono x2 g2, r2, fun dy S3 m3 H3 v3 r3 x3 g3 rel3 => ?_⟩
  exact ⟨m3, S3, _, dx, dy, d, g3, Rel.mono x3.tp _ _ rel2, rel3, Rel.mono (x2.trans x3).tp _ _ rel1, r3, fun S4 m4 H4 r4 x4 g4 => f.nx ρ S4 m4 H4 σ r4 (((x1.trans x2).trans x3).trans x4) g4 (at'.env.mono (((x1.trans x2).trans x3).trans x4).tp)⟩
def CMulS (i j : Int) : Prop := CMulW i j
theorem iop_mulW : OpR X (inplaceOp .Mult) (rI CMulW fun i j => .int (i * j)) := opI fun _ _ _ _ _ _ _ hc q => imul_int q hc.ok
theorem aug_ok (op : Operator) : PIp X op (lift2 G (oAug op)) := by
  intro pins s σ H x y v u Q I rx ry h
  obtain ⟨m, S, R, dx, dy, g, hx, hy, o, f⟩ := h
  unfold oAug at o
  split at o
  · cases hx; cases hy
    exact iop_add pins s σ H _ _ v u Q I rx ry ⟨_, _, rfl, rfl, f.now g o rfl⟩
  · cases hx; cases hy
    exact iop_sub pins s σ H _ _ v u Q I rx ry ⟨_, _, rfl, rfl, f.now g o rfl⟩
  · cases hx; cases hy
    exact iop_mulW pins s σ H _ _ v u Q I rx ry ⟨_, _, rfl, rfl, o.1, f.now g o.2 rfl⟩
  · cases hx; cases hy
    exact iop_fdivW pins s σ H _ _ v u Q I rx ry ⟨_, _, rfl, rfl, o.1, f.now g o.2 rfl⟩
  · cases hx; cases hy
    exact iop_mod pins s σ H _ _ v u Q I rx ry ⟨_, _, rfl, rfl, o.1, f.now g o.2 rfl⟩
  · exact o.elim
theorem s_aug {i : Nat} {x : Str} {op : Operator} {npos : Pos} (hN : X.N.Nodup) (hi : X.N[i]? = some x) (hx : Loc X.env.scope x) (hf : X.fn x = true ∨ X.env.scope.names.lookup x = some .local) (he : PE X e (lift G W te)) :
    PS X (.AugAssign (.Name x npos) op e pos) (liftS G W fun R ρ S E => match ρ[i]? with
      | some (some x) => te ρ S (fun y S1 => oAug op x y S1 fun z S2 => R.nx (ρ.set i (some z)) S2) E
      | _ => False) := by
  refine PS.imp (ps_aug hN hi hx he (aug_ok (G := G) op) hf) fun D σ H h => ?_
  obtain ⟨m, ρ, S, R, E, at', o, f⟩ := h
  cases e1 : ρ[i]? with
  | none => rw [e1] at o; exact o.elim
  | some od =>
    cases od with
    | none => rw [e1] at o; exact o.elim
    | some d =>
      rw [e1] at o
      obtain ⟨v, hv, rv⟩ := at'.env.get i d e1
      refine ⟨v, hv, m, ρ, S, _, E, at', o, fun d2 S1 m1 H1 v2 r1 x1 g1 rel1 => ?_⟩
      refine ⟨m1, S1, _, d, d2, g1, Rel.mono x1.tp _ _ rv, rel1, r1, fun z S2 m2 H2 vz r2 x2 g2 rel2 => ?_⟩
      exact f.nx _ S2 m2 H2 _ r2 (x1.trans x2) g2 ((at'.env.mono (x1.trans x2).tp).set rel2)
/-- raise X('..') of an own class without __init__ -/
theorem s_raise {n : Nat} {x t : Str} {j : Nat} {p1 p2 p3 : Pos} (hc : X.calm = true) (tk : Takes X W) (q : PySem.W.excIn X.K (G.xa n) [.type "ValueError", .type "Exception", .type "BaseException", .type "object"] "ValueError.__new__" = true)
    (gC : X.mg x = some (.ref (G.xa n))) (kC : PySem.W.keepIn X.K (.ref (G.xa n)) = true) (r : Raises X (.ref (G.xa n))) (hg : Gl X x) (hdb : (x == ("__debug__" : Str)) = false) :
    PS X (.Raise (some (.Call (.Name x p1) [.Constant (.str t) j p2] [] p3)) none pos) (liftS G W fun R ρ S E => E ⟨n, none⟩ ρ S) := by
  refine PS.imp (ps_raise hc tk (pmk_own PySem.F.excBase_ValueError q gC kC r hg hdb)) fun D σ H h => ?_
  obtain ⟨m, ρ, S, R, E, at', o, f⟩ := h
  exact at'.xto _ ρ S m H σ _ _ o .refl at'.good at'.env ⟨rfl, rfl, rfl⟩
end
end Ip

-- P12
set_option Elab.async false
set_option linter.all false
set_option maxRecDepth 100000
namespace Ip
open PySem L2 PyProof.Rows

/-! ### from the program's text to the compact one -/
structure CC where
  N : List Str
  sc : Scope
  fn : Str → Bool
  consts : List (Str × D)
  defs : List (Str × Nat)
  kws : List (Str × List Str × Nat × List Nat)
  exns : List (Str × Nat)
  bis : List Bi
  nones : List Str
  kn : Nat := 0
  catches : List (Str × List Nat) := []
def cVis (sc : Scope) (x : Str) : Bool := match sc.names.lookup x with
  | some .local => true | some .cell => true | some .free => true | _ => false
def cGl (sc : Scope) (x : Str) : Bool := decide (sc.names.lookup x = some .globalImplicit)
def cLoc (C : CC) (x : Str) : Bool := match C.sc.names.lookup x with
  | some .local => true | some .cell => C.fn x | _ => false
def okName (x : Str) : Bool := !(x == ("__debug__" : Str)) && !(x == ("__classdict__" : Str))
def idx (N : List Str) (x : Str) : Option Nat := N.findIdx? fun y => decide (y = x)
def guard' {α : Type} (b : Bool) (x : Option α) : Option α := if b = true then x else none
def opt2 {α β γ : Type} (f : α → β → γ) : Option α → Option β → Option γ
  | some x, some y => some (f x y)
  | _, _ => none
def opt3 {α β γ δ : Type} (f : α → β → γ → δ) : Option α → Option β → Option γ → Option δ
  | some x, some y, some z => some (f x y z)
  | _, _, _ => none
def opt4 {α β γ δ ε : Type} (f : α → β → γ → δ → Option ε) : Option α → Option β → Option γ → Option δ → Option ε
  | some x, some y, some z, some w => f x y z w
  | _, _, _, _ => none
def cL (f : Expr → Option CE) : List Expr → Option CEs
  | [] => some .nil
  | e :: r => match f e, cL f r with
    | some a, some b => some (.cons a b)
    | _, _ => none
/-- the items of a display: starred ones too -/
def cLd (f : Expr → Option CE) : List Expr → Option CEs
  | [] => some .nil
  | e :: r => match e with
    | .Starred x _ => opt2 .star (f x) (cLd f r)
    | _ => opt2 .cons (f e) (cLd f r)
def cBool (f : Expr → Option CE) (op : BoolOp) : List Expr → Option CE
  | [] => none
  | [a] => f a
  | a :: r => match f a, cBool f op r with
    | some x, some y => some (match op with
      | .And => .and x y
      | .Or => .or x y)
    | _, _ => none
def cBoolT (f : Expr → Option CT) (op : BoolOp) : List Expr → Option CT
  | [] => none
  | [a] => f a
  | a :: r => match f a, cBoolT f op r with
    | some x, some y => some (match op with
      | .And => .and x y
      | .Or => .or x y)
    | _, _ => none
def tyOf? (x : Str) : Option Ty := [Ty.int, .bool, .str, .tuple, .list, .dict].find? fun t => decide ((tyName t : Str) = x)
def biFits (n : Nat) : Bi → Bool
  | .min1 => n == 1 | .max1 => n == 1 | .min2 => n != 1 | .max2 => n != 1 | _ => true
def biOf? (x : Str) (n : Nat) : Option Bi := [Bi.len, .sum, .min1, .min2, .max1, .max2, .abs, .all, .any, .int, .tuple, .list, .gcd, .repr, .set, .sorted, .str, .bool].find? fun b => decide (biName b = x) && biFits n b
def meFits (n : Nat) : Me → Bool
  | .pop => n == 0 | _ => n != 0
def meOf? (x : Str) (n : Nat) : Option Me := [Me.append, .extend, .pop, .popAt, .index, .insert].find? fun b => decide (meName b = x) && meFits n b
def isCall : Expr → Bool
  | .Call .. => true
  | _ => false
def ownOf (N : List Str) (scope : Scope) : List (Str × Nat) := scope.names.filterMap fun (n, k) => match k with
  | .local => (idx N n).map fun i => (n, i)
  | .cell => (idx N n).map fun i => (n, i)
  | _ => none
def blkScope (scope sc : Scope) : Scope :=
  { scope with names := scope.names.map fun (n, k) => if (k == NameKind.free && sc.kind == .function && sc.names.lookup n == some .cell) then (n, NameKind.cell) else (n, k) }
def blkCC (C : CC) (scope : Scope) : CC := { C with sc := blkScope scope C.sc, fn := fun x => scope.names.lookup x == some .cell }
def cG : Nat → CC → Expr → Option Tg
  | 0, _, _ => none
  | n + 1, C, .Name x _ => guard' (cLoc C x) ((idx C.N x).map .name)
  | n + 1, C, .Tuple es _ _ => go (cG n C) es
  | _ + 1, _, _ => none
where go (f : Expr → Option Tg) : List Expr → Option Tg
  | [] => some .nil
  | e :: r => match e with
    | .Starred .. => none
    | _ => match f e, go f r with
      | some a, some b => some (.cons a b)
      | _, _ => none
def kwNames : List Keyword → Option (List Str)
  | [] => some []
  | ⟨some x, _, _⟩ :: r => (kwNames r).map (x :: ·)
  | ⟨none, _, _⟩ :: _ => none
def cName (C : CC) (x : Str) : Option CE :=
  if okName x = true then
    (if cVis C.sc x = true then (idx C.N x).map .var
    else if cGl C.sc x = true then
      (match C.consts.lookup x with
      | some d => some (.glo d)
      | none => (C.defs.lookup x).map .fnv)
    else none)
  else none
mutual
def cE : Nat → CC → Expr → Option CE
  | 0, _, _ => none
  | n + 1, C, e => match e with
    | .Constant (.int i) _ _ => some (.lit (.int i))
    | .Constant (.bool b) _ _ => some (.lit (.bl b))
    | .Constant .none _ _ => some (.lit .non)
    | .Constant (.str x) _ _ => some (.lit (.str x))
    | .Name x _ => cName C x
    | .Tuple es _ _ => (cLd (cE n C) es).map .tup
    | .List es _ => (cLd (cE n C) es).map .lst
    | .BinOp a op b _ => opt2 (fun x y => .bin op x y) (cE n C a) (cE n C b)
    | .Compare a [op] [b] _ => opt2 (fun x y => .cmp op x y) (cE n C a) (cE n C b)
    | .Compare a [op, op'] [b, c] _ => opt3 (fun x y z => .chain op op' x y z) (cE n C a) (cE n C b) (cE n C c)
    | .BoolOp op es _ => cBool (cE n C) op es
    | .UnaryOp .Not a _ => (cE n C a).map .not
    | .UnaryOp .USub a _ => (cE n C a).map .neg
    | .IfExp c a b _ => opt3 (fun z x y => .ite z x y) (cT n C c) (cE n C a) (cE n C b)
    | .Subscript a (.Slice lo hi none _) _ => opt3 (fun x l h => .sl x l h) (cE n C a) (cO n C lo) (cO n C hi)
    | .Subscript a (.Slice none none (some (.UnaryOp .USub (.Constant (.int 1) _ _) _)) _) _ => (cE n C a).map .rev
    | .Dict [] [] _ => some .dnew
    | .Subscript a i _ => opt2 (fun x y => .idx x y) (cE n C a) (cE n C i)
    | .Call (.Name f _) [.Call (.Name g p1) [a] [] p2] [] _ =>
      if g = "set" ∧ f = "len" then (cE n C a).bind fun x => guard' (cGl C.sc f && cGl C.sc g && C.nones.contains f && C.nones.contains g) (some (.lenSet x))
      else if g = "set" ∧ f = "sorted" then (cE n C a).bind fun x => guard' (cGl C.sc f && cGl C.sc g && C.nones.contains f && C.nones.contains g) (some (.sortSet x))
      else cCall n C f [.Call (.Name g p1) [a] [] p2]
    | .Call (.Name f _) [a, .Name t p2] [] _ =>
      if f = "isinstance" then
        (match cE n C a, tyOf? t with
        | some x, some ty => guard' (cGl C.sc f && cGl C.sc t && C.nones.contains f && C.nones.contains t) (some (.isI x ty))
        | _, _ => none)
      else cCall n C f [a, .Name t p2]
    | .Call (.Name f _) es [] _ => cCall n C f es
    | .Call (.Name f _) [] kws _ => match kwNames kws, cL (cE n C) (kws.map (·.value)) with
      | some ks, some xs => match C.kws.find? fun t => decide (t.1 = f) && decide (t.2.1 = ks) with
        | some (_, _, g, perm) => guard' (okName f && cGl C.sc f && !kws.isEmpty) (some (.callk g ks.length perm xs))
        | none => none
      | _, _ => none
    | .Call (.Attribute o m apos) es [] cpos => match cE n C o, cL (cE n C) es, meOf? m es.length with
      | some x, some xs, some me => guard' (!isCall o && (apos.endLine == cpos.line) && decide (es.length < 28)) (some (.meth me x xs))
      | _, _, _ => none
    | .ListComp elt [⟨tg, iter, ifs, 0⟩] scope _ =>
      opt4 (fun it t f x => guard' (blkC C.N C.sc scope (ownOf C.N scope) && (slotsT t).all ((ownOf C.N scope).map (·.2)).contains) (some (.comp ((ownOf C.N scope).map (·.2)) t it f x)))
        (cI n C tg iter) (cG n (blkCC C scope) tg) (cF n (blkCC C scope) ifs) (cE n (blkCC C scope) elt)
    | .DictComp kx vx [⟨tg, iter, ifs, 0⟩] scope _ =>
      opt4 (fun it t f x => (guard' (blkC C.N C.sc scope (ownOf C.N scope) && (slotsT t).all ((ownOf C.N scope).map (·.2)).contains) (cE n (blkCC C scope) vx)).map (.dcomp ((ownOf C.N scope).map (·.2)) t it f x))
        (cI n C tg iter) (cG n (blkCC C scope) tg) (cF n (blkCC C scope) ifs) (cE n (blkCC C scope) kx)
    | .ListComp elt [⟨tg, iter, ifs, 0⟩, ⟨tg1, iter1, ifs1, 0⟩] scope _ =>
      opt4 (fun it t f x => opt3 (fun it1 t1 f1 => CE.comp2 ((ownOf C.N scope).map (·.2)) t it f (slotsT t1) t1 it1 f1 x)
          (guard' (blkC C.N C.sc scope (ownOf C.N scope) && (slotsT t).all ((ownOf C.N scope).map (·.2)).contains) (cI n (blkCC C scope) tg1 iter1))
          ((cG n (blkCC C scope) tg1).bind fun t1 => guard' ((slotsT t1).all ((ownOf C.N scope).map (·.2)).contains) (some t1)) (cF n (blkCC C scope) ifs1))
        (cI n C tg iter) (cG n (blkCC C scope) tg) (cF n (blkCC C scope) ifs) (cE n (blkCC C scope) elt)
    | _ => none
def cCall : Nat → CC → Str → List Expr → Option CE
  | 0, _, _, _ => none
  | n + 1, C, f, es => match es, cL (cE n C) es with
    | _ :: _, some xs =>
      if okName f = true then
        (if cVis C.sc f = true then (idx C.N f).map fun i => .callv i xs
        else if cGl C.sc f = true then
          (match C.defs.lookup f with
          | some g => some (.call g xs)
          | none => match biOf? f es.length with
            | some b => guard' (C.bis.contains b) (some (.bi b xs))
            | none => none)
        else none)
      else none
    | _, _ => none
def cO : Nat → CC → Option Expr → Option CO
  | 0, _, _ => none
  | _ + 1, _, none => some .none
  | n + 1, C, some e => (cE n C e).map .some
def cT : Nat → CC → Expr → Option CT
  | 0, _, _ => none
  | n + 1, C, e => match e with
    | .Compare a [op] [b] _ => opt2 (fun x y => .cmp op x y) (cE n C a) (cE n C b)
    | .Compare a [op, op'] [b, c] _ => opt3 (fun x y z => .chain op op' x y z) (cE n C a) (cE n C b) (cE n C c)
    | .BoolOp op es _ => cBoolT (cT n C) op es
    | .UnaryOp .Not a _ => (cT n C a).map .not
    | .Compare .. => none
    | .IfExp .. => none
    | e => (cE n C e).map .val
def cI : Nat → CC → Expr → Expr → Option CI
  | 0, _, _, _ => none
  | n + 1, C, tg, e => match e with
    | .Call (.Name f _) [a] [] _ =>
      if cGl C.sc f = true ∧ f = "range" then (cE n C a).bind fun x => guard' (C.nones.contains f) (some (.range1 x))
      else if cGl C.sc f = true ∧ f = "enumerate" then (match tg with
        | .Tuple .. => (cE n C a).bind fun x => guard' (C.nones.contains f) (some (.enum x))
        | _ => none)
      else (cE n C e).map .of
    | .Call (.Name f _) [a, b] [] _ =>
      if cGl C.sc f = true ∧ f = "range" then (match cE n C a, cE n C b with
        | some x, some y => guard' (C.nones.contains f) (some (.range2 x y))
        | _, _ => none)
      else if cGl C.sc f = true ∧ f = "zip" then (match tg, cE n C a, cE n C b with
        | .Tuple .., some x, some y => guard' (C.nones.contains f) (some (.zip x y))
        | _, _, _ => none)
      else (cE n C e).map .of
    | e => (cE n C e).map .of
def cF : Nat → CC → List Expr → Option CF
  | 0, _, _ => none
  | _ + 1, _, [] => some .none
  | n + 1, C, [c] => (cT n C c).map .one
  | _ + 1, _, _ => none
end
end Ip

-- P13
set_option Elab.async false
set_option linter.all false
set_option maxRecDepth 100000
namespace Ip
open PySem L2 PyProof.Rows

/-- how keywords bind: all parameters by keyword, ks as written, perm: for each parameter the place in ks -/
structure KwOk (K : PySem.W.Frag) (fd : FuncData) (ps ks : List Str) (perm : List Nat) : Prop where
  to : ∀ (s : Shared) (ws : List Value), K.In s.heap → ws.length = ks.length → BindsTo s fd ⟨[], ks.zip ws⟩ (ps.zip (perm.filterMap fun i => ws[i]?))
  lt : ∀ i ∈ perm, i < ks.length
/-- what the soundness leans on, in a def's body or a comprehension's block -/
structure Ctx (G : Adr) (W : WX) (sem : Sem) (k : Nat) (C : CC) (X : Cx) : Prop where
  N : X.N = C.N
  sc : X.env.scope = C.sc
  fn : X.fn = C.fn
  nd : C.N.Nodup
  K : X.K = G.K
  calm : X.calm = true
  room : Room k X.A
  guards : X.A.guards = some []
  takes : Takes X W
  bi : ∀ b ∈ C.bis, biFact X.mg b
  none : ∀ x ∈ C.nones, X.mg x = none
  const : ∀ x d, C.consts.lookup x = some d → ∃ u v, X.mg x = some u ∧ RelV v u ∧ ∀ H m, Rel G H m d v
  defs : ∀ x f, C.defs.lookup x = some f → X.mg x = some (.ref (G.fa f)) ∧ f < G.nf
  fun' : ∀ f, f < G.nf → PySem.W.keepIn X.K (.ref (G.fa f)) = true ∧ ∃ fd ps, GOk X.prog X.w X.K X.mg X.base k (G.fa f) fd ps (liftSp G (sem f)) ∧ Binds X.K fd ps []
  exn : ∀ x n, C.exns.lookup x = some n → X.mg x = some (.ref (G.xa n)) ∧ PySem.W.keepIn X.K (.ref (G.xa n)) = true ∧ PySem.W.excIn X.K (G.xa n) [.type "ValueError", .type "Exception", .type "BaseException", .type "object"] "ValueError.__new__" = true ∧
    PySem.W.subIn X.K (.ref (G.xa n)) (.type "BaseException") = some true ∧ PySem.W.typeIn X.K (.ref (G.xa n)) = some (.type "type")
  exm : ∀ x ns, C.catches.lookup x = some ns → ∃ c, (X.mg x = some c ∨ (X.mg x = Option.none ∧ bootBuiltins x = some c ∧ x ≠ "__name__")) ∧ ∀ n, n < C.kn → PySem.W.exmOne X.K (.ref (G.xa n)) c = some (decide (n ∈ ns))
  kws : ∀ t ∈ C.kws, X.mg t.1 = some (.ref (G.fa t.2.2.1)) ∧ PySem.W.keepIn X.K (.ref (G.fa t.2.2.1)) = true ∧ ∃ fd ps, GOk X.prog X.w X.K X.mg X.base k (G.fa t.2.2.1) fd ps (liftSp G (sem t.2.2.1)) ∧ KwOk X.K fd ps t.2.1 t.2.2.2

section
variable {G : Adr} {W : WX} {sem : Sem} {k : Nat} {C : CC} {X : Cx}
theorem Ctx.units (h : Ctx G W sem k C X) : X.A.units + 65 < cLine := by have := h.room.un; omega
theorem Ctx.vis (h : Ctx G W sem k C X) {x : Str} (v : cVis C.sc x = true) : Vis X.env.scope x := by
  unfold Vis
  rw [h.sc]
  unfold cVis at v
  split at v
  · exact .inl (by assumption)
  · exact .inr (.inl (by assumption))
  · exact .inr (.inr (by assumption))
  · cases v
theorem Ctx.gl (h : Ctx G W sem k C X) {x : Str} (v : cGl C.sc x = true) : Gl X x := by
  show X.env.scope.names.lookup x = _
  rw [h.sc]
  exact of_decide_eq_true v
theorem Ctx.idx (h : Ctx G W sem k C X) {x : Str} {i : Nat} (e : idx C.N x = some i) : X.N[i]? = some x := by
  unfold Ip.idx at e
  rw [h.N]
  obtain ⟨hi, h1, _⟩ := List.findIdx?_eq_some_iff_getElem.mp e
  rw [List.getElem?_eq_getElem hi]
  exact congrArg some (of_decide_eq_true h1)
theorem Ctx.loc (h : Ctx G W sem k C X) {x : Str} (v : cLoc C x = true) : L2.Loc X.env.scope x ∧ (X.fn x = true ∨ X.env.scope.names.lookup x = some .local) := by
  unfold L2.Loc
  rw [h.sc, h.fn]
  unfold cLoc at v
  split at v
  · exact ⟨.inl (by assumption), .inr (by assumption)⟩
  · exact ⟨.inr (by assumption), .inl v⟩
  · cases v
theorem okName_of {x : Str} (h : okName x = true) : (x == ("__debug__" : Str)) = false ∧ (x == ("__classdict__" : Str)) = false := by
  unfold okName at h
  simpa using h
theorem guard_some {α : Type} {b : Bool} {x : Option α} {y : α} (h : guard' b x = some y) : b = true ∧ x = some y := by
  unfold guard' at h
  split at h
  · exact ⟨by assumption, h⟩
  · cases h
/-- in a comprehension's block -/
theorem Ctx.blk (h : Ctx G W sem k C X) (s : Shared) (H : Hp) (scope : Scope) (cl : List (Str × Addr)) (A : Addr) (fp : List Addr) : Ctx G W0 sem k (blkCC C scope) (X.blk s H scope (compEnvC scope cl A X.env) fp) where
  N := h.N
  sc := by
    show relabel scope X.env = blkScope scope C.sc
    rw [← h.sc]
    rfl
  fn := rfl
  nd := h.nd
  K := h.K
  calm := h.calm
  room := h.room
  guards := h.guards
  takes := takes0
  bi := h.bi
  none := h.none
  const := h.const
  defs := h.defs
  fun' := h.fun'
  exn := h.exn
  exm := h.exm
  kws := h.kws

theorem plain_of {e : Expr} (h1 : ∀ es env, starEach (e :: es) env = (false, eval e env) :: starEach es env) (h2 : ∀ op, behindInMarks op e = false) (h3 : PlainIx e) (h4 : ∀ env x, foldedSetIterable e env x = pure x) : Plain e := ⟨h1, h2, h3, h4⟩
theorem cL_ok {f : Expr → Option CE} (hf : ∀ e c, f e = some c → Plain e ∧ PE X e (lift G W (WE sem c))) : ∀ (es : List Expr) (cs : CEs), cL f es = some cs → Plains es ∧ PA X es (liftA G W (WA sem cs))
  | [], cs, h => by
    simp only [cL, Option.some.injEq] at h
    subst h
    exact ⟨.nil, a_nil⟩
  | e :: r, cs, h => by
    simp only [cL] at h
    cases h1 : f e with
    | none => rw [h1] at h; cases h
    | some a =>
      cases h2 : cL f r with
      | none => rw [h1, h2] at h; cases h
      | some b =>
        rw [h1, h2] at h
        simp only [Option.some.injEq] at h
        subst h
        obtain ⟨p1, q1⟩ := hf e a h1
        obtain ⟨p2, q2⟩ := cL_ok hf r b h2
        exact ⟨.cons p1 p2, a_cons q1 q2 (p1.star r X.env)⟩
theorem cBool_ok (hK : X.K = G.K) {f : Expr → Option CE} {op : BoolOp} {pos : Pos} (hf : ∀ e c, f e = some c → Plain e ∧ PE X e (lift G W (WE sem c))) : ∀ (es : List Expr) (c : CE), cBool f op es = some c → PE X (.BoolOp op es pos) (lift G W (WE sem c))
  | [], c, h => by simp [cBool] at h
  | [a], c, h => by
    simp only [cBool] at h
    exact e_one (hf a c h).2
  | a :: b :: r, c, h => by
    simp only [cBool] at h
    cases h1 : f a with
    | none => rw [h1] at h; cases h
    | some x =>
      cases h2 : cBool f op (b :: r) with
      | none => rw [h1, h2] at h; cases h
      | some y =>
        rw [h1, h2] at h
        simp only [Option.some.injEq] at h
        subst h
        have ih := cBool_ok (pos := pos) hK hf (b :: r) y h2
        cases op with
        | And => exact e_and hK (hf a x h1).2 ih
        | Or => exact e_or hK (hf a x h1).2 ih
theorem cBoolT_ok {f : Expr → Option CT} {op : BoolOp} {pos : Pos} (hf : ∀ e c, f e = some c → PT X e (liftB G W (WT sem c))) : ∀ (es : List Expr) (c : CT), cBoolT f op es = some c → PW X (.BoolOp op es pos) (liftB G W (WT sem c))
  | [], c, h => by simp [cBoolT] at h
  | [a], c, h => by
    simp only [cBoolT] at h
    exact w_one op (hf a c h)
  | a :: b :: r, c, h => by
    simp only [cBoolT] at h
    cases h1 : f a with
    | none => rw [h1] at h; cases h
    | some x =>
      cases h2 : cBoolT f op (b :: r) with
      | none => rw [h1, h2] at h; cases h
      | some y =>
        rw [h1, h2] at h
        simp only [Option.some.injEq] at h
        subst h
        have ih := cBoolT_ok (pos := pos) hf (b :: r) y h2
        cases op with
        | And => exact w_and (hf a x h1) ih
        | Or => exact w_or (hf a x h1) ih
/-- targets -/
theorem cG_ok (h : Ctx G W sem k C X) : ∀ (n : Nat) (e : Expr) (t : Tg), cG n C e = some t → PG X e (liftG G t)
  | 0, e, t, q => by simp [cG] at q
  | n + 1, e, t, q => by
    have gos : ∀ (es : List Expr) (t : Tg), cG.go (cG n C) es = some t → PGs X es (liftGs G t) ∧ (assignEach es X.env).length = es.length ∧ (assignEach es X.env).findIdx? (·.1) = none ∧ tgLen t = some es.length := by
      intro es
      induction es with
      | nil =>
        intro t q
        simp only [cG.go, Option.some.injEq] at q
        subst q
        exact ⟨gs_nil, rfl, rfl, rfl⟩
      | cons e r ih =>
        intro t q
        have key : (∀ v p, e ≠ .Starred v p) ∧ ∃ a b, cG n C e = some a ∧ cG.go (cG n C) r = some b ∧ t = .cons a b := by
          cases e
          case Starred v p => simp [cG.go] at q
          all_goals
            refine ⟨fun v p h => (by cases h), ?_⟩
            simp only [cG.go] at q
            split at q
            · rename_i a b h1 h2
              exact ⟨a, b, h1, h2, (Option.some.inj q).symm⟩
            · cases q
        obtain ⟨ns, a, b, h1, h2, rfl⟩ := key
        obtain ⟨i1, i2, i3, i4⟩ := ih b h2
        have ae : assignEach (e :: r) X.env = (false, assign e X.env) :: assignEach r X.env := by
          cases e <;> first | rfl | exact absurd rfl (ns _ _)
        refine ⟨gs_cons (cG_ok h n e a h1) i1 (by rw [ae]; rfl), by rw [ae]; simp [i2], ?_, by simp [tgLen, i4]⟩
        rw [ae, List.findIdx?_cons]
        simp [i3]
    cases e
    case Name x p =>
      simp only [cG] at q
      obtain ⟨q1, q2⟩ := guard_some q
      cases hi : idx C.N x with
      | none => rw [hi] at q2; cases q2
      | some i =>
        rw [hi] at q2
        simp only [Option.map_some, Option.some.injEq] at q2
        subst q2
        obtain ⟨l1, l2⟩ := h.loc q1
        exact g_name (by rw [h.N]; exact h.nd) (h.idx hi) l1 l2
    case Tuple es kk p =>
      simp only [cG] at q
      obtain ⟨g1, g2, g3, g4⟩ := gos es t q
      exact g_tup h.K h.calm g1 g4 g2 g3
    all_goals simp [cG] at q
theorem cG_okA (h : Ctx G W sem k C X) : ∀ (n : Nat) (e : Expr) (t : Tg), cG n C e = some t → PG X e (liftGA G t)
  | 0, e, t, q => by simp [cG] at q
  | n + 1, e, t, q => by
    have gos : ∀ (es : List Expr) (t : Tg), cG.go (cG n C) es = some t → PGs X es (liftGs G t) ∧ (assignEach es X.env).length = es.length ∧ (assignEach es X.env).findIdx? (·.1) = none ∧ tgLen t = some es.length := by
      intro es
      induction es with
      | nil =>
        intro t q
        simp only [cG.go, Option.some.injEq] at q
        subst q
        exact ⟨gs_nil, rfl, rfl, rfl⟩
      | cons e r ih =>
        intro t q
        have key : (∀ v p, e ≠ .Starred v p) ∧ ∃ a b, cG n C e = some a ∧ cG.go (cG n C) r = some b ∧ t = .cons a b := by
          cases e
          case Starred v p => simp [cG.go] at q
          all_goals
            refine ⟨fun v p h => (by cases h), ?_⟩
            simp only [cG.go] at q
            split at q
            · rename_i a b h1 h2
              exact ⟨a, b, h1, h2, (Option.some.inj q).symm⟩
            · cases q
        obtain ⟨ns, a, b, h1, h2, rfl⟩ := key
        obtain ⟨i1, i2, i3, i4⟩ := ih b h2
        have ae : assignEach (e :: r) X.env = (false, assign e X.env) :: assignEach r X.env := by
          cases e <;> first | rfl | exact absurd rfl (ns _ _)
        refine ⟨gs_cons (cG_ok h n e a h1) i1 (by rw [ae]; rfl), by rw [ae]; simp [i2], ?_, by simp [tgLen, i4]⟩
        rw [ae, List.findIdx?_cons]
        simp [i3]
    cases e
    case Name x p =>
      simp only [cG] at q
      obtain ⟨q1, q2⟩ := guard_some q
      cases hi : idx C.N x with
      | none => rw [hi] at q2; cases q2
      | some i =>
        rw [hi] at q2
        simp only [Option.map_some, Option.some.injEq] at q2
        subst q2
        obtain ⟨l1, l2⟩ := h.loc q1
        exact g_nameA (g_name (by rw [h.N]; exact h.nd) (h.idx hi) l1 l2)
    case Tuple es kk p =>
      simp only [cG] at q
      obtain ⟨g1, g2, g3, g4⟩ := gos es t q
      exact g_tupA h.K h.calm g1 g4 g2 g3
    all_goals simp [cG] at q
end
end Ip

-- P14
set_option Elab.async false
set_option linter.all false
set_option maxRecDepth 100000
namespace Ip
open PySem L2 PyProof.Rows

section
variable {G : Adr} {W : WX} {sem : Sem} {k : Nat} {C : CC} {X : Cx}
theorem cName_ok (h : Ctx G W sem k C X) {x : Str} {p : Pos} {c : CE} (q : cName C x = some c) : PE X (.Name x p) (lift G W (WE sem c)) := by
  unfold cName at q
  split at q
  · rename_i ok
    obtain ⟨o1, o2⟩ := okName_of ok
    split at q
    · rename_i v
      cases hi : idx C.N x with
      | none => rw [hi] at q; cases q
      | some i =>
        rw [hi] at q
        simp only [Option.map_some, Option.some.injEq] at q
        subst q
        exact e_var (h.idx hi) (h.vis v) o1 o2
    · split at q
      · rename_i gl
        split at q
        · rename_i d hd
          simp only [Option.some.injEq] at q
          subst q
          obtain ⟨u, v, hm, r, rel⟩ := h.const x d hd
          exact e_const (pe_glob (h.gl gl) hm r o1) rel
        · cases hf : C.defs.lookup x with
          | none => rw [hf] at q; cases q
          | some f =>
            rw [hf] at q
            simp only [Option.map_some, Option.some.injEq] at q
            subst q
            exact e_const (pe_glob (h.gl gl) (h.defs x f hf).1 (r := (show L2.RelV (.ref (G.fa f)) _ from rfl)) o1) fun H m => ⟨rfl, (h.defs x f hf).2⟩
      · cases q
  · cases q
/-- a local name that holds an own def, called -/
theorem e_callv (h : Ctx G W sem k C X) {i : Nat} {x : Str} {p pos : Pos} {e : Expr} {es : List Expr} {t : TAD} (hN : X.N[i]? = some x) (hv : Vis X.env.scope x) (o1 : (x == ("__debug__" : Str)) = false) (o2 : (x == ("__classdict__" : Str)) = false)
    (pl : Plains (e :: es)) (ha : PA X (e :: es) (liftA G W t)) :
    PE X (.Call (.Name x p) (e :: es) [] pos) (lift G W fun ρ S R E => match ρ[i]? with
      | some (some (.fn f)) => t ρ S (fun ds S1 => sem f ds S1 R fun x S2 => E x ρ S2) E
      | _ => False) := by
  have hs : starEach (e :: es) X.env = (false, eval e X.env) :: starEach es X.env := by cases pl with | cons h _ => exact h.star es X.env
  have hb' : (backTo pos (starEach es X.env)).any (·.1) = false := by cases pl with | cons _ h => exact h.back pos X.env
  refine ⟨fun pins s σ H Q I q => ?_⟩
  obtain ⟨m, ρ, S, R, E, at', o, fin⟩ := q
  split at o
  · rename_i f hf
    obtain ⟨v, hv2, hv3, hlt⟩ := at'.env.get i _ hf
    subst hv3
    obtain ⟨hk, fd, ps, F, hb⟩ := h.fun' f hlt
    refine wpAny_Call_Name_kw (thn ((pe_var (pos := p) hN hv o1 o2).run pins s σ H (fun v H1 => v = .ref (G.fa f) ∧ H1 = H) I ⟨.ref (G.fa f), hv2, rfl, rfl⟩) fun u s1 ⟨v, H1, I1, r1, q1⟩ => ?_)
    obtain ⟨rfl, rfl⟩ := q1
    cases r1
    refine PySem.W.callWith_K (h₀ := X.base) I.ok.mod.kin hk (thn (ha.run pos pins s1 σ _ (fun vs H2 => liftSp G (sem f) vs H2 Q (L2.WE W σ)) I1 ⟨m, ρ, S, _, E, at', o, fun ds S1 m1 H1 vs r1 x1 g1 rel1 => ?_⟩) fun us s2 ⟨vs, H2, I2, r, q⟩ => ⟨I2.kIn, ?_⟩) hs hb'
    · refine ⟨m1, S1, R, _, ds, g1, rel1, r1, fin.mono x1, fun x S2 m2 H2 c d hx x2 g2 ok => ?_⟩
      exact at'.xto x ρ S2 m2 H2 σ c d hx (x1.trans x2) g2 (at'.env.mono (x1.trans x2).tp) ok
    · refine F.call h.guards h.room h.takes ?_ I2 r q
      have hl : us.length = ps.length := by rw [← r.length]; exact F.len _ _ _ _ q
      have := hb s2 us I2.kIn (by simpa using hl)
      rwa [List.append_nil] at this
  · exact o.elim
end
end Ip

-- P15
set_option Elab.async false
set_option linter.all false
set_option maxRecDepth 100000
namespace Ip
open PySem L2 PyProof.Rows

section
variable {G : Adr} {W : WX} {sem : Sem} {k : Nat} {C : CC} {X : Cx}
theorem PK.imp {e : List Keyword} {t t' : TA} (h : PK X e t) (i : ∀ σ H Q, t' σ H Q → t σ H Q) : PK X e t' := ⟨fun pos pins s σ H Q I q => h.run pos pins s σ H Q I (i _ _ _ q)⟩
theorem cK_ok {f : Expr → Option CE} (hf : ∀ e c, f e = some c → Plain e ∧ PE X e (lift G W (WE sem c))) : ∀ (kws : List Keyword) (cs : CEs), cL f (kws.map (·.value)) = some cs → PK X kws (liftA G W (WA sem cs))
  | [], cs, h => by
    simp only [List.map_nil, cL, Option.some.injEq] at h
    subst h
    refine PK.imp pk_nil fun σ H Q q => ?_
    obtain ⟨m, ρ, S, R, E, at', o, f⟩ := q
    exact f [] S m H [] o .refl at'.good rfl
  | ⟨nm, e, kp⟩ :: r, cs, h => by
    simp only [List.map_cons, cL] at h
    cases h1 : f e with
    | none => rw [h1] at h; cases h
    | some a =>
      cases h2 : cL f (r.map (·.value)) with
      | none => rw [h1, h2] at h; cases h
      | some b =>
        rw [h1, h2] at h
        simp only [Option.some.injEq] at h
        subst h
        refine PK.imp (pk_cons (hf e a h1).2 (cK_ok hf r b h2)) fun σ H Q q => ?_
        obtain ⟨m, ρ, S, R, E, at', o, f⟩ := q
        refine ⟨m, ρ, S, _, E, at', o, fun d S1 m1 H1 v r1 x1 g1 rel1 => ?_⟩
        refine ⟨m1, ρ, S1, _, E, at'.mono x1 g1, r1, fun ds S2 m2 H2 vs r2 x2 g2 rel2 => ?_⟩
        exact f _ S2 m2 H2 _ r2 (x1.trans x2) g2 ⟨v, vs, rfl, Rel.mono x2.tp _ _ rel1, rel2⟩
theorem kwNames_ok {kws : List Keyword} : ∀ {ks : List Str}, kwNames kws = some ks → ∀ (pos : Pos) (env : PySem.Env), (backToKw pos (keywordEach kws env)).all (·.1.isSome) = true ∧ (backToKw pos (keywordEach kws env)).filterMap (·.1) = ks ∧
    (backToKw pos (keywordEach kws env)).any (·.1.isNone) = false ∧ ks.length = kws.length := by
  induction kws with
  | nil => intro ks h pos env; simp only [kwNames, Option.some.injEq] at h; subst h; exact ⟨rfl, rfl, rfl, rfl⟩
  | cons a r ih =>
    obtain ⟨nm, e, kp⟩ := a
    cases nm with
    | none => intro ks h; simp [kwNames] at h
    | some x =>
      intro ks h pos env
      simp only [kwNames] at h
      cases h1 : kwNames r with
      | none => rw [h1] at h; cases h
      | some ks' =>
        rw [h1] at h
        simp only [Option.map_some, Option.some.injEq] at h
        subst h
        obtain ⟨i1, i2, i3, i4⟩ := ih h1 pos env
        unfold backToKw at i1 i2 i3 ⊢
        simp only [keywordEach, List.map_cons, List.all_cons, List.any_cons, List.filterMap_cons, Option.isSome_some, Option.isNone_some, Bool.true_and, Bool.false_or, List.length_cons, i4]
        exact ⟨i1, by rw [i2], i3, trivial⟩
theorem rels_perm {H : Hp} {m : List Addr} {ds : List D} {vs : List V} (r : Rels G H m ds vs) : ∀ (perm : List Nat), (∀ i ∈ perm, i < ds.length) → Rels G H m (perm.filterMap fun i => ds[i]?) (perm.filterMap fun i => vs[i]?)
  | [], _ => rfl
  | i :: p, h => by
    have hi := h i List.mem_cons_self
    have hv : i < vs.length := by rw [r.length]; exact hi
    obtain ⟨v, e1, e2⟩ := r.get (List.getElem?_eq_getElem hi)
    rw [List.filterMap_cons, List.filterMap_cons, List.getElem?_eq_getElem hi, e1]
    exact ⟨v, _, rfl, e2, rels_perm r p fun j hj => h j (List.mem_cons_of_mem _ hj)⟩
theorem vals_perm {vs : List V} {us : List Value} (r : Vals vs us) : ∀ (perm : List Nat), (∀ i ∈ perm, i < vs.length) → Vals (perm.filterMap fun i => vs[i]?) (perm.filterMap fun i => us[i]?)
  | [], _ => .nil
  | i :: p, h => by
    have hi := h i List.mem_cons_self
    obtain ⟨u, e1, e2⟩ := r.get (List.getElem?_eq_getElem hi)
    rw [List.filterMap_cons, List.filterMap_cons, List.getElem?_eq_getElem hi, e1]
    exact .cons e2 (vals_perm r p fun j hj => h j (List.mem_cons_of_mem _ hj))
theorem e_callk (h : Ctx G W sem k C X) {x : Str} {ks : List Str} {f : Nat} {perm : List Nat} {p pos : Pos} {kws : List Keyword} {t : TAD} (ht : (x, ks, f, perm) ∈ C.kws) (hg : Gl X x) (o1 : (x == ("__debug__" : Str)) = false) (hn : kwNames kws = some ks) (hk : PK X kws (liftA G W t)) :
    PE X (.Call (.Name x p) [] kws pos) (lift G W fun ρ S R E => t ρ S (fun ds S1 => ds.length = ks.length ∧ sem f (perm.filterMap fun i => ds[i]?) S1 R fun x S2 => E x ρ S2) E) := by
  obtain ⟨hm, hkeep, fd, ps, F, kw⟩ := h.kws _ ht
  obtain ⟨n1, n2, n3, n4⟩ := kwNames_ok hn pos X.env
  refine ⟨fun pins s σ H Q I q => ?_⟩
  obtain ⟨m, ρ, S, R, E, at', o, fin⟩ := q
  refine wpAny_Call_Name_kw (ld_glob I hg hm ?_ o1)
  refine PySem.W.callWith_KW0 (h₀ := X.base) I.ok.mod.kin hkeep n1 (thn (hk.run pos pins s σ H (fun vs H2 => vs.length = ks.length ∧ liftSp G (sem f) (perm.filterMap fun i => vs[i]?) H2 Q (L2.WE W σ)) I ⟨m, ρ, S, _, E, at', o, fun ds S1 m1 H1 vs r1 x1 g1 rel1 => ?_⟩) fun ws s2 ⟨vs, H2, I2, rz, hl, q2⟩ => ⟨I2.kIn, ?_⟩) (by rw [n3]; rfl)
  · have hl : ∀ i ∈ perm, i < ds.length := fun i hi => by rw [r1.1]; exact kw.lt i hi
    refine ⟨by rw [rel1.length]; exact r1.1, m1, S1, R, _, _, g1, rels_perm rel1 perm hl, r1.2, fin.mono x1, fun x S2 m2 H2 c d hx x2 g2 ok => ?_⟩
    exact at'.xto x ρ S2 m2 H2 σ c d hx (x1.trans x2) g2 (at'.env.mono (x1.trans x2).tp) ok
  · rw [n2]
    have hv := vals_perm rz perm fun i hi => by rw [hl]; exact kw.lt i hi
    have lw : ws.length = ks.length := by rw [← rz.length]; exact hl
    exact F.call h.guards h.room h.takes (kw.to s2 ws I2.kIn lw) I2 hv q2
end
end Ip

-- P16
set_option Elab.async false
set_option linter.all false
set_option maxRecDepth 100000
namespace Ip
open PySem L2 PyProof.Rows

section
variable {G : Adr} {sem : Sem} {k : Nat}
theorem idx_ok {N : List Str} {x : Str} {i : Nat} (e : idx N x = some i) : N[i]? = some x := by
  unfold Ip.idx at e
  obtain ⟨hi, h1, _⟩ := List.findIdx?_eq_some_iff_getElem.mp e
  rw [List.getElem?_eq_getElem hi]
  exact congrArg some (of_decide_eq_true h1)
theorem biOf_name {x : Str} {n : Nat} {b : Bi} (h : biOf? x n = some b) : biName b = x := by
  have := List.find?_some h
  simp only [Bool.and_eq_true, decide_eq_true_eq] at this
  exact this.1
theorem meOf_name {x : Str} {n : Nat} {b : Me} (h : meOf? x n = some b) : meName b = x ∧ meFits n b = true := by
  have := List.find?_some h
  simp only [Bool.and_eq_true, decide_eq_true_eq] at this
  exact this
theorem tyOf_name {x : Str} {t : Ty} (h : tyOf? x = some t) : (tyName t : Str) = x := by
  have := List.find?_some h
  simpa only [decide_eq_true_eq] using this
theorem base_of {o : Expr} (h : isCall o = false) (m : Str) (env : PySem.Env) : attributeBase o m env (eval o env) = eval o env := by
  cases o <;> first | rfl | cases h
/-- what is shown of each compiler, n deep -/
structure All (G : Adr) (sem : Sem) (k : Nat) (n : Nat) : Prop where
  e : ∀ {W C X} (_ : Ctx G W sem k C X) (e : Expr) (c : CE), cE n C e = some c → Plain e ∧ PE X e (lift G W (WE sem c))
  call : ∀ {W C X} (_ : Ctx G W sem k C X) (f : Str) (es : List Expr) (p pos : Pos) (c : CE), cCall n C f es = some c → PE X (.Call (.Name f p) es [] pos) (lift G W (WE sem c))
  o : ∀ {W C X} (_ : Ctx G W sem k C X) (e : Option Expr) (c : CO), cO n C e = some c → PO X e (liftO G W (WO sem c))
  t : ∀ {W C X} (_ : Ctx G W sem k C X) (e : Expr) (c : CT), cT n C e = some c → PT X e (liftB G W (WT sem c))
  i : ∀ {W C X} (_ : Ctx G W sem k C X) (tg e : Expr) (c : CI), cI n C tg e = some c → PI X tg e (liftI G W (WI sem c)) ∧ ∀ env x, foldedSetIterable e env x = pure x
  f : ∀ {W C X} (_ : Ctx G W sem k C X) (es : List Expr) (c : CF), cF n C es = some c → PTs X es (liftB G W (WF sem c))
theorem all_zero : All G sem k 0 where
  e := fun _ _ _ h => by simp [cE] at h
  call := fun _ _ _ _ _ _ h => by simp [cCall] at h
  o := fun _ _ _ h => by simp [cO] at h
  t := fun _ _ _ h => by simp [cT] at h
  i := fun _ _ _ _ h => by simp [cI] at h
  f := fun _ _ _ h => by simp [cF] at h
theorem ts_none {W : WX} {X : Cx} : PTs X [] (liftB G W fun ρ S R E => R true S) := by
  refine ⟨fun pins s σ H Q I q => ?_⟩
  obtain ⟨m, ρ, S, R, E, at', o, f⟩ := q
  exact pts_nil.run pins s σ H Q I (f.now at'.good o)
theorem all_call {n : Nat} (ih : All G sem k n) {W : WX} {C : CC} {X : Cx} (h : Ctx G W sem k C X) (f : Str) (es : List Expr) (p pos : Pos) (c : CE) (q : cCall (n + 1) C f es = some c) : PE X (.Call (.Name f p) es [] pos) (lift G W (WE sem c)) := by
  unfold cCall at q
  cases es with
  | nil => cases q
  | cons e r =>
    cases hx : cL (cE n C) (e :: r) with
    | none => simp only [hx] at q; cases q
    | some xs =>
      simp only [hx] at q
      obtain ⟨pl, pa⟩ := cL_ok (fun e c => ih.e h e c) (e :: r) xs hx
      split at q
      · rename_i ok
        obtain ⟨o1, o2⟩ := okName_of ok
        split at q
        · rename_i v
          cases hi : idx C.N f with
          | none => rw [hi] at q; cases q
          | some i =>
            rw [hi] at q
            simp only [Option.map_some, Option.some.injEq] at q
            subst q
            exact e_callv h (h.idx hi) (h.vis v) o1 o2 pl pa
        · split at q
          · rename_i gl
            cases hd : C.defs.lookup f with
            | some g =>
              rw [hd] at q
              simp only [Option.some.injEq] at q
              subst q
              obtain ⟨d1, d2⟩ := h.defs f g hd
              obtain ⟨hk, fd, ps, F, hb⟩ := h.fun' g d2
              exact e_call F h.guards h.room (h.gl gl) d1 hk hb h.takes pl pa o1
            | none =>
              rw [hd] at q
              simp only at q
              cases hb : biOf? f (e :: r).length with
              | none => rw [hb] at q; cases q
              | some b =>
                rw [hb] at q
                simp only at q
                obtain ⟨q1, q2⟩ := guard_some q
                simp only [Option.some.injEq] at q2
                subst q2
                have e1 := biOf_name hb
                subst e1
                exact e_bi h.K h.calm h.guards h.units (h.bi b (by simpa using q1)) (h.gl gl) pl pa
          · cases q
      · cases q
theorem two_some {α β γ : Type} {a : Option α} {b : Option β} {f : α → β → γ} {z : γ} (q : opt2 f a b = some z) : ∃ x y, a = some x ∧ b = some y ∧ f x y = z := by
  cases a <;> cases b <;> first | exact ⟨_, _, rfl, rfl, Option.some.inj q⟩ | cases q
theorem three_some {α β γ δ : Type} {a : Option α} {b : Option β} {c : Option γ} {f : α → β → γ → δ} {z : δ} (q : opt3 f a b c = some z) : ∃ x y w, a = some x ∧ b = some y ∧ c = some w ∧ f x y w = z := by
  cases a <;> cases b <;> cases c <;> first | exact ⟨_, _, _, rfl, rfl, rfl, Option.some.inj q⟩ | cases q
theorem four_some {α β γ δ ε : Type} {a : Option α} {b : Option β} {c : Option γ} {d : Option δ} {f : α → β → γ → δ → Option ε} {z : ε} (q : opt4 f a b c d = some z) : ∃ x y w v, a = some x ∧ b = some y ∧ c = some w ∧ d = some v ∧ f x y w v = some z := by
  cases a <;> cases b <;> cases c <;> cases d <;> first | exact ⟨_, _, _, _, rfl, rfl, rfl, rfl, q⟩ | cases q
theorem map_some' {α β : Type} {a : Option α} {f : α → β} {z : β} (q : a.map f = some z) : ∃ x, a = some x ∧ f x = z := by
  cases a <;> first | exact ⟨_, rfl, Option.some.inj q⟩ | cases q
theorem bind_some' {α β : Type} {a : Option α} {f : α → Option β} {z : β} (q : a.bind f = some z) : ∃ x, a = some x ∧ f x = some z := by
  cases a <;> first | exact ⟨_, rfl, q⟩ | cases q
theorem plain_rest {e : Expr} (h : match e with
    | .Starred .. => False | .Set .. => False | .Slice .. => False | _ => True) : Plain e := by
  cases e <;> first | exact h.elim | exact ⟨fun _ _ => rfl, fun _ => rfl, fun _ _ => rfl, fun _ _ => rfl⟩
theorem cLd_ok {W : WX} {X : Cx} {f : Expr → Option CE} (hK : X.K = G.K) (hf : ∀ e c, f e = some c → Plain e ∧ PE X e (lift G W (WE sem c))) : ∀ (es : List Expr) (cs : CEs), cLd f es = some cs → PA X es (liftA G W (WA sem cs))
  | [], cs, q => by simp only [cLd, Option.some.injEq] at q; subst q; exact a_nil
  | e :: r, cs, q => by
    unfold cLd at q
    split at q
    · obtain ⟨a, b, h1, h2, rfl⟩ := two_some q
      exact a_star hK (hf _ a h1).2 (cLd_ok hK hf r b h2)
    · obtain ⟨a, b, h1, h2, rfl⟩ := two_some q
      obtain ⟨p1, p2⟩ := hf _ a h1
      exact a_cons p2 (cLd_ok hK hf r b h2) (p1.star r X.env)
theorem cI_fold {n : Nat} {C : CC} {tg e : Expr} {c : CI} (q : cI n C tg e = some c) (env : PySem.Env) (x : Value) : foldedSetIterable e env x = pure x := by
  cases n with
  | zero => simp [cI] at q
  | succ n =>
    cases e <;> first
      | rfl
      | (simp only [cI, Option.map_eq_some_iff] at q
         obtain ⟨a, q, _⟩ := q
         cases n <;> simp [cE] at q)
theorem all_e {n : Nat} (ih : All G sem k n) {W : WX} {C : CC} {X : Cx} (h : Ctx G W sem k C X) (e : Expr) (c : CE) (q : cE (n + 1) C e = some c) : Plain e ∧ PE X e (lift G W (WE sem c)) := by
  unfold cE at q
  try dsimp only at q
  split at q
  · cases q; exact ⟨plain_rest trivial, e_const pe_int fun _ _ => rfl⟩
  · cases q; exact ⟨plain_rest trivial, e_const pe_bl fun _ _ => rfl⟩
  · cases q; exact ⟨plain_rest trivial, e_const pe_non fun _ _ => rfl⟩
  · cases q; exact ⟨plain_rest trivial, e_const pe_str fun _ _ => rfl⟩
  · exact ⟨plain_rest trivial, cName_ok h q⟩
  · obtain ⟨xs, h1, rfl⟩ := map_some' q
    exact ⟨plain_rest trivial, e_tup (cLd_ok h.K (fun e c => ih.e h e c) _ xs h1)⟩
  · obtain ⟨xs, h1, rfl⟩ := map_some' q
    exact ⟨plain_rest trivial, e_lst (cLd_ok h.K (fun e c => ih.e h e c) _ xs h1)⟩
  · obtain ⟨x, y, h1, h2, rfl⟩ := two_some q
    exact ⟨plain_rest trivial, e_bin h.K (ih.e h _ x h1).2 (ih.e h _ y h2).2 _⟩
  · obtain ⟨x, y, h1, h2, rfl⟩ := two_some q
    have p2 := ih.e h _ y h2
    exact ⟨plain_rest trivial, e_cmp h.K h.units (ih.e h _ x h1).2 p2.2 _ (p2.1.mark _)⟩
  · obtain ⟨x, y, z, h1, h2, h3, rfl⟩ := three_some q
    have p3 := ih.e h _ z h3
    exact ⟨plain_rest trivial, e_chain h.K h.units (ih.e h _ x h1).2 (ih.e h _ y h2).2 p3.2 _ _ (lastMarks_of p3.1)⟩
  · exact ⟨plain_rest trivial, cBool_ok h.K (fun e c => ih.e h e c) _ c q⟩
  · obtain ⟨x, h1, rfl⟩ := map_some' q
    exact ⟨plain_rest trivial, e_not h.K (ih.e h _ x h1).2⟩
  · obtain ⟨x, h1, rfl⟩ := map_some' q
    exact ⟨plain_rest trivial, e_neg (ih.e h _ x h1).2⟩
  · obtain ⟨z, x, y, h1, h2, h3, rfl⟩ := three_some q
    exact ⟨plain_rest trivial, e_ite (ih.t h _ z h1) (ih.e h _ x h2).2 (ih.e h _ y h3).2⟩
  · obtain ⟨x, l, u, h1, h2, h3, rfl⟩ := three_some q
    exact ⟨plain_rest trivial, e_sl h.K (ih.e h _ x h1).2 (ih.o h _ l h2) (ih.o h _ u h3)⟩
  · obtain ⟨x, h1, rfl⟩ := map_some' q
    exact ⟨plain_rest trivial, e_rev h.K (ih.e h _ x h1).2⟩
  · cases q
    exact ⟨plain_rest trivial, e_dnew⟩
  · obtain ⟨x, y, h1, h2, rfl⟩ := two_some q
    have p2 := ih.e h _ y h2
    exact ⟨plain_rest trivial, e_idx h.K h.units (ih.e h _ x h1).2 p2.2 p2.1.ix⟩
  · -- of a set
    refine ⟨plain_rest trivial, ?_⟩
    split at q
    · rename_i hf
      obtain ⟨rfl, rfl⟩ := hf
      obtain ⟨x, h1, q2⟩ := bind_some' q
      obtain ⟨q1, q3⟩ := guard_some q2
      cases q3
      simp only [Bool.and_eq_true] at q1
      have p1 := ih.e h _ x h1
      exact e_lenSet h.K h.calm (h.gl q1.1.1.1) (h.none _ (by simpa using q1.1.2)) (h.gl q1.1.1.2) (h.none _ (by simpa using q1.2)) p1.1 p1.2
    · split at q
      · rename_i hf
        obtain ⟨rfl, rfl⟩ := hf
        obtain ⟨x, h1, q2⟩ := bind_some' q
        obtain ⟨q1, q3⟩ := guard_some q2
        cases q3
        simp only [Bool.and_eq_true] at q1
        have p1 := ih.e h _ x h1
        exact e_sortSet h.K h.calm (h.gl q1.1.1.1) (h.none _ (by simpa using q1.1.2)) (h.gl q1.1.1.2) (h.none _ (by simpa using q1.2)) p1.1 p1.2
      · exact ih.call h _ _ _ _ c q
  · -- isinstance
    refine ⟨plain_rest trivial, ?_⟩
    split at q
    · rename_i hf
      subst hf
      split at q
      · rename_i x ty h1 h2
        obtain ⟨q1, q2⟩ := guard_some q
        cases q2
        have e1 := tyOf_name h2
        subst e1
        simp only [Bool.and_eq_true] at q1
        have p1 := ih.e h _ x h1
        exact e_isI h.K (h.none _ (by simpa using q1.1.2)) (h.gl q1.1.1.1) (h.none _ (by simpa using q1.2)) (h.gl q1.1.1.2) p1.1 p1.2
      · cases q
    · exact ih.call h _ _ _ _ c q
  · exact ⟨plain_rest trivial, ih.call h _ _ _ _ c q⟩
  · -- keywords
    refine ⟨plain_rest trivial, ?_⟩
    split at q
    · rename_i ks xs h1 h2
      split at q
      · rename_i g perm hfind
        obtain ⟨q1, q2⟩ := guard_some q
        cases q2
        simp only [Bool.and_eq_true] at q1
        have hm := List.mem_of_find?_eq_some hfind
        have hp := List.find?_some hfind
        simp only [Bool.and_eq_true, decide_eq_true_eq] at hp
        obtain ⟨e1, e2⟩ := hp
        subst e1 e2
        exact e_callk h hm (h.gl q1.1.2) (okName_of q1.1.1).1 h1 (cK_ok (fun e c => ih.e h e c) _ xs h2)
      · cases q
    · cases q
  · -- methods
    refine ⟨plain_rest trivial, ?_⟩
    obtain ⟨x, xs, me, h1, h2, h3, h4⟩ : ∃ x xs me, cE n C _ = some x ∧ cL (cE n C) _ = some xs ∧ meOf? _ _ = some me ∧ guard' _ (some (CE.meth me x xs)) = some c := by
      split at q
      · exact ⟨_, _, _, by assumption, by assumption, by assumption, q⟩
      · cases q
    obtain ⟨q1, q2⟩ := guard_some h4
    cases q2
    simp only [Bool.and_eq_true, Bool.not_eq_true', decide_eq_true_eq] at q1
    obtain ⟨⟨g1, g2⟩, g3⟩ := q1
    obtain ⟨m1, m2⟩ := meOf_name h3
    subst m1
    have po := (ih.e h _ x h1).2
    obtain ⟨pl, pa⟩ := cL_ok (fun e c => ih.e h e c) _ xs h2
    rename_i o m apos es cpos
    cases es with
    | nil =>
      simp only [cL, Option.some.injEq] at h2
      subst h2
      cases me <;> simp [meFits] at m2
      exact e_meth0 h.K po (base_of g1 _ _) g2
    | cons e r => exact e_meth h.K me po pl (by simp at g3; omega) pa (base_of g1 _ _) g2
  · -- list comprehensions
    rename_i elt tg iter ifs scope pos
    refine ⟨plain_rest trivial, ?_⟩
    obtain ⟨it, t, f, x, h1, h2, h3, h4, q⟩ := four_some q
    obtain ⟨q1, q2⟩ := guard_some q
    cases q2
    simp only [Bool.and_eq_true, List.all_eq_true] at q1
    obtain ⟨b1, b2⟩ := q1
    have ok : BlkOk X.N X.env.scope scope (ownOf C.N scope) := by
      rw [h.N, h.sc]; exact blkOk_by b1
    have hv : ∀ i ∈ slotsT t, i ∈ (ownOf C.N scope).map (·.2) := fun i hi => by simpa using b2 i hi
    obtain ⟨pi, hfo⟩ := ih.i h _ _ it h1
    have hN : X.N.Nodup := by rw [h.N]; exact h.nd
    have hg := fun s H A cl fp => cG_ok (h.blk s H scope cl A fp) n _ t h2
    have ht := fun s H A cl fp => ih.f (h.blk s H scope cl A fp) _ f h3
    have he := fun s H A cl fp => (ih.e (h.blk s H scope cl A fp) _ x h4).2
    refine PE.imp (pe_lc h.calm hN pi ok hg ht he (hfo X.env)) fun σ H Q hq => ?_
    obtain ⟨m, ρ, S, R, E, at', o, fin⟩ := hq
    exact e_comp h.calm hN pi ok hv hg ht he (hfo X.env) at' o fin
  · -- dict comprehensions
    rename_i kx vx tg iter ifs scope pos
    refine ⟨plain_rest trivial, ?_⟩
    obtain ⟨it, t, f, x, h1, h2, h3, h4, q⟩ := four_some q
    obtain ⟨y, q1, rfl⟩ := map_some' q
    obtain ⟨q1, q2⟩ := guard_some q1
    simp only [Bool.and_eq_true, List.all_eq_true] at q1
    obtain ⟨b1, b2⟩ := q1
    have ok : BlkOk X.N X.env.scope scope (ownOf C.N scope) := by
      rw [h.N, h.sc]; exact blkOk_by b1
    have hv : ∀ i ∈ slotsT t, i ∈ (ownOf C.N scope).map (·.2) := fun i hi => by simpa using b2 i hi
    obtain ⟨pi, hfo⟩ := ih.i h _ _ it h1
    have hN : X.N.Nodup := by rw [h.N]; exact h.nd
    refine PE.imp (pe_dc h.calm hN pi ok (fun s H A cl fp => cG_ok (h.blk s H scope cl A fp) n _ t h2) (fun s H A cl fp => ih.f (h.blk s H scope cl A fp) _ f h3) (fun s H A cl fp => (ih.e (h.blk s H scope cl A fp) _ x h4).2) (fun s H A cl fp => (ih.e (h.blk s H scope cl A fp) _ y q2).2) (hfo X.env)) fun σ H Q hq => ?_
    obtain ⟨m, ρ, S, R, E, at', o, fin⟩ := hq
    exact e_dcomp hv at' o fin
  · -- two clauses
    rename_i elt tg iter ifs tg1 iter1 ifs1 scope pos
    refine ⟨plain_rest trivial, ?_⟩
    obtain ⟨it, t, f, x, h1, h2, h3, h4, q⟩ := four_some q
    obtain ⟨it1, t1, f1, k1, k2, k3, rfl⟩ := three_some (Option.some.inj (show some _ = some (some _) from congrArg some q) : _ = _)
    obtain ⟨q1, k1⟩ := guard_some k1
    obtain ⟨t1', k2, q2⟩ := bind_some' k2
    obtain ⟨q2, q3⟩ := guard_some q2
    cases q3
    simp only [Bool.and_eq_true, List.all_eq_true] at q1 q2
    obtain ⟨b1, b2⟩ := q1
    have ok : BlkOk X.N X.env.scope scope (ownOf C.N scope) := by
      rw [h.N, h.sc]; exact blkOk_by b1
    have hv : ∀ i ∈ slotsT t, i ∈ (ownOf C.N scope).map (·.2) := fun i hi => by simpa using b2 i hi
    have hv1 : ∀ i ∈ slotsT t1, i ∈ (ownOf C.N scope).map (·.2) := fun i hi => by simpa using q2 i hi
    obtain ⟨pi, hfo⟩ := ih.i h _ _ it h1
    have hN : X.N.Nodup := by rw [h.N]; exact h.nd
    refine PE.imp (pe_lc2 h.calm hN pi ok hv1 (fun s H A cl fp => cG_ok (h.blk s H scope cl A fp) n _ t h2) (fun s H A cl fp => ih.f (h.blk s H scope cl A fp) _ f h3) (fun s H A cl fp => (ih.i (h.blk s H scope cl A fp) _ _ it1 k1).1)
      (fun s H A cl fp => cG_ok (h.blk s H scope cl A fp) n _ t1 k2) (fun s H A cl fp => ih.f (h.blk s H scope cl A fp) _ f1 k3) (fun s H A cl fp => (ih.e (h.blk s H scope cl A fp) _ x h4).2) (hfo X.env) (cI_fold k1)) fun σ H Q hq => ?_
    obtain ⟨m, ρ, S, R, E, at', o, fin⟩ := hq
    exact e_comp2 hv (fun i hi => hi) at' o fin
  · cases q
theorem all_t {n : Nat} (ih : All G sem k n) {W : WX} {C : CC} {X : Cx} (h : Ctx G W sem k C X) (e : Expr) (c : CT) (q : cT (n + 1) C e = some c) : PT X e (liftB G W (WT sem c)) := by
  unfold cT at q
  split at q
  · obtain ⟨x, y, h1, h2, rfl⟩ := two_some q
    have p2 := ih.e h _ y h2
    exact t_cmp h.K h.units (ih.e h _ x h1).2 p2.2 _ (p2.1.mark _)
  · obtain ⟨x, y, z, h1, h2, h3, rfl⟩ := three_some q
    have p3 := ih.e h _ z h3
    exact t_chain h.K h.units (ih.e h _ x h1).2 (ih.e h _ y h2).2 p3.2 _ _ (lastMarks_of p3.1)
  · exact (cBoolT_ok (fun e c => ih.t h e c) _ c q).pt
  · obtain ⟨x, h1, rfl⟩ := map_some' q
    exact t_not (ih.t h _ x h1)
  · cases q
  · cases q
  · rename_i n1 n2 n3 n4 n5 n6
    obtain ⟨x, h1, rfl⟩ := map_some' q
    refine t_val h.K (ih.e h _ x h1).2 ?_
    cases e
    case Compare => exact absurd rfl (n5 _ _ _ _)
    case BoolOp => exact absurd rfl (n3 _ _ _)
    case IfExp => exact absurd rfl (n6 _ _ _ _)
    case UnaryOp op a p =>
      cases op
      case Not => exact absurd rfl (n4 _ _)
      all_goals exact fun _ => rfl
    all_goals exact fun _ => rfl
theorem all_i {n : Nat} (ih : All G sem k n) {W : WX} {C : CC} {X : Cx} (h : Ctx G W sem k C X) (tg e : Expr) (c : CI) (q : cI (n + 1) C tg e = some c) : PI X tg e (liftI G W (WI sem c)) ∧ ∀ env x, foldedSetIterable e env x = pure x := by
  have of : ∀ (e : Expr) (c : CI), (cE n C e).map CI.of = some c → PI X tg e (liftI G W (WI sem c)) ∧ ∀ env x, foldedSetIterable e env x = pure x := fun e c q => by
    obtain ⟨x, h1, rfl⟩ := map_some' q
    have p1 := ih.e h _ x h1
    exact ⟨i_of h.K p1.2, p1.1.fold⟩
  unfold cI at q
  split at q
  · split at q
    · rename_i hc
      obtain ⟨g1, rfl⟩ := hc
      obtain ⟨x, h1, q2⟩ := bind_some' q
      obtain ⟨q3, q4⟩ := guard_some q2
      cases q4
      have p1 := ih.e h _ x h1
      exact ⟨i_range1 (h.gl g1) (h.none _ (by simpa using q3)) p1.1 p1.2, fun _ _ => rfl⟩
    · split at q
      · rename_i hc
        obtain ⟨g1, rfl⟩ := hc
        split at q
        · obtain ⟨x, h1, q2⟩ := bind_some' q
          obtain ⟨q3, q4⟩ := guard_some q2
          cases q4
          have p1 := ih.e h _ x h1
          exact ⟨i_enum h.K (h.gl g1) (h.none _ (by simpa using q3)) p1.1 p1.2, fun _ _ => rfl⟩
        · cases q
      · exact of _ _ q
  · split at q
    · rename_i hc
      obtain ⟨g1, rfl⟩ := hc
      split at q
      · rename_i x y h1 h2
        obtain ⟨q3, q4⟩ := guard_some q
        cases q4
        have p1 := ih.e h _ x h1
        have p2 := ih.e h _ y h2
        exact ⟨i_range2 (h.gl g1) (h.none _ (by simpa using q3)) p1.1 p2.1 p1.2 p2.2, fun _ _ => rfl⟩
      · cases q
    · split at q
      · rename_i hc
        obtain ⟨g1, rfl⟩ := hc
        split at q
        · rename_i x y h1 h2
          obtain ⟨q3, q4⟩ := guard_some q
          cases q4
          have p1 := ih.e h _ x h1
          have p2 := ih.e h _ y h2
          exact ⟨i_zip h.K (h.gl g1) (h.none _ (by simpa using q3)) p1.1 p2.1 p1.2 p2.2, fun _ _ => rfl⟩
        · cases q
      · exact of _ _ q
  · exact of _ _ q
theorem all_ok : ∀ n, All G sem k n
  | 0 => all_zero
  | n + 1 => by
    have ih := all_ok n
    refine ⟨fun h e c q => all_e ih h e c q, fun h f es p pos c q => all_call ih h f es p pos c q, fun h e c q => ?_, fun h e c q => all_t ih h e c q, fun h tg e c q => all_i ih h tg e c q, fun h es c q => ?_⟩
    · cases e with
      | none => simp only [cO, Option.some.injEq] at q; subst q; exact o_none
      | some e =>
        simp only [cO] at q
        obtain ⟨x, h1, rfl⟩ := map_some' q
        exact o_some (ih.e h _ x h1).2
    · cases es with
      | nil => simp only [cF, Option.some.injEq] at q; subst q; exact ts_none
      | cons c1 r => cases r with
        | nil =>
          simp only [cF] at q
          obtain ⟨x, h1, rfl⟩ := map_some' q
          exact pts_one (ih.t h _ x h1)
        | cons => simp [cF] at q
end
end Ip

-- P17
set_option Elab.async false
set_option linter.all false
set_option maxRecDepth 100000
namespace Ip
open PySem L2 PyProof.Rows

/-! ### statements: from the text -/
def isComp : Expr → Bool
  | .ListComp .. => true | .SetComp .. => true | .DictComp .. => true | _ => false
def isTup : Expr → Bool
  | .Tuple .. => true | _ => false
def isTgt : Expr → Bool
  | .Tuple .. => true | .Name .. => true | _ => false
def cLS (f : Stmt → Option CS) : List Stmt → Option (List CS)
  | [] => some []
  | s :: r => opt2 List.cons (f s) (cLS f r)
def isLoc (C : CC) (x : Str) : Bool := decide (C.sc.names.lookup x = some .local)
/-- a target that is no local name: then nothing is swapped -/
def oddTgt (C : CC) (ts : List Expr) : Bool := ts.any fun t => match t with
  | .Name x _ => !isLoc C x
  | _ => true
def cAsg (n : Nat) (C : CC) (tg e : Expr) (pos : Pos) : Option CS := match tg, e with
  | .Name x px, .ListComp elt [⟨t1, it, ifs, 0⟩] scope cpos =>
    if isLoc C x = true then
      guard' ((px.line == cpos.line) && !(scope.names.any fun (n, k) => n == x && (k == .local || k == .cell))) (opt2 (fun t c => .asg t c) (cG n C tg) (cE n C e))
    else guard' (decide (C.sc.names.lookup x = some .cell)) (opt2 (fun t c => .asg t c) (cG n C tg) (cE n C e))
  | .Name x px, .ListComp elt [⟨t1, it, ifs, 0⟩, ⟨t2, it2, ifs2, 0⟩] scope cpos =>
    if isLoc C x = true then
      guard' ((px.line == cpos.line) && !(scope.names.any fun (n, k) => n == x && (k == .local || k == .cell))) (opt2 (fun t c => .asg t c) (cG n C tg) (cE n C e))
    else guard' (decide (C.sc.names.lookup x = some .cell)) (opt2 (fun t c => .asg t c) (cG n C tg) (cE n C e))
  | .Name x px, .DictComp kx vx gs scope cpos => guard' (decide (C.sc.names.lookup x = some .cell)) (opt2 (fun t c => .asg t c) (cG n C tg) (cE n C e))
  | .Tuple [.Name x px, .Name y py] _ _, .Tuple [a, b] _ _ =>
    if ([a, b].all (foldedForSure 8) || oddTgt C [.Name x px, .Name y py]) = true then opt2 (fun t c => .asg t c) (cG n C tg) (cE n C e)
    else guard' (isLoc C x && isLoc C y && (py.line == px.line) && !(x == y) && !([a, b].all (constantsAlone 8)))
      ((opt2 (fun i j => (i, j)) (idx C.N x) (idx C.N y)).bind fun (i, j) => opt2 (fun u v => .par2 i j u v) (cE n C a) (cE n C b))
  | .Tuple [.Name x px, .Name y py, .Name z pz] _ _, .Tuple [a, b, c] _ _ =>
    if ([a, b, c].all (foldedForSure 8) || oddTgt C [.Name x px, .Name y py, .Name z pz]) = true then opt2 (fun t c => .asg t c) (cG n C tg) (cE n C e)
    else guard' (isLoc C x && isLoc C y && isLoc C z && (py.line == px.line) && (pz.line == px.line) && !(x == y) && !(x == z) && !(y == z) && !([a, b, c].all (constantsAlone 8)))
      ((opt3 (fun i j l => (i, j, l)) (idx C.N x) (idx C.N y) (idx C.N z)).bind fun (i, j, l) => opt3 (fun u v w => .par3 i j l u v w) (cE n C a) (cE n C b) (cE n C c))
  | .Tuple ts _ _, .Tuple vs _ _ => guard' (!(ts.length == 2 || ts.length == 3) || oddTgt C ts) (opt2 (fun t c => .asg t c) (cG n C tg) (cE n C e))
  | .Subscript o i _, e => guard' (!isComp e && !isTup e) (opt3 (fun x y z => .put x y z) (cE n C o) (cE n C i) (cE n C e))
  | tg, e => guard' (isTgt tg && !isComp e && !(isTup tg && isTup e)) (opt2 (fun t c => .asg t c) (cG n C tg) (cE n C e))
/-- constants alone, given to names -/
def cConst : PySem.Const → Option D
  | .int i => some (.int i) | .bool b => some (.bl b) | .none => some .non | .str x => some (.str x) | _ => none
def cSu (C : CC) : List Stmt → Option (List (Nat × D))
  | [] => some []
  | .Assign [.Name y _] (.Constant c _ _) _ :: r => guard' (cLoc C y) (opt3 (fun i d r => (i, d) :: r) (idx C.N y) (cConst c) (cSu C r))
  | _ :: _ => none
def cHs (C : CC) : List ExceptHandler → Option (List (List Nat × List (Nat × D)))
  | [] => some []
  | .ExceptHandler (some (.Name x _)) none (b₀ :: suite) _ :: r => guard' (cGl C.sc x && okName x) (opt3 (fun ns as r => (ns, as) :: r) (C.catches.lookup x) (cSu C (b₀ :: suite)) (cHs C r))
  | _ :: _ => none
def cS : Nat → CC → Stmt → Option CS
  | 0, _, _ => none
  | n + 1, C, st => match st with
    | .Expr e _ => guard' (!isComp e) ((cE n C e).map .expr)
    | .Return (some e) _ => (cE n C e).map .ret
    | .Return none _ => some .retN
    | .Pass _ => some .pass
    | .Break _ => some .brk
    | .Continue _ => some .cont
    | .If c a b _ => opt3 (fun x y z => .ife x y z) (cT n C c) (cLS (cS n C) a) (cLS (cS n C) b)
    | .For tg it b [] _ => opt3 (fun x y z => .for x y z) (cG n C tg) (cI n C tg it) (cLS (cS n C) b)
    | .While c b [] _ => opt2 (fun x y => .while x y) (cT n C c) (cLS (cS n C) b)
    | .Assign [tg] e pos => cAsg n C tg e pos
    | .AugAssign (.Name x _) op e _ => guard' (cLoc C x) (opt2 (fun i y => .aug i op y) (idx C.N x) (cE n C e))
    | .Try b (h₀ :: hs) [] [] _ => opt2 (fun x y => .try x C.kn y) (cLS (cS n C) b) (cHs C (h₀ :: hs))
    | .Raise (some (.Call (.Name x _) [.Constant (.str _) _ _] [] _)) none _ => guard' (cGl C.sc x && okName x) ((C.exns.lookup x).map .raise)
    | _ => none

theorem swaps_none {e : Expr} (h : isComp e = false) (t : Option Expr) (l : Nat) (env : PySem.Env) : swapsWith e t l env = pure false := by
  cases e <;> first | rfl | cases h
theorem swaps_sole {e : Expr} (h : isComp e = false) (t : Expr) (l : Nat) (env : PySem.Env) : swapsWithSole [t] e l env = pure false := swaps_none h (some t) l env
theorem stores_none {tg e : Expr} (h : (isTup tg && isTup e) = false) (hl : ∀ es p, tg ≠ .List es p) (env : PySem.Env) : swappedStores [tg] e env = pure none := by
  cases tg <;> first
    | rfl
    | exact absurd rfl (hl _ _)
    | (cases e <;> first | rfl | cases h)
theorem swaps_cell {elt : Expr} {gs : List Comprehension} {scope : Scope} {cpos py : Pos} {y : Str} {l : Nat} {env : PySem.Env} (hy : env.scope.names.lookup y = some .cell) : swapsWithSole [.Name y py] (.ListComp elt gs scope cpos) l env = pure false := by
  have ky : env.kindOf y = some .cell := hy
  unfold swapsWithSole swapsWith
  simp only [ky]
  rw [show (some NameKind.cell == some NameKind.local) = false from rfl]
  simp
theorem swaps_cellD {kx vx : Expr} {gs : List Comprehension} {scope : Scope} {cpos py : Pos} {y : Str} {l : Nat} {env : PySem.Env} (hy : env.scope.names.lookup y = some .cell) : swapsWithSole [.Name y py] (.DictComp kx vx gs scope cpos) l env = pure false := by
  have ky : env.kindOf y = some .cell := hy
  unfold swapsWithSole swapsWith
  simp only [ky]
  rw [show (some NameKind.cell == some NameKind.local) = false from rfl]
  simp
theorem swaps_two {x y : Str} {px py pt p2 : Pos} {a b : Expr} {k1 k2 : Nat} {env : PySem.Env} (hk : env.scope.kind = .function) (hx : env.scope.names.lookup x = some .local) (hy : env.scope.names.lookup y = some .local) (hl : (py.line == px.line) = true) (hn : (x == y) = false)
    (pa : ∀ v p, a ≠ .Starred v p) (pb : ∀ v p, b ≠ .Starred v p) (h1 : [a, b].all (foldedForSure 8) = false) (h2 : [a, b].all (constantsAlone 8) = false) :
    swappedStores [.Tuple [.Name x px, .Name y py] k1 pt] (.Tuple [a, b] k2 p2) env = pure (some [x, y]) := by
  have kx : env.kindOf x = some .local := hx
  have ky : env.kindOf y = some .local := hy
  have hb : env.blockKind = .function := by unfold Env.blockKind; rw [hk]; rfl
  have st : ([a, b].any fun | .Starred .. => true | _ => false) = false := by
    have sa : (match a with | .Starred .. => true | _ => false) = false := by cases a <;> first | rfl | exact absurd rfl (pa _ _)
    have sb : (match b with | .Starred .. => true | _ => false) = false := by cases b <;> first | rfl | exact absurd rfl (pb _ _)
    simp only [List.any_cons, List.any_nil, sa, sb, Bool.or_false]
  have nd : ([x, y] : List Str).eraseDups.length = 2 := by
    have : (y == x) = false := by
      rw [beq_eq_false_iff_ne] at hn ⊢
      exact fun e => hn e.symm
    simp [List.eraseDups_cons, this]
  unfold swappedStores
  simp only [hb, kx, ky, st, Expr.pos, List.head?_cons, Option.map_some, Option.getD_some, beq_self_eq_true, Bool.and_self, Bool.true_and, hl, List.filterMap_cons, List.filterMap_nil, if_true, List.length_cons, List.length_nil, h1, h2]
  simp [nd]
theorem swaps_three {x y z : Str} {px py pz pt p2 : Pos} {a b c : Expr} {k1 k2 : Nat} {env : PySem.Env} (hk : env.scope.kind = .function) (hx : env.scope.names.lookup x = some .local) (hy : env.scope.names.lookup y = some .local) (hz : env.scope.names.lookup z = some .local) (hl : (py.line == px.line) = true) (hl2 : (pz.line == px.line) = true)
    (hn : (x == y) = false) (hn2 : (x == z) = false) (hn3 : (y == z) = false)
    (pa : ∀ v p, a ≠ .Starred v p) (pb : ∀ v p, b ≠ .Starred v p) (pc : ∀ v p, c ≠ .Starred v p) (h1 : [a, b, c].all (foldedForSure 8) = false) (h2 : [a, b, c].all (constantsAlone 8) = false) :
    swappedStores [.Tuple [.Name x px, .Name y py, .Name z pz] k1 pt] (.Tuple [a, b, c] k2 p2) env = pure (some [x, y, z]) := by
  have kx : env.kindOf x = some .local := hx
  have ky : env.kindOf y = some .local := hy
  have kz : env.kindOf z = some .local := hz
  have hb : env.blockKind = .function := by unfold Env.blockKind; rw [hk]; rfl
  have st : ([a, b, c].any fun | .Starred .. => true | _ => false) = false := by
    have sa : (match a with | .Starred .. => true | _ => false) = false := by cases a <;> first | rfl | exact absurd rfl (pa _ _)
    have sb : (match b with | .Starred .. => true | _ => false) = false := by cases b <;> first | rfl | exact absurd rfl (pb _ _)
    have sc : (match c with | .Starred .. => true | _ => false) = false := by cases c <;> first | rfl | exact absurd rfl (pc _ _)
    simp only [List.any_cons, List.any_nil, sa, sb, sc, Bool.or_false]
  have nd : ([x, y, z] : List Str).eraseDups.length = 3 := by
    have e1 : (y == x) = false := by
      rw [beq_eq_false_iff_ne] at hn ⊢
      exact fun e => hn e.symm
    have e2 : (z == x) = false := by
      rw [beq_eq_false_iff_ne] at hn2 ⊢
      exact fun e => hn2 e.symm
    have e3 : (z == y) = false := by
      rw [beq_eq_false_iff_ne] at hn3 ⊢
      exact fun e => hn3 e.symm
    simp [List.eraseDups_cons, e1, e2, e3]
  unfold swappedStores
  simp only [hb, kx, ky, kz, st, Expr.pos, List.head?_cons, Option.map_some, Option.getD_some, beq_self_eq_true, Bool.and_self, Bool.true_and, hl, hl2, List.filterMap_cons, List.filterMap_nil, if_true, List.length_cons, List.length_nil, h1, h2]
  simp [nd]

/-! ### statements: soundness -/
section
variable {G : Adr} {sem : Sem} {k : Nat} {W : WX} {C : CC} {X : Cx}
theorem cLS_ok {f : Stmt → Option CS} (hf : ∀ s c, f s = some c → PS X s (liftS G W (WS sem c))) : ∀ (ss : List Stmt) (cs : List CS), cLS f ss = some cs → PSs X ss (liftS G W (WSs sem cs))
  | [], cs, h => by
    simp only [cLS, Option.some.injEq] at h
    subst h
    exact ss_nil
  | s :: r, cs, h => by
    simp only [cLS] at h
    obtain ⟨x, y, h1, h2, rfl⟩ := two_some h
    exact ss_cons (sa := WS sem x) (sb := WSs sem y) (hf s x h1) (cLS_ok hf r y h2)
theorem notStar {n : Nat} {C : CC} {e : Expr} {c : CE} (h : cE n C e = some c) : ∀ v p, e ≠ .Starred v p := by
  intro v p he
  subst he
  cases n <;> simp [cE] at h
theorem notSlice {n : Nat} {C : CC} {e : Expr} {c : CE} (h : cE n C e = some c) : ∀ l u p, e ≠ .Slice l u none p := by
  intro v p q he
  subst he
  cases n <;> simp [cE] at h
theorem folded_two {ts : List Expr} {vs : List Expr} {k1 k2 : Nat} {pt p2 : Pos} {env : PySem.Env} (h : vs.all (foldedForSure 8) = true) : swappedStores [.Tuple ts k1 pt] (.Tuple vs k2 p2) env = pure none := by
  unfold swappedStores
  simp only [h, if_true]
  repeat' split
  all_goals rfl
theorem odd_two {ts : List Expr} {vs : List Expr} {k1 k2 : Nat} {pt p2 : Pos} {env : PySem.Env} (hs : env.scope = C.sc) (h : oddTgt C ts = true) : swappedStores [.Tuple ts k1 pt] (.Tuple vs k2 p2) env = pure none := by
  unfold swappedStores
  simp only
  split
  · rfl
  split
  · rfl
  split
  · rfl
  · rename_i hn
    exfalso
    simp only [Bool.or_eq_true, bne_iff_ne, ne_eq, not_or, Decidable.not_not] at hn
    have hall := List.filterMap_length_eq_length.mp hn.1
    obtain ⟨t, ht, hb⟩ := List.any_eq_true.mp h
    have q := hall t ht
    cases t <;> simp only [Option.isSome_none, Bool.false_eq_true] at q
    rename_i x px
    have nl : isLoc C x = false := by simpa using hb
    have : (env.kindOf x == some NameKind.local) = false := by
      show (env.scope.names.lookup x == some NameKind.local) = false
      rw [hs]
      unfold isLoc at nl
      have := of_decide_eq_false nl
      exact beq_eq_false_iff_ne.mpr this
    rw [this] at q
    simp at q
theorem cG_tgt {n : Nat} {C : CC} {tg : Expr} {t : Tg} (h : cG n C tg = some t) : isTgt tg = true := by
  cases n with
  | zero => simp [cG] at h
  | succ n => cases tg <;> first | rfl | simp [cG] at h
theorem asg_ok (h : Ctx G W sem k C X) (hf : X.env.scope.kind = .function) {n : Nat} {tg e : Expr} {pos : Pos} {c : CS} (q : cAsg n C tg e pos = some c) : PS X (.Assign [tg] e pos) (liftS G W (WS sem c)) := by
  have A := all_ok (G := G) (sem := sem) (k := k) n
  have hN : X.N.Nodup := by rw [h.N]; exact h.nd
  have loc : ∀ {x}, isLoc C x = true → X.env.scope.names.lookup x = some .local := fun {x} v => by rw [h.sc]; exact of_decide_eq_true v
  have one : ∀ {tg : Expr}, isTgt tg = true → (assignEach [tg] X.env).map (·.2) = [assign tg X.env] := fun {tg} ht => by cases tg <;> first | rfl | cases ht
  have gen : ∀ {tg e : Expr} {t : Tg} {x : CE}, cG n C tg = some t → cE n C e = some x → swapsWithSole [tg] e pos.line X.env = pure false → swappedStores [tg] e X.env = pure none → PS X (.Assign [tg] e pos) (liftS G W (WS sem (.asg t x))) :=
    fun h1 h2 h3 h4 => s_asg (A.e h _ _ h2).2 (cG_okA h n _ _ h1) h3 h4 (one (cG_tgt h1))
  unfold cAsg at q
  split at q
  · rename_i x px elt t1 it ifs scope cpos
    split at q
    · rename_i hl
      obtain ⟨q1, q2⟩ := guard_some q
      simp only [Bool.and_eq_true, Bool.not_eq_true'] at q1
      obtain ⟨t, ce, h1, h2, rfl⟩ := two_some q2
      have hsw : swapsWith (.ListComp elt [⟨t1, it, ifs, 0⟩] scope cpos) (some (.Name x px)) pos.line X.env = pure true := sw_true hf (loc hl) q1.1 q1.2
      cases n with
      | zero => simp [cE] at h2
      | succ n =>
        obtain ⟨it', t', f', x', g1, g2, g3, g4, h2⟩ := four_some h2
        obtain ⟨r1, r2⟩ := guard_some h2
        cases r2
        simp only [Bool.and_eq_true, List.all_eq_true] at r1
        obtain ⟨b1, b2⟩ := r1
        have ih := all_ok (G := G) (sem := sem) (k := k) n
        have ok : BlkOk X.N X.env.scope scope (ownOf C.N scope) := by rw [h.N, h.sc]; exact blkOk_by b1
        have hv : ∀ i ∈ slotsT t', i ∈ (ownOf C.N scope).map (·.2) := fun i hi => by simpa using b2 i hi
        obtain ⟨pi, hfo⟩ := ih.i h _ _ it' g1
        have hg := fun s H A cl fp => cG_ok (h.blk s H scope cl A fp) n _ t' g2
        have ht := fun s H A cl fp => ih.f (h.blk s H scope cl A fp) _ f' g3
        have he := fun s H A cl fp => (ih.e (h.blk s H scope cl A fp) _ x' g4).2
        obtain ⟨l1, l2⟩ := guard_some h1
        obtain ⟨i, hi, rfl⟩ := map_some' l2
        exact s_comp h.calm hN (h.idx hi) (loc hl) hsw pi ok hv hg ht he (hfo X.env)
    · obtain ⟨q1, q2⟩ := guard_some q
      obtain ⟨t, ce, h1, h2, rfl⟩ := two_some q2
      exact gen h1 h2 (swaps_cell (by rw [h.sc]; exact of_decide_eq_true q1)) rfl
  · rename_i x px elt tg iter ifs tg1 iter1 ifs1 scope cpos
    split at q
    · rename_i hl
      obtain ⟨q1, q2⟩ := guard_some q
      simp only [Bool.and_eq_true, Bool.not_eq_true'] at q1
      obtain ⟨t, ce, h1, h2, rfl⟩ := two_some q2
      have hsw : swapsWith (.ListComp elt [⟨tg, iter, ifs, 0⟩, ⟨tg1, iter1, ifs1, 0⟩] scope cpos) (some (.Name x px)) pos.line X.env = pure true := sw_true hf (loc hl) q1.1 q1.2
      cases n with
      | zero => simp [cE] at h2
      | succ n =>
        obtain ⟨it, t', f', x', g1, g2, g3, g4, h2⟩ := four_some h2
        obtain ⟨it1, t1', f1, k1, k2, k3, rfl⟩ := three_some (show _ = some _ from h2)
        obtain ⟨r1, k1⟩ := guard_some k1
        obtain ⟨t1'', k2, r2⟩ := bind_some' k2
        obtain ⟨r2, r3⟩ := guard_some r2
        cases r3
        simp only [Bool.and_eq_true, List.all_eq_true] at r1 r2
        obtain ⟨b1, b2⟩ := r1
        have ih := all_ok (G := G) (sem := sem) (k := k) n
        have ok : BlkOk X.N X.env.scope scope (ownOf C.N scope) := by rw [h.N, h.sc]; exact blkOk_by b1
        have hv : ∀ i ∈ slotsT t', i ∈ (ownOf C.N scope).map (·.2) := fun i hi => by simpa using b2 i hi
        have hv1 : ∀ i ∈ slotsT t1', i ∈ (ownOf C.N scope).map (·.2) := fun i hi => by simpa using r2 i hi
        obtain ⟨pi, hfo⟩ := ih.i h _ _ it g1
        obtain ⟨l1, l2⟩ := guard_some h1
        obtain ⟨i, hi, rfl⟩ := map_some' l2
        refine PS.imp (ps_setLc2 h.calm hN (h.idx hi) (loc hl) hsw pi ok hv1 (fun s H A cl fp => cG_ok (h.blk s H scope cl A fp) n _ t' g2) (fun s H A cl fp => ih.f (h.blk s H scope cl A fp) _ f' g3) (fun s H A cl fp => (ih.i (h.blk s H scope cl A fp) _ _ it1 k1).1)
          (fun s H A cl fp => cG_ok (h.blk s H scope cl A fp) n _ t1' k2) (fun s H A cl fp => ih.f (h.blk s H scope cl A fp) _ f1 k3) (fun s H A cl fp => (ih.e (h.blk s H scope cl A fp) _ x' g4).2) (hfo X.env) (cI_fold k1)) fun D σ H hq => ?_
        obtain ⟨m, ρ, S, R, E, at', o, f⟩ := hq
        show tLc2 _ _ _ _ _ _ _ _ _ σ H fun x H1 => gName i x σ H1 D.nx
        refine e_comp2 (R := fun d S1 => R.nx (ρ.set i (some d)) S1) hv (fun i hi => hi) at' o fun d S' m' H' v r x g rel => ?_
        exact f.nx _ S' m' H' _ r x g ((at'.env.mono x.tp).set rel)
    · obtain ⟨q1, q2⟩ := guard_some q
      obtain ⟨t, ce, h1, h2, rfl⟩ := two_some q2
      exact gen h1 h2 (swaps_cell (by rw [h.sc]; exact of_decide_eq_true q1)) rfl
  · obtain ⟨q1, q2⟩ := guard_some q
    obtain ⟨t, ce, h1, h2, rfl⟩ := two_some q2
    exact gen h1 h2 (swaps_cellD (by rw [h.sc]; exact of_decide_eq_true q1)) rfl
  · rename_i x px y py k1 pt a b k2 p2
    split at q
    · rename_i hfold
      obtain ⟨t, ce, h1, h2, rfl⟩ := two_some q
      refine gen h1 h2 rfl ?_
      rcases Bool.or_eq_true_iff.mp hfold with z | z
      · exact folded_two z
      · exact odd_two h.sc z
    · rename_i hfold
      obtain ⟨q1, q2⟩ := guard_some q
      simp only [Bool.and_eq_true, Bool.not_eq_true'] at q1
      obtain ⟨⟨⟨⟨l1, l2⟩, l3⟩, l4⟩, l5⟩ := q1
      cases hij : opt2 (fun i j => (i, j)) (idx C.N x) (idx C.N y) with
      | none => rw [hij] at q2; cases q2
      | some ij =>
        rw [hij] at q2
        obtain ⟨i, j, hi, hj, rfl⟩ := two_some hij
        simp only [Option.bind_some] at q2
        obtain ⟨u, v, h1, h2, rfl⟩ := two_some q2
        have p1 := A.e h _ _ h1
        have p2' := A.e h _ _ h2
        have hne : i ≠ j := fun e => by
          subst e
          have e1 := idx_ok hi
          rw [idx_ok hj] at e1
          cases e1
          simp at l4
        exact s_par2 h.calm hN (h.idx hi) (h.idx hj) hne (loc l1) (loc l2) p1.2 p2'.2 p1.1 p2'.1 (swaps_two hf (loc l1) (loc l2) l3 l4 (notStar h1) (notStar h2) (by simp only [Bool.or_eq_true, not_or, Bool.not_eq_true] at hfold; exact hfold.1) l5)
  · rename_i x px y py z pz k1 pt a b c k2 p2
    split at q
    · rename_i hfold
      obtain ⟨t, ce, h1, h2, rfl⟩ := two_some q
      refine gen h1 h2 rfl ?_
      rcases Bool.or_eq_true_iff.mp hfold with z | z
      · exact folded_two z
      · exact odd_two h.sc z
    · rename_i hfold
      obtain ⟨q1, q2⟩ := guard_some q
      simp only [Bool.and_eq_true, Bool.not_eq_true'] at q1
      obtain ⟨⟨⟨⟨⟨⟨⟨⟨l1, l2⟩, l3⟩, l4⟩, l5⟩, l6⟩, l7⟩, l8⟩, l9⟩ := q1
      cases hij : opt3 (fun i j l => (i, j, l)) (idx C.N x) (idx C.N y) (idx C.N z) with
      | none => rw [hij] at q2; cases q2
      | some ij =>
        rw [hij] at q2
        obtain ⟨i, j, l, hi, hj, hl, rfl⟩ := three_some hij
        simp only [Option.bind_some] at q2
        obtain ⟨u, v, w, h1, h2, h3, rfl⟩ := three_some q2
        have p1 := A.e h _ _ h1
        have p2' := A.e h _ _ h2
        have p3 := A.e h _ _ h3
        have ne : ∀ {x y : Str} {i j : Nat}, idx C.N x = some i → idx C.N y = some j → (x == y) = false → i ≠ j := fun {x y i j} hi hj l e => by
          subst e
          have e1 := idx_ok hi
          rw [idx_ok hj] at e1
          cases e1
          simp at l
        exact s_par3 h.calm hN (h.idx hi) (h.idx hj) (h.idx hl) (ne hi hj l6) (ne hi hl l7) (ne hj hl l8) (loc l1) (loc l2) (loc l3) p1.2 p2'.2 p3.2 p1.1 p2'.1 p3.1
          (swaps_three hf (loc l1) (loc l2) (loc l3) l4 l5 l6 l7 l8 (notStar h1) (notStar h2) (notStar h3) (by simp only [Bool.or_eq_true, not_or, Bool.not_eq_true] at hfold; exact hfold.1) l9)
  · rename_i ts k1 p1 vs k2 p2 _ _
    obtain ⟨q1, q2⟩ := guard_some q
    obtain ⟨t, ce, h1, h2, rfl⟩ := two_some q2
    refine gen h1 h2 rfl ?_
    rcases Bool.or_eq_true_iff.mp q1 with z | z
    · unfold swappedStores
      simp only [z, Bool.true_or, if_true]
    · exact odd_two h.sc z
  · obtain ⟨q1, q2⟩ := guard_some q
    simp only [Bool.and_eq_true, Bool.not_eq_true'] at q1
    obtain ⟨x, y, z, h1, h2, h3, rfl⟩ := three_some q2
    refine s_put (A.e h _ _ h3).2 (A.e h _ _ h1).2 (A.e h _ _ h2).2 (swaps_sole q1.1 _ _ _) (stores_none (by simp [isTup]) (fun _ _ e => by cases e) _) ?_
    have ns := notSlice h2
    rename_i o i sp
    intro v
    cases i <;> first | rfl | (rename_i l u st p3; cases st <;> first | exact absurd rfl (ns _ _ _) | rfl)
  · obtain ⟨q1, q2⟩ := guard_some q
    simp only [Bool.and_eq_true, Bool.not_eq_true'] at q1
    obtain ⟨t, ce, h1, h2, rfl⟩ := two_some q2
    exact gen h1 h2 (swaps_sole q1.1.2 _ _ _) (stores_none q1.2 (fun es p e => by subst e; cases q1.1.1) _)
end
end Ip

-- P18
set_option Elab.async false
set_option linter.all false
set_option maxRecDepth 100000
namespace Ip
open PySem L2 PyProof.Rows

section
variable {G : Adr} {sem : Sem} {k : Nat} {W : WX} {C : CC} {X : Cx}
/-- a suite of constants given to names -/
theorem su_ok (h : Ctx G W sem k C X) (a : Addr) (pn : List (Addr × Obj)) : ∀ (ss : List Stmt) (as : List (Nat × D)), cSu C ss = some as → PSs (X.suite a pn) ss (liftS G W0 fun R ρ S E => R.nx (asgs ρ as) S) := by
  intro ss
  induction ss with
  | nil =>
    intro as q
    simp only [cSu, Option.some.injEq] at q
    subst q
    exact ss_nil
  | cons s r ih =>
    intro as q
    unfold cSu at q
    split at q
    · rename_i heq
      cases heq
    · rename_i y py c j p1 pos r' heq
      cases heq
      obtain ⟨q1, q2⟩ := guard_some q
      obtain ⟨i, d, as', h1, h2, h3, rfl⟩ := three_some q2
      obtain ⟨l1, l2⟩ := h.loc q1
      have hN : (X.suite a pn).N.Nodup := by show X.N.Nodup; rw [h.N]; exact h.nd
      have g := g_name (X := X.suite a pn) (G := G) (pos := py) hN (h.idx h1) l1 l2
      have rest := ih as' h3
      have e : PE (X.suite a pn) (.Constant c j p1) (lift G W0 fun ρ S R E => R d S) := by
        cases c <;> simp only [cConst, Option.some.injEq, reduceCtorEq] at h2 <;> subst h2
        · exact e_const pe_non fun _ _ => rfl
        · exact e_const pe_bl fun _ _ => rfl
        · exact e_const pe_int fun _ _ => rfl
        · exact e_const pe_str fun _ _ => rfl
      exact ss_cons (s_asg e (g_nameA g) rfl rfl rfl) rest
    · cases q
/-- the clauses and what is known of them -/
def HL (X : Cx) (G : Adr) (kn : Nat) : List (Value × (Addr → Value → Option Addr → TS)) → List (List Nat × List (Nat × D)) → Prop
  | [], [] => True
  | (c, ts) :: l, (ns, as) :: y => (ts = fun _ _ _ => liftS G W0 fun R ρ S E => R.nx (asgs ρ as) S) ∧ (∀ n, n < kn → PySem.W.exmOne X.K (.ref (G.xa n)) c = some (decide (n ∈ ns))) ∧ HL X G kn l y
  | _, _ => False
theorem hs_ok (h : Ctx G W sem k C X) : ∀ (hds : List ExceptHandler) (y : List (List Nat × List (Nat × D))), cHs C hds = some y → ∃ l, HdsOk X hds l ∧ HL X G C.kn l y := by
  intro hds
  induction hds with
  | nil =>
    intro y q
    simp only [cHs, Option.some.injEq] at q
    subst q
    exact ⟨[], .nil, trivial⟩
  | cons hd r ih =>
    intro y q
    unfold cHs at q
    split at q
    · rename_i heq
      cases heq
    · rename_i x np b0 suite pos' r' heq
      cases heq
      obtain ⟨q1, q2⟩ := guard_some q
      simp only [Bool.and_eq_true] at q1
      obtain ⟨ns, as, y', h1, h2, h3, rfl⟩ := three_some q2
      obtain ⟨l, l1, l2⟩ := ih y' h3
      obtain ⟨c, hc, hx⟩ := h.exm x ns h1
      refine ⟨(c, fun _ _ _ => liftS G W0 fun R ρ S E => R.nx (asgs ρ as) S) :: l, .cons ⟨h.gl q1.1, (okName_of q1.2).1, hc⟩ (fun a oe cls d pn _ _ => su_ok h a _ _ as h2) l1, rfl, hx, l2⟩
    · cases q
theorem Ctx.tr {W' : WX} (h : Ctx G W sem k C X) {pn : List (Addr × Obj)} {xe : Value → Shared → Prop} (tk : Takes (X.tr pn xe) W') : Ctx G W' sem k C (X.tr pn xe) where
  N := h.N
  sc := h.sc
  fn := h.fn
  nd := h.nd
  K := h.K
  calm := h.calm
  room := h.room
  guards := h.guards
  takes := tk
  bi := h.bi
  none := h.none
  const := h.const
  defs := h.defs
  fun' := h.fun'
  exn := h.exn
  exm := h.exm
  kws := h.kws
theorem wMany_of {kn : Nat} {D : Ends} {R : EndsD} {E : XD} {H : Hp} {m : List Addr} {H0 : Hp} {m0 : List Addr} {σ : L2.St} {ρ : Env} {S : Sto} {x : Exn} {c : Value} {d : Option Addr} (hlt : x.cls < kn) (ok : ExOk G H m x c d) (g : Good G H m S) (env : EnvOk G H m ρ σ) (f : FinS G m0 H0 R D) (e : Ext m0 H0 m H)
    (out : E x ρ S → W c d σ H) : ∀ (l : List (Value × (Addr → Value → Option Addr → TS))) (y : List (List Nat × List (Nat × Ip.D))), HL X G kn l y → hRun R E y x ρ S → wMany X.K W D l c d σ H
  | [], [], _, o => out o
  | (c', ts) :: l, (ns, as) :: y, ⟨e1, e2, e3⟩, o => by
    refine ⟨decide (x.cls ∈ ns), by rw [ok.1]; exact e2 _ hlt, fun hb a ha => ?_, fun hb => ?_⟩
    · have hm := of_decide_eq_true hb
      simp only [hRun, hm, if_true] at o
      subst e1
      exact ⟨m, ρ, S, R, fun _ _ _ => False, ⟨g, env, fun _ _ _ _ _ _ _ _ h => h.elim⟩, o, f.mono e⟩
    · have hm := of_decide_eq_false hb
      simp only [hRun, hm, if_false] at o
      exact wMany_of hlt ok g env f e out l y e3 o
  | [], _ :: _, h, _ => h.elim
  | _ :: _, [], h, _ => h.elim
theorem allS : ∀ (n : Nat) {W : WX} {X : Cx} (h : Ctx G W sem k C X) (hf : X.env.scope.kind = .function) (hp : PassesOwn (model X.prog X.w) X.A X.env X.xe) (hst : X.stack = X.env :: X.outer) (hfr : X.env.frame = some X.env.locals) (s : Stmt) (c : CS), cS n C s = some c → PS X s (liftS G W (WS sem c))
  | 0, W, X, h, hf, hp, hst, hfr, s, c, q => by simp [cS] at q
  | n + 1, W, X, h, hf, hp, hst, hfr, s, c, q => by
    have A := all_ok (G := G) (sem := sem) (k := k) n
    have ih := fun s c q => allS n h hf hp hst hfr s c q
    have hN : X.N.Nodup := by rw [h.N]; exact h.nd
    unfold cS at q
    split at q
    · obtain ⟨q1, q2⟩ := guard_some q
      obtain ⟨x, h1, rfl⟩ := map_some' q2
      exact s_expr (A.e h _ _ h1).2 (swaps_none (by simpa using q1) _ _ _)
    · obtain ⟨x, h1, rfl⟩ := map_some' q
      exact s_ret (A.e h _ _ h1).2
    · cases q; exact s_retN
    · cases q; exact s_pass
    · cases q; exact s_brk
    · cases q; exact s_cont
    · obtain ⟨x, y, z, h1, h2, h3, rfl⟩ := three_some q
      exact s_if (A.t h _ _ h1) (cLS_ok ih _ _ h2) (cLS_ok ih _ _ h3)
    · obtain ⟨x, y, z, h1, h2, h3, rfl⟩ := three_some q
      have pi := A.i h _ _ _ h2
      exact s_for hp h.calm pi.1 (cG_ok h n _ _ h1) (cLS_ok ih _ _ h3) (pi.2 X.env)
    · obtain ⟨x, y, h1, h2, rfl⟩ := two_some q
      exact s_while hp (A.t h _ _ h1) (cLS_ok ih _ _ h2)
    · exact asg_ok h hf q
    · obtain ⟨q1, q2⟩ := guard_some q
      obtain ⟨i, y, h1, h2, rfl⟩ := two_some q2
      obtain ⟨l1, l2⟩ := h.loc q1
      exact s_aug hN (h.idx h1) l1 l2 (A.e h _ _ h2).2
    · rename_i b h0 hds pos
      obtain ⟨x, y, h1, h2, rfl⟩ := two_some q
      obtain ⟨l, l1, l2⟩ := hs_ok h _ y h2
      refine PS.imp (ps_try_many hst hfr h.takes (tb := fun W' => liftS G W' (WSs sem x)) (fun W' pn xe tk hp' => cLS_ok (fun s c q => allS n (h.tr tk) hf hp' hst hfr s c q) _ _ h1) l1) fun D σ H hq => ?_
      obtain ⟨m, ρ, S, R, E, at', o, f⟩ := hq
      refine ⟨m, ρ, S, R, _, ⟨at'.good, at'.env, fun x ρ' S' m' H' σ' c d hx x1 g1 env1 ok => ?_⟩, o, f⟩
      exact wMany_of hx.1 ok g1 env1 f x1 (fun hE => at'.xto x ρ' S' m' H' σ' c d hE x1 g1 env1 ok) l y l2 hx.2
    · obtain ⟨q1, q2⟩ := guard_some q
      simp only [Bool.and_eq_true] at q1
      obtain ⟨m, h1, rfl⟩ := map_some' q2
      obtain ⟨e1, e2, e3, e4, e5⟩ := h.exn _ m h1
      exact s_raise h.calm h.takes e3 e1 e2 (raises_own e4 e5) (h.gl q1.1) (okName_of q1.2).1
    · cases q
end

/-! ### defs and the whole text -/
structure Inf where
  x : Str
  st : Stmt
  N : List Str
  ps : List Str
structure Txt where
  consts : List (Str × D)
  defs : List (Str × Nat)
  kws : List (Str × List Str × Nat × List Nat)
  exns : List (Str × Nat)
  bis : List Bi
  nones : List Str
  kn : Nat := 0
  catches : List (Str × List Nat) := []
  inf : List Inf
  bodies : List (List CS)
def Txt.cc (t : Txt) (i : Inf) : CC := { N := i.N, sc := defScope i.st, fn := fun _ => true, consts := t.consts, defs := t.defs, kws := t.kws, exns := t.exns, bis := t.bis, nones := t.nones, kn := t.kn, catches := t.catches }
def Txt.T (t : Txt) (f : Nat) : Option Def := match t.inf[f]?, t.bodies[f]? with
  | some i, some b => some ⟨i.N.length, i.ps.length, b⟩
  | _, _ => none
/-- what is shown of the text by itself -/
structure TxtOk (t : Txt) : Prop where
  scope : ∀ (f : Nat) (i : Inf), t.inf[f]? = some i → FnScope i.N i.ps (defScope i.st)
  body : ∀ (f : Nat) (i : Inf) (b : List CS), t.inf[f]? = some i → t.bodies[f]? = some b → cLS (cS 60 (t.cc i)) (defBody i.st) = some b
/-- what is shown of the top's end -/
structure HeadOk (K : PySem.W.Frag) (mg : Str → Option Value) (G : Adr) (t : Txt) (fd : Nat → FuncData) : Prop where
  key : G.K = K
  nf : G.nf = t.inf.length
  fn : ∀ (f : Nat) (i : Inf), t.inf[f]? = some i → Fun K i.x i.x i.st (G.fa f) (fd f)
  binds : ∀ (f : Nat) (i : Inf), t.inf[f]? = some i → L2.Binds K (fd f) i.ps []
  defs : ∀ x f, t.defs.lookup x = some f → mg x = some (.ref (G.fa f)) ∧ f < t.inf.length
  bi : ∀ b ∈ t.bis, biFact mg b
  none : ∀ x ∈ t.nones, mg x = none
  const : ∀ x d, t.consts.lookup x = some d → ∃ u v, mg x = some u ∧ RelV v u ∧ ∀ H m, Rel G H m d v
  exn : ∀ x n, t.exns.lookup x = some n → mg x = some (.ref (G.xa n)) ∧ PySem.W.keepIn K (.ref (G.xa n)) = true ∧ PySem.W.excIn K (G.xa n) [.type "ValueError", .type "Exception", .type "BaseException", .type "object"] "ValueError.__new__" = true ∧
    PySem.W.subIn K (.ref (G.xa n)) (.type "BaseException") = some true ∧ PySem.W.typeIn K (.ref (G.xa n)) = some (.type "type")
  exm : ∀ x ns, t.catches.lookup x = some ns → ∃ c, (mg x = some c ∨ (mg x = Option.none ∧ bootBuiltins x = some c ∧ x ≠ "__name__")) ∧ ∀ n, n < t.kn → PySem.W.exmOne K (.ref (G.xa n)) c = some (decide (n ∈ ns))
  kws : ∀ q ∈ t.kws, mg q.1 = some (.ref (G.fa q.2.2.1)) ∧ ∃ i, t.inf[q.2.2.1]? = some i ∧ KwOk K (fd q.2.2.1) i.ps q.2.1 q.2.2.2
/-- a def by its body, called from anywhere but within a repr -/
theorem gok_of {P : Program} {w : World} {K : PySem.W.Frag} {mg : Str → Option Value} {base : Heap} {x qual : Str} {st : Stmt} {f : Addr} {fd : FuncData} {N ps : List Str} {k : Nat} {sp : Sp} (F : Fun K x qual st f fd) (S : FnScope N ps (defScope st)) (len : ∀ vs H Q E, sp vs H Q E → vs.length = ps.length)
    (hb : ∀ (cdv : Value) (A : Around) (outer : List PySem.Env) (s : Shared) (H : Hp) (vs : List V) (Q : VK) (E : XK), (A.deeper (envOfC qual (defScope st) s.heap.objs.size f cdv)).guards = some [] → Room k (A.deeper (envOfC qual (defScope st) s.heap.objs.size f cdv)) → sp vs H Q E →
      ∃ t, PSs (cxOf (L2.CX P w) P w K mg base N qual (defScope st) f cdv A outer s H E) (defBody st) t ∧ t { nx := fun _ H' => Q .non H', rt := Q } (L2.start N vs) H) : GOk P w K mg base (k + 1) f fd ps sp := by
  obtain ⟨oc, od, kV, doc, pm, an, cdv, ct, osl, rfl, lk, hcd⟩ := F.ex
  refine ⟨len, fun A outer s H args us vs Q E gu hr e0 bt r hsp => ?_⟩
  have hl := len _ _ _ _ hsp
  obtain ⟨KX, lim⟩ : K.In s.heap ∧ s.heap.NoLimit := ⟨e0.mod.kin.keeps fun b o e => (e0.bs b o e).1, e0.mod.nolimit.keeps fun b o e => (e0.bs b o e).1⟩
  refine codeAny_call_function hr.depth (KX _ _ lk) rfl S.co S.gen rfl (PySem.W.codeRec_of KX hcd) (bt _ _ _ _ ?_)
  refine wpAny_newFunctionEnv_cells S.kind (fun ⟨n, v⟩ hy => (S.par n (List.of_mem_zip hy).1).imp id fun q => ⟨q, PySem.W.cellsFrom_some _ _ _ (.inl q)⟩) fun env he s1 x => ?_
  subst he
  refine ⟨lim.keeps x.toInCall.keep, codeAny_func ?_⟩
  obtain ⟨t, ht, hq⟩ := hb cdv A outer s H vs Q E gu (hr.deeper _) hsp
  refine wpAny_mono (ht.run [] s1 (L2.start N vs) H _ (inv_start S hr.hd e0 hl r x) hq) (fun fl s' hs => ?_) fun _ _ z => z
  cases fl with
  | ret u => obtain ⟨v, σ', H', J, rv, q⟩ := hs; exact ⟨v, H', J.os, J.bare, J.base, J.hok, rv, q⟩
  | next => obtain ⟨σ', H', J, q⟩ := hs; exact ⟨V.non, H', J.os, J.bare, J.base, J.hok, rfl, q⟩
  | brk => obtain ⟨_, _, _, q⟩ := hs; exact False.elim q
  | cont => obtain ⟨_, _, _, q⟩ := hs; exact False.elim q
theorem text_ok {P : Program} {w : World} {K : PySem.W.Frag} {mg : Str → Option Value} {base : Heap} {G : Adr} {t : Txt} {fd : Nat → FuncData} (T : TxtOk t) (Hd : HeadOk K mg G t fd) :
    ∀ (k f : Nat) (i : Inf), t.inf[f]? = some i → GOk P w K mg base k (G.fa f) (fd f) i.ps (liftSp G (SEM t.T k f))
  | 0, f, i, hi => ⟨fun vs H Q E h => by obtain ⟨_, _, _, _, _, _, _, h, _⟩ := h; exact h.elim, fun A outer s H args us vs Q E _ _ _ _ _ h => by obtain ⟨_, _, _, _, _, _, _, h, _⟩ := h; exact h.elim⟩
  | k + 1, f, i, hi => by
    have ih := text_ok (P := P) (w := w) (base := base) T Hd k
    have S := T.scope f i hi
    have open' : ∀ {ds : List D} {S' : Sto} {R : RD} {E : Exn → Sto → Prop}, SEM t.T (k + 1) f ds S' R E → ∃ b, t.bodies[f]? = some b ∧ ds.length = i.ps.length ∧
        WSs (SEM t.T k) b { nx := fun _ S' => R .non S', rt := R, bk := fun _ _ => False, ct := fun _ _ => False } (start i.N.length ds) S' fun x _ S' => E x S' := fun {ds S' R E} h => by
      simp only [SEM, Txt.T, hi] at h
      cases hb : t.bodies[f]? with
      | none => rw [hb] at h; exact h.elim
      | some b => rw [hb] at h; exact ⟨b, rfl, h⟩
    refine gok_of (Hd.fn f i hi) S (fun vs H Q E h => ?_) fun cdv A outer s H vs Q E gu hr h => ?_
    · obtain ⟨m, S', R, Ex, ds, g, rs, h, _⟩ := h
      obtain ⟨b, _, hl, _⟩ := open' h
      rw [rs.length]; exact hl
    · obtain ⟨m, S', R, Ex, ds, g, rs, h, fin, fx⟩ := h
      obtain ⟨b, hb, hl, hw⟩ := open' h
      have C : Ctx G (fun cls d _ H => E cls d H) (SEM t.T k) k (t.cc i) (cxOf (L2.CX P w) P w K mg base i.N i.x (defScope i.st) (G.fa f) cdv A outer s H E) := by
        refine ⟨rfl, rfl, rfl, S.nd, Hd.key.symm, rfl, hr, gu, takes_of rfl rfl rfl rfl, Hd.bi, Hd.none, Hd.const, fun x f hx => ?_, fun f hf => ?_, Hd.exn, Hd.exm, fun q hq => ?_⟩
        · obtain ⟨h1, h2⟩ := Hd.defs x f hx
          exact ⟨h1, by rw [Hd.nf]; exact h2⟩
        · rw [Hd.nf] at hf
          have hi' : t.inf[f]? = some t.inf[f] := List.getElem?_eq_getElem hf
          exact ⟨(Hd.fn f _ hi').kp, _, _, ih f _ hi', Hd.binds f _ hi'⟩
        · obtain ⟨h1, i', hi', kw⟩ := Hd.kws q hq
          exact ⟨h1, (Hd.fn _ i' hi').kp, _, _, ih _ i' hi', kw⟩
      have body := cLS_ok (fun s c q => allS 60 C S.kind (passes_of rfl) rfl rfl s c q) _ b (T.body f i b hi hb)
      refine ⟨_, body, m, _, S', _, _, ⟨g, ⟨?_, fun j d hj => ?_⟩, ?_⟩, hw, ⟨?_, fin, ?_, ?_⟩⟩
      · have pl : i.ps.length ≤ i.N.length := by
          have := congrArg List.length S.pre
          rw [List.length_take] at this
          omega
        have := rs.length
        unfold Ip.start L2.start
        simp only [List.length_append, List.length_map, List.length_replicate]
        omega
      · unfold Ip.start at hj
        have hl' := rs.length
        have hj2 : j < ds.length := by
          by_cases c : j < ds.length
          · exact c
          · rw [List.getElem?_append_right (by simpa using c), List.getElem?_replicate] at hj
            split at hj <;> cases hj
        rw [List.getElem?_append_left (by simpa using hj2), List.getElem?_map] at hj
        cases e : ds[j]? with
        | none => rw [e] at hj; cases hj
        | some d' =>
          rw [e] at hj
          cases hj
          obtain ⟨v, hv, rv⟩ := rs.get e
          refine ⟨v, ?_, rv⟩
          unfold L2.start
          rw [List.getElem?_append_left (by rw [List.length_map, hl']; exact hj2), List.getElem?_map, hv]
          rfl
      · intro x ρ' S'' m' H' σ' c d hx x1 g1 _ ok
        exact fx x S'' m' H' c d hx x1 g1 ok
      · intro ρ' S'' m' H' σ' hn x1 g1 _
        exact fin .non S'' m' H' .non hn x1 g1 rfl
      · intro ρ' S'' m' H' σ' hn x1 g1 _
        exact hn.elim
      · intro ρ' S'' m' H' σ' hn x1 g1 _
        exact hn.elim
end Ip

-- P19
set_option Elab.async false
set_option linter.all false
set_option maxRecDepth 100000
namespace Ip
open PySem L2 PyProof.Rows

theorem ints_rels {G : Adr} {H : Hp} {m : List Addr} : ∀ ns : List Int, Rels G H m (ns.map D.int) (ns.map V.int)
  | [] => by simp only [List.map_nil, Rels]
  | n :: r => by
    have := ints_rels (G := G) (H := H) (m := m) r
    simp only [List.map_cons, Rels]
    exact ⟨_, _, rfl, rfl, this⟩
theorem only_sqr {K : PySem.W.Frag} {H : Hp} {a : Addr} {xs : List V} (h : Only H) (q : SqL K H a xs) : SqR K H a xs := by
  rcases q with (q | ⟨o, q⟩) | q
  · rcases h a with z | ⟨o, ys, z⟩
    · rw [z] at q; cases q
    · rw [z] at q; cases q
  · exact .inl ⟨o, q⟩
  · exact .inr q
/-- the pure fact that is left of a law -/
def LawD (t : Txt) (k f n : Nat) : Prop := ∀ ns : List Int, ns.length ≤ n → (∀ z ∈ ns, Builtin.Int.intBits z ≤ 1048576) → SEM t.T k f [.ro (ns.map .int)] [] (fun d _ => d = .bl true) fun _ _ => False
theorem law_sp {G : Adr} {t : Txt} {k f n : Nat} (h : LawD t k f n) {H : Hp} {a : Addr} {ns : List Int} (hl : ns.length ≤ n) (hb : ∀ z ∈ ns, Builtin.Int.intBits z ≤ 1048576) (hO : Only H) (hS : SqL G.K H a (ns.map V.int)) :
    liftSp G (SEM t.T k f) [.ref a] H (fun v _ => v = .bl true) fun _ _ _ => False := by
  refine ⟨[], [], _, _, _, ⟨rfl, List.nodup_nil, fun n a c h => by simp at h⟩, ?_, h ns hl hb, fun d S' m' H' v hd x g r => ?_, fun x S' m' H' c d hx => hx.elim⟩
  · simp only [Rels, Rel]
    exact ⟨_, _, rfl, ⟨a, _, rfl, only_sqr hO hS, ints_rels ns⟩, rfl⟩
  · cases hd
    exact r
/-- the law's call, behind the top -/
theorem law_g {P : Program} {w : World} {K : PySem.W.Frag} {mg mb : Str → Option Value} {k : Nat} {fa a : Addr} {fd : FuncData} {x : Str} {sp : Sp} {s : Shared} {vs : List Value} {ns : List Int} (KX : K.In s.heap) (hns : s.heap.Ns mainGlobals mg) (hb : s.heap.Ns builtinsNs mb)
    (hbb : ∀ x : Str, x ≠ "__name__" → mb x = bootBuiltins x) (hlim : s.heap.NoLimit) (hg : s.gens = #[]) (ha : s.heap.get? a = some { cls := .type "list", data := .seq vs.toArray }) (hi : IntsAre vs ns) (hl : ns.length ≤ sizeLine) (hr : Room k callerA)
    (F : ∀ base : Heap, K.In base → base.Ns mainGlobals mg → GOk P w K mg base k fa fd [x] sp) (hd : ∀ (s : Shared) (u : Value), BindsTo s fd ⟨[u], []⟩ [(x, u)])
    (hsp : ∀ H : Hp, Only H → SqL K H a (ns.map V.int) → sp [.ref a] H (fun v _ => v = .bl true) fun _ _ _ => False) :
    codeAny (model P w) callerA (.call (.ref fa) ⟨[.ref a], []⟩) (fun r s' => r = .ok (.ret (.bool true)) ∧ OldK s.heap s'.heap ∧ s'.os = s.os ∧ AllBare s'.gens) s := by
  have rv := vals_ints hi
  -- the heap without what is told of by H: nothing but the script is
  have go : ∀ H : Hp, Only H → SqL K H a (ns.map V.int) → HOk P w H s.heap → (∀ b, H b ≠ none → b = a) → (H a ≠ none → K.lookup a = none) →
      codeAny (model P w) callerA (.call (.ref fa) ⟨[.ref a], []⟩) (fun r s' => r = .ok (.ret (.bool true)) ∧ OldK s.heap s'.heap ∧ s'.os = s.os ∧ AllBare s'.gens) s := by
    intro H hO hS hok only hK
    have old : ∀ {b : Addr} {o : Obj}, s.heap.get? b = some o → (b = a → H a = none) → (hidT s.heap H).get? b = some o := fun {b o} e c => hidT_get e (by
      by_cases q : H b = none
      · exact q
      · have := only b q
        subst this; exact c rfl)
    have dic : ∀ {b : Addr} {m : Str → Option Value}, s.heap.Ns b m → (hidT s.heap H).Ns b m := fun {b m} ⟨o, es, ep, e, d, r⟩ => ⟨o, es, ep, old e (fun z => by
      subst z; rw [ha] at e; cases e; cases d), d, r⟩
    have kin : K.In (hidT s.heap H) := fun b o e => old (KX b o e) fun z => by
      by_cases q : H a = none
      · exact q
      · subst z; rw [hK q] at e; cases e
    have md : Mod K mg (hidT s.heap H) := ⟨kin, dic hns, ⟨mb, dic hb, hbb⟩, let ⟨mc, h1, h2⟩ := hlim; ⟨mc, dic h1, h2⟩⟩
    have e0 : Env0 P w K mg (hidT s.heap H) callerA [] s H := ⟨rfl, md, fun b o e => of_hidT e, Nat.le_of_eq (hidT_size _ _), trivial, fun b hb => absurd hb (List.not_mem_nil), hok, .of_eq hg⟩
    refine codeAny_mono ((F _ kin (dic hns)).run callerA [] s H ⟨[.ref a], []⟩ [.ref a] [.ref a] _ _ rfl hr e0 (hd s (.ref a)) (.cons rfl .nil) (hsp H hO hS)) fun r s' h => ?_
    cases r with
    | error e => obtain ⟨_, _, _, _, _, _, _, _, _, _, _, _, z⟩ := h; exact z.elim
    | ok fl => cases fl with
      | next => exact False.elim h
      | brk => exact False.elim h
      | cont => exact False.elim h
      | ret u =>
        obtain ⟨v, H', os, bare, un, hok', r', q⟩ := h
        obtain rfl : v = V.bl true := q
        obtain rfl : u = Value.bool true := r'
        refine ⟨rfl, OldK.of_keep fun b o e => ?_, os, bare⟩
        rcases hO b with z | ⟨ob, xs, z⟩
        · exact un.keep b o e z (fun z => absurd z (List.not_mem_nil)) (List.not_mem_nil)
        · have z2 := un.frzs b ob _ z
          obtain ⟨e1, _⟩ := hok b _ z
          obtain ⟨e2, _⟩ := hok' b _ z2
          rw [e] at e1; cases e1
          exact e2
  cases hk : K.lookup a with
  | some o =>
    have e := KX a o hk
    rw [ha] at e; cases e
    exact go (fun _ => none) (fun _ => .inl rfl) (.inr ⟨_, vs.toArray, _, hk, rfl, rfl, rfl, by rw [List.size_toArray, hi.length]; exact hl, by simpa using rv⟩) (fun b u z => by cases z) (fun b z => absurd rfl z) fun z => absurd rfl z
  | none =>
    have at' : ∀ {b : Addr} {u : HO}, (if b = a then some (HO.frz { cls := .type "list", data := .seq vs.toArray } (.lst (ns.map V.int))) else none) = some u → b = a ∧ u = .frz { cls := .type "list", data := .seq vs.toArray } (.lst (ns.map V.int)) := fun {b u} z => by
      split at z
      · cases z; exact ⟨by assumption, rfl⟩
      · cases z
    refine go (fun b => if b = a then some (.frz { cls := .type "list", data := .seq vs.toArray } (.lst (ns.map V.int))) else none) (fun b => ?_) (.inl (.inr ⟨{ cls := .type "list", data := .seq vs.toArray }, if_pos rfl⟩)) (fun b u z => ?_) (fun b z => ?_) fun _ => hk
    · by_cases c : b = a
      · exact .inr ⟨_, _, if_pos c⟩
      · exact .inl (if_neg c)
    · obtain ⟨rfl, rfl⟩ := at' z
      exact ⟨ha, by rw [List.length_map]; exact hl, vs, _, rv, ha⟩
    · by_cases c : b = a
      · exact c
      · exact absurd (if_neg c) z
/-- the law's end -/
theorem walk_txt {l : PySem.W.OpenLaw} {q : Program} {loose : List Str} {XP : (Str → Option Value) → Heap → Prop} {YP : World → Heap → Prop} {d : DefRec} {K : Params → PySem.W.Frag} {x : Str} (t : Txt) (f n k : Nat) (i : Inf)
    (T : TxtOk t) (hf : t.inf[f]? = some i) (hp : i.ps = [x]) (hn : l.most = some n) (hn2 : n ≤ sizeLine) (hdf : d.params.defaults = []) (hr : Room k callerA)
    (hY : ∀ (w : World) (h : Heap), YP w h → (K w.params).In h) (L : LawD t k f n)
    (F : ∀ (w : World) (mg : Str → Option Value) (h : Heap), (K w.params).In h → h.Ns mainGlobals mg → ∃ (G : Adr) (fd : Nat → FuncData), HeadOk (K w.params) mg G t fd ∧ mg d.name = some (.ref (G.fa f)) ∧ ∀ (s : Shared) (u : Value), BindsTo s (fd f) ⟨[u], []⟩ [(x, u)]) :
    PySem.W.WalkO q loose XP YP l.row.toRowW d [] (fun f vs => PySem.call f vs) := by
  refine Att.attach_callB hn hdf fun w s₀ s₁ mg mb fa o pm cd doc a vs ns Gr Y ho hd hcd hmg hobj hints hlen hbits hg => ?_
  have KX := hY w _ Y
  obtain ⟨G, fd, Hd, e, hb⟩ := F w mg _ KX Gr.T.g
  rw [hmg] at e
  cases e
  have fo := fun base : Heap => text_ok (P := l.prog) (w := w) (base := base) T Hd k f i hf
  rw [hp] at fo
  exact law_g KX Gr.T.g Gr.T.b Gr.T.builtins Gr.T.nolimit hg hobj hints (Nat.le_trans hlen hn2) hr (fun base _ _ => fo base) hb fun H hO hS => law_sp L hlen hbits hO (by rw [Hd.key]; exact hS)
/-! ### the top's end -/
structure Fd where
  a : Addr
  fd : FuncData
inductive Defs (K : PySem.W.Frag) : List Inf → List Fd → Prop
  | nil : Defs K [] []
  | cons {x : Str} {st : Stmt} {N ps : List Str} {a : Addr} {oc : Value} {od an : Option Addr} {sl : Array (Option Value)} {kV dc pm cd ct : Value} {r : List Inf} {fs : List Fd}
    (q : PySem.W.nsIn K mainGlobals x = some (some (.ref a))) (l : K.lookup a = some ⟨oc, od, .func (PySem.W.fnOf x x (defArgs st) (defBody st) (defScope st) .none kV dc pm an cd ct), sl⟩)
    (c : PySem.W.codeIn K cd x = true) (k : PySem.W.keepIn K (.ref a) = true)
    (b : ∀ (kV doc pm : Value) (an : Option Addr) (cdv ct : Value) (us : List Value), us.length = ps.length → bindArgs (PySem.W.fnOf x x (defArgs st) (defBody st) (defScope st) .none kV doc pm an cdv ct) ⟨us, []⟩ = pure (ps.zip us)) (rest : Defs K r fs) :
    Defs K (⟨x, st, N, ps⟩ :: r) (⟨a, PySem.W.fnOf x x (defArgs st) (defBody st) (defScope st) .none kV dc pm an cd ct⟩ :: fs)
theorem Defs.get {K : PySem.W.Frag} : ∀ {is : List Inf} {fs : List Fd}, Defs K is fs → ∀ (f : Nat) (i : Inf), is[f]? = some i → ∃ e, fs[f]? = some e ∧ Fun K i.x i.x i.st e.a e.fd ∧ L2.Binds K e.fd i.ps [] ∧
    (∀ us : List Value, us.length = i.ps.length → bindArgs e.fd ⟨us, []⟩ = pure (i.ps.zip us)) ∧ PySem.W.nsIn K mainGlobals i.x = some (some (.ref e.a))
  | _, _, .nil, _, _, h => by simp at h
  | _, _, .cons q l c k b rest, 0, i, h => by
    cases h
    exact ⟨_, rfl, fun_mk l c k, .all fun us => b _ _ _ _ _ _ us, b _ _ _ _ _ _, q⟩
  | _, _, .cons q l c k b rest, f + 1, i, h => by
    obtain ⟨e, h1, h2⟩ := rest.get f i h
    exact ⟨e, h1, h2⟩
/-- values of the top that are read only -/
inductive Con (K : PySem.W.Frag) : List D → List Value → Prop
  | nil : Con K [] []
  | non {r s} (h : Con K r s) : Con K (.non :: r) (.none :: s)
  | bl {b r s} (h : Con K r s) : Con K (.bl b :: r) (.bool b :: s)
  | int {i t r s} (h : Con K r s) : Con K (.int i :: r) (.int i t :: s)
  | str {x t r s} (h : Con K r s) : Con K (.str x :: r) (.str x t :: s)
  | tup {ds a o its n r s} (l : K.lookup a = some o) (hc : o.cls = .type "tuple") (hd : o.data = .seq its n) (hz : its.size ≤ sizeLine) (q : Con K ds its.toList) (h : Con K r s) : Con K (.tup ds :: r) (.ref a :: s)
  | ro {ds a o its n r s} (l : K.lookup a = some o) (hc : o.cls = .type "list") (ho : o.dict = none) (hd : o.data = .seq its n) (hz : its.size ≤ sizeLine) (q : Con K ds its.toList) (h : Con K r s) : Con K (.ro ds :: r) (.ref a :: s)
theorem Con.rel {K : PySem.W.Frag} {ds : List D} {us : List Value} (h : Con K ds us) : ∃ vs, Vals vs us ∧ ∀ (G : Adr) (H : Hp) (m : List Addr), G.K = K → Rels G H m ds vs := by
  induction h with
  | nil => exact ⟨[], .nil, fun _ _ _ _ => by simp only [Rels]⟩
  | non h ih => obtain ⟨vs, h1, h2⟩ := ih; exact ⟨.non :: vs, .cons rfl h1, fun G H m e => by simp only [Rels, Rel]; exact ⟨_, _, rfl, rfl, h2 G H m e⟩⟩
  | bl h ih => obtain ⟨vs, h1, h2⟩ := ih; exact ⟨.bl _ :: vs, .cons rfl h1, fun G H m e => by simp only [Rels, Rel]; exact ⟨_, _, rfl, rfl, h2 G H m e⟩⟩
  | int h ih => obtain ⟨vs, h1, h2⟩ := ih; exact ⟨.int _ :: vs, .cons ⟨_, rfl⟩ h1, fun G H m e => by simp only [Rels, Rel]; exact ⟨_, _, rfl, rfl, h2 G H m e⟩⟩
  | str h ih => obtain ⟨vs, h1, h2⟩ := ih; exact ⟨.str _ :: vs, .cons ⟨_, rfl⟩ h1, fun G H m e => by simp only [Rels, Rel]; exact ⟨_, _, rfl, rfl, h2 G H m e⟩⟩
  | @tup ds a o its n r s l hc hd hz q h ihq ih =>
    obtain ⟨vs, h1, h2⟩ := ih
    obtain ⟨ws, w1, w2⟩ := ihq
    refine ⟨.ref a :: vs, .cons rfl h1, fun G H m e => ?_⟩
    simp only [Rels, Rel]
    refine ⟨_, _, rfl, ⟨a, ws, rfl, ?_, w2 G H m e⟩, h2 G H m e⟩
    subst e
    exact .inr ⟨o, its, n, l, hc, hd, hz, w1⟩
  | @ro ds a o its n r s l hc ho hd hz q h ihq ih =>
    obtain ⟨vs, h1, h2⟩ := ih
    obtain ⟨ws, w1, w2⟩ := ihq
    refine ⟨.ref a :: vs, .cons rfl h1, fun G H m e => ?_⟩
    simp only [Rels, Rel]
    refine ⟨_, _, rfl, ⟨a, ws, rfl, ?_, w2 G H m e⟩, h2 G H m e⟩
    subst e
    exact .inr ⟨o, its, n, l, hc, ho, hd, hz, w1⟩
inductive Cos (K : PySem.W.Frag) : List (Str × D) → Prop
  | nil : Cos K []
  | cons {x : Str} {d : D} {u : Value} {r : List (Str × D)} (q : PySem.W.nsIn K mainGlobals x = some (some u)) (c : Con K [d] [u]) (rest : Cos K r) : Cos K ((x, d) :: r)
theorem Cos.get {K : PySem.W.Frag} : ∀ {cs : List (Str × D)}, Cos K cs → ∀ x d, cs.lookup x = some d → ∃ u, PySem.W.nsIn K mainGlobals x = some (some u) ∧ Con K [d] [u]
  | _, .nil, x, d, h => by simp at h
  | _, .cons (x := y) q c rest, x, d, h => by
    rw [List.lookup_cons] at h
    split at h
    · rename_i e
      cases h
      exact ⟨_, by rw [eq_of_beq e]; exact q, c⟩
    · exact rest.get x d h
def bmV : List Value := [.type "ValueError", .type "Exception", .type "BaseException", .type "object"]
inductive Exs (K : PySem.W.Frag) : Nat → List (Str × Nat) → List Addr → Prop
  | nil {n} : Exs K n [] []
  | cons {n : Nat} {x : Str} {a : Addr} {r : List (Str × Nat)} {as : List Addr} (q : PySem.W.nsIn K mainGlobals x = some (some (.ref a))) (k : PySem.W.keepIn K (.ref a) = true) (e : PySem.W.excIn K a bmV "ValueError.__new__" = true)
    (b : PySem.W.subIn K (.ref a) (.type "BaseException") = some true) (t : PySem.W.typeIn K (.ref a) = some (.type "type")) (rest : Exs K (n + 1) r as) : Exs K n ((x, n) :: r) (a :: as)
theorem Exs.get {K : PySem.W.Frag} : ∀ {n : Nat} {cs : List (Str × Nat)} {as : List Addr}, Exs K n cs as → ∀ x c, cs.lookup x = some c → ∃ a, n ≤ c ∧ as[c - n]? = some a ∧ PySem.W.nsIn K mainGlobals x = some (some (.ref a)) ∧ PySem.W.keepIn K (.ref a) = true ∧
    PySem.W.excIn K a bmV "ValueError.__new__" = true ∧ PySem.W.subIn K (.ref a) (.type "BaseException") = some true ∧ PySem.W.typeIn K (.ref a) = some (.type "type")
  | _, _, _, .nil, x, d, h => by simp at h
  | n, _, _, .cons (x := y) q k e b t rest, x, d, h => by
    rw [List.lookup_cons] at h
    split at h
    · rename_i e'
      cases h
      exact ⟨_, Nat.le_refl _, by rw [Nat.sub_self]; rfl, by rw [eq_of_beq e']; exact q, k, e, b, t⟩
    · obtain ⟨a, h0, h1, h2⟩ := rest.get x d h
      refine ⟨a, by omega, ?_, h2⟩
      rw [show d - n = (d - (n + 1)) + 1 by omega]
      exact h1
def Txt.defsOk (t : Txt) : Bool := t.defs.all fun p => match t.inf[p.2]? with
  | some i => decide (i.x = p.1)
  | none => false
/-- a call by keywords alone -/
structure Kw (K : PySem.W.Frag) (is : List Inf) (q : Str × List Str × Nat × List Nat) : Prop where
  i : ∃ i, is[q.2.2.1]? = some i ∧ i.x = q.1 ∧ (∀ j ∈ q.2.2.2, j < q.2.1.length) ∧ ∀ (kV doc pm : Value) (an : Option Addr) (cdv ct : Value) (ws : List Value), ws.length = q.2.1.length →
    bindArgs (PySem.W.fnOf i.x i.x (defArgs i.st) (defBody i.st) (defScope i.st) .none kV doc pm an cdv ct) ⟨[], q.2.1.zip ws⟩ = pure (i.ps.zip (q.2.2.2.filterMap fun j => ws[j]?))
/-- a name of the top that is a built-in's, and not the top's own -/
def zFact (K : PySem.W.Frag) (x : Str) : Prop := PySem.W.nsIn K mainGlobals x = some none
def gFact (K : PySem.W.Frag) : Bi → Prop
  | .gcd => PySem.W.nsIn K mainGlobals "gcd" = some (some (.builtin "math.gcd"))
  | b => zFact K (biName b)
/-- which class a clause's takes -/
inductive Ces (K : PySem.W.Frag) (c : Value) (ns : List Nat) : Nat → List Addr → Prop
  | nil {n} : Ces K c ns n []
  | cons {n : Nat} {a : Addr} {as : List Addr} (h : PySem.W.exmOne K (.ref a) c = some (decide (n ∈ ns))) (rest : Ces K c ns (n + 1) as) : Ces K c ns n (a :: as)
theorem Ces.get {K : PySem.W.Frag} {c : Value} {ns : List Nat} : ∀ {m : Nat} {xs : List Addr}, Ces K c ns m xs → ∀ n, n < xs.length → PySem.W.exmOne K (.ref (xs.getD n 0)) c = some (decide (m + n ∈ ns))
  | _, _, .nil, n, h => by simp at h
  | _, _, .cons h rest, 0, _ => h
  | m, _, .cons (as := as) h rest, n + 1, hn => by
    have := rest.get n (by simpa using hn)
    rw [show m + (n + 1) = m + 1 + n by omega]
    exact this
inductive Cats (K : PySem.W.Frag) (xs : List Addr) : List (Str × List Nat) → Prop
  | nil : Cats K xs []
  | cons {x : Str} {c : Value} {ns : List Nat} {r : List (Str × List Nat)} (q : PySem.W.nsIn K mainGlobals x = some (some c) ∨ (zFact K x ∧ bootBuiltins x = some c ∧ x ≠ "__name__")) (e : Ces K c ns 0 xs) (rest : Cats K xs r) : Cats K xs ((x, ns) :: r)
theorem Cats.get {K : PySem.W.Frag} {xs : List Addr} : ∀ {cs : List (Str × List Nat)}, Cats K xs cs → ∀ x ns, cs.lookup x = some ns → ∃ c, (PySem.W.nsIn K mainGlobals x = some (some c) ∨ (zFact K x ∧ bootBuiltins x = some c ∧ x ≠ "__name__")) ∧ Ces K c ns 0 xs
  | _, .nil, x, ns, h => by simp at h
  | _, .cons (x := y) q e rest, x, ns, h => by
    rw [List.lookup_cons] at h
    split at h
    · rename_i e'
      cases h
      rw [← eq_of_beq e'] at q
      exact ⟨_, q, e⟩
    · exact rest.get x ns h
structure TopK (K : PySem.W.Frag) (t : Txt) (fs : List Fd) (xs : List Addr) : Prop where
  defs : Defs K t.inf fs
  names : t.defsOk = true
  cons : Cos K t.consts
  exns : Exs K 0 t.exns xs
  nones : ∀ x ∈ t.nones, zFact K x
  bis : ∀ b ∈ t.bis, gFact K b
  kws : ∀ q ∈ t.kws, Kw K t.inf q
  cats : Cats K xs t.catches
  knl : t.kn ≤ xs.length
def adrOf (K : PySem.W.Frag) (t : Txt) (z : Fd) (fs : List Fd) (xs : List Addr) : Adr := { K := K, fa := fun f => (fs.getD f z).a, xa := fun n => xs.getD n 0, nf := t.inf.length }
theorem biFact_of {K : PySem.W.Frag} {h : Heap} {mg : Str → Option Value} (X : K.In h) (G : h.Ns mainGlobals mg) : ∀ {b : Bi}, gFact K b → biFact mg b := fun {b} q => by
  cases b <;> first | exact PySem.W.mg_none_of X G q | exact PySem.W.mg_of X G q
theorem TopK.head {K : PySem.W.Frag} {h : Heap} {mg : Str → Option Value} {t : Txt} {fs : List Fd} {xs : List Addr} (T : TopK K t fs xs) (X : K.In h) (G : h.Ns mainGlobals mg) (z : Fd) :
    HeadOk K mg (adrOf K t z fs xs) t fun f => (fs.getD f z).fd := by
  have dg : ∀ {f : Nat} {e : Fd}, fs[f]? = some e → fs.getD f z = e := fun h => by rw [List.getD_eq_getElem?_getD, h]; rfl
  refine ⟨rfl, rfl, fun f i hi => ?_, fun f i hi => ?_, fun x f hx => ?_, fun b hb => biFact_of X G (T.bis b hb), fun x hx => PySem.W.mg_none_of X G (T.nones x hx), fun x d hx => ?_, fun x n hx => ?_, fun x ns hx => ?_, fun q hq => ?_⟩
  · obtain ⟨e, h1, h2, h3, h4, h5⟩ := T.defs.get f i hi
    show Fun K i.x i.x i.st (fs.getD f z).a _
    rw [dg h1]; exact h2
  · obtain ⟨e, h1, h2, h3, h4, h5⟩ := T.defs.get f i hi
    show L2.Binds K (fs.getD f z).fd _ _
    rw [dg h1]; exact h3
  · have hm : (x, f) ∈ t.defs := by
      obtain ⟨l1, l2, he, _⟩ := List.lookup_eq_some_iff.mp hx
      rw [he]; simp
    have := List.all_eq_true.mp T.names _ hm
    cases hi : t.inf[f]? with
    | none => rw [show ((x, f) : Str × Nat).2 = f from rfl, hi] at this; cases this
    | some i =>
      rw [show ((x, f) : Str × Nat).2 = f from rfl, hi] at this
      have ex : i.x = x := of_decide_eq_true this
      obtain ⟨e, h1, h2, h3, h4, h5⟩ := T.defs.get f i hi
      refine ⟨?_, ?_⟩
      · show mg x = some (.ref (fs.getD f z).a)
        rw [dg h1, ← ex]
        exact PySem.W.mg_of X G h5
      · have := List.getElem?_eq_some_iff.mp hi
        exact this.1
  · obtain ⟨u, h1, h2⟩ := T.cons.get x d hx
    obtain ⟨vs, r, h3⟩ := h2.rel
    cases r with
    | cons r1 r2 =>
      cases r2
      refine ⟨u, _, PySem.W.mg_of X G h1, r1, fun H m => ?_⟩
      have := h3 (adrOf K t z fs xs) H m rfl
      simp only [Rels] at this
      obtain ⟨v, r, e, e1, e2⟩ := this
      cases e
      exact e1
  · obtain ⟨a, h0, h1, h2, h3, h4, h5, h6⟩ := T.exns.get x n hx
    rw [Nat.sub_zero] at h1
    have ea : (adrOf K t z fs xs).xa n = a := by
      show xs.getD n 0 = a
      rw [List.getD_eq_getElem?_getD, h1]; rfl
    rw [ea]
    exact ⟨PySem.W.mg_of X G h2, h3, h4, h5, h6⟩
  · obtain ⟨c, h1, h2⟩ := T.cats.get x ns hx
    refine ⟨c, h1.imp (PySem.W.mg_of X G) (fun ⟨z1, z2, z3⟩ => ⟨PySem.W.mg_none_of X G z1, z2, z3⟩), fun n hn => ?_⟩
    have := h2.get n (Nat.lt_of_lt_of_le hn T.knl)
    rw [Nat.zero_add] at this
    exact this
  · obtain ⟨⟨i, h1, h2, h3, h4⟩⟩ := T.kws q hq
    obtain ⟨e, g1, g2, g3, g4, g5⟩ := T.defs.get _ i h1
    refine ⟨?_, i, h1, ⟨fun s ws _ hl => ?_, h3⟩⟩
    · show mg q.1 = some (.ref (fs.getD _ z).a)
      rw [dg g1, ← h2]
      exact PySem.W.mg_of X G g5
    · show BindsTo s (fs.getD _ z).fd _ _
      rw [dg g1]
      obtain ⟨oc, od, kV, doc, pm, an, cdv, ct, osl, hf, _⟩ := g2.ex
      rw [hf]
      exact .of_eq (h4 kV doc pm an cdv ct ws hl)
theorem TopK.law {K : PySem.W.Frag} {t : Txt} {fs : List Fd} {xs : List Addr} (T : TopK K t fs xs) (z : Fd) {f : Nat} {i : Inf} {x : Str} (hi : t.inf[f]? = some i) (hp : i.ps = [x]) (s : Shared) (u : Value) : BindsTo s (fs.getD f z).fd ⟨[u], []⟩ [(x, u)] := by
  obtain ⟨e, h1, h2, h3, h4, h5⟩ := T.defs.get f i hi
  have := h4 [u] (by rw [hp]; rfl)
  rw [hp] at this
  rw [List.getD_eq_getElem?_getD, h1]
  exact .of_eq this
/-- the law's end, from the top's facts -/
theorem walk_top {l : PySem.W.OpenLaw} {q : Program} {loose : List Str} {XP : (Str → Option Value) → Heap → Prop} {YP : World → Heap → Prop} {d : DefRec} {K : Params → PySem.W.Frag} {x : Str} (t : Txt) (f n k : Nat) (i : Inf)
    (T : TxtOk t) (hf : t.inf[f]? = some i) (hp : i.ps = [x]) (hn : l.most = some n) (hn2 : n ≤ sizeLine) (hdf : d.params.defaults = []) (hx : i.x = d.name) (hr : Room k callerA)
    (hY : ∀ (w : World) (h : Heap), YP w h → (K w.params).In h) (L : LawD t k f n) (F : ∀ w : World, ∃ fs xs, TopK (K w.params) t fs xs) :
    PySem.W.WalkO q loose XP YP l.row.toRowW d [] (fun f vs => PySem.call f vs) := by
  refine walk_txt t f n k i T hf hp hn hn2 hdf hr hY L fun w mg h X G => ?_
  obtain ⟨fs, xs, tk⟩ := F w
  obtain ⟨e, h1, h2, h3, h4, h5⟩ := tk.defs.get f i hf
  refine ⟨adrOf (K w.params) t e fs xs, _, tk.head X G e, ?_, tk.law e hf hp⟩
  show mg d.name = some (.ref (fs.getD f e).a)
  rw [List.getD_eq_getElem?_getD, h1, ← hx]
  exact PySem.W.mg_of X G h5
/-! ### what is shown of the text, def by def -/
def scopeOk (N P : List Str) (sc : Scope) : Bool := decide (sc.kind = .function) && !sc.isCoroutine && !sc.isGenerator && decide N.Nodup && decide (N.take P.length = P) && P.all (fun x => decide (sc.names.lookup x = some .local) || decide (sc.names.lookup x = some .cell)) && sc.names.all fun y => decide (y.2 ≠ .free)
theorem scopeOk_ok {N P : List Str} {sc : Scope} (h : scopeOk N P sc = true) : FnScope N P sc := by
  unfold scopeOk at h
  simp only [Bool.and_eq_true, Bool.not_eq_true', decide_eq_true_eq, List.all_eq_true, Bool.or_eq_true] at h
  obtain ⟨⟨⟨⟨⟨⟨h1, h2⟩, h3⟩, h4⟩, h5⟩, h6⟩, h7⟩ := h
  exact ⟨h1, h2, h3, h4, h5, h6, h7⟩
inductive Each (t : Txt) : Nat → List Inf → Prop
  | nil {n} : Each t n []
  | cons {n : Nat} {x : Str} {st : Stmt} {N ps : List Str} {r : List Inf} {b : List CS} (s : scopeOk N ps (defScope st) = true) (e : t.bodies[n]? = some b) (c : cLS (cS 60 (t.cc ⟨x, st, N, ps⟩)) (defBody st) = some b) (rest : Each t (n + 1) r) : Each t n (⟨x, st, N, ps⟩ :: r)
theorem Each.get {t : Txt} : ∀ {n : Nat} {is : List Inf}, Each t n is → ∀ (f : Nat) (i : Inf), is[f]? = some i → FnScope i.N i.ps (defScope i.st) ∧ ∃ b, t.bodies[n + f]? = some b ∧ cLS (cS 60 (t.cc i)) (defBody i.st) = some b
  | _, _, .nil, f, i, h => by simp at h
  | _, _, .cons s e c rest, 0, i, h => by cases h; exact ⟨scopeOk_ok s, _, e, c⟩
  | n, _, .cons s e c rest, f + 1, i, h => by
    obtain ⟨h1, b, h2, h3⟩ := rest.get f i h
    exact ⟨h1, b, by rw [show n + (f + 1) = n + 1 + f by omega]; exact h2, h3⟩
theorem Each.ok {t : Txt} (h : Each t 0 t.inf) : TxtOk t :=
  ⟨fun f i hi => (h.get f i hi).1, fun f i b hi hb => by
    obtain ⟨_, b', h1, h2⟩ := h.get f i hi
    rw [Nat.zero_add, hb] at h1
    cases h1
    exact h2⟩
end Ip

-- R1
set_option Elab.async false
set_option linter.all false
set_option maxRecDepth 100000
namespace Ip
open PySem L2 PyProof.Rows
/-! ### the symbolic run: rows for simp -/
theorem ofString_inj (a b : String) : (Str.ofString a = Str.ofString b) = (a = b) := by
  apply propext
  refine ⟨fun h => ?_, fun h => by rw [h]⟩
  rw [Str.ofString_eq_toList, Str.ofString_eq_toList] at h
  have h := congrArg (fun z : Str => z.cps.toList) h
  simp only [List.toList_toArray] at h
  have inj : Function.Injective Char.toNat := fun x y e => Char.ext (UInt32.toNat_inj.mp e)
  exact String.toList_inj.mp ((List.map_inj_right (f := Char.toNat) (fun {x y} e => inj e)).mp h)
theorem run_exbl (b : Bool) (P : Bool → Prop) : (∃ k, D.bl b = D.bl k ∧ P k) = P b := propext ⟨fun ⟨k, e, h⟩ => by cases e; exact h, fun h => ⟨b, rfl, h⟩⟩
theorem run_exint (b : Int) (P : Int → Prop) : (∃ k, D.int b = D.int k ∧ P k) = P b := propext ⟨fun ⟨k, e, h⟩ => by cases e; exact h, fun h => ⟨b, rfl, h⟩⟩
theorem run_trbl (b : Bool) (S : Sto) (P : Bool → Prop) : (∃ k, TruD (.bl b) S k ∧ P k) = P b := propext ⟨fun ⟨k, e, h⟩ => by cases e; exact h, fun h => ⟨b, rfl, h⟩⟩
section
variable (d e f g : D) (ds : List D) (S : Sto) (R : RD) (i j : Int) (x y : Str)
theorem run_ix0 : oIx (.tup (d :: ds)) (.int 0) S R = R d S := propext ⟨fun ⟨j, z, h1, h2, h3⟩ => by
  have : ixN (d :: ds).length 0 = some 0 := by unfold ixN; rw [if_pos (Int.le_refl 0), if_pos (by simp)]; rfl
  rw [this] at h1; cases h1; cases h2; exact h3, fun h => ⟨0, d, by unfold ixN; rw [if_pos (Int.le_refl 0), if_pos (by simp)]; rfl, rfl, h⟩⟩
theorem run_ix1 : oIx (.tup (d :: e :: ds)) (.int 1) S R = R e S := propext ⟨fun ⟨j, z, h1, h2, h3⟩ => by
  have : ixN (d :: e :: ds).length 1 = some 1 := by unfold ixN; rw [if_pos (by decide), if_pos (by simp; omega)]; rfl
  rw [this] at h1; cases h1; cases h2; exact h3, fun h => ⟨1, e, by unfold ixN; rw [if_pos (by decide), if_pos (by simp; omega)]; rfl, rfl, h⟩⟩
theorem run_ix2 : oIx (.tup (d :: e :: f :: ds)) (.int 2) S R = R f S := propext ⟨fun ⟨j, z, h1, h2, h3⟩ => by
  have : ixN (d :: e :: f :: ds).length 2 = some 2 := by unfold ixN; rw [if_pos (by decide), if_pos (by simp; omega)]; rfl
  rw [this] at h1; cases h1; cases h2; exact h3, fun h => ⟨2, f, by unfold ixN; rw [if_pos (by decide), if_pos (by simp; omega)]; rfl, rfl, h⟩⟩
theorem run_ix3 : oIx (.tup (d :: e :: f :: g :: ds)) (.int 3) S R = R g S := propext ⟨fun ⟨j, z, h1, h2, h3⟩ => by
  have : ixN (d :: e :: f :: g :: ds).length 3 = some 3 := by unfold ixN; rw [if_pos (by decide), if_pos (by simp; omega)]; rfl
  rw [this] at h1; cases h1; cases h2; exact h3, fun h => ⟨3, g, by unfold ixN; rw [if_pos (by decide), if_pos (by simp; omega)]; rfl, rfl, h⟩⟩
theorem run_add : oBin .Add (.int i) (.int j) S R = R (.int (i + j)) S := rfl
theorem run_sub : oBin .Sub (.int i) (.int j) S R = R (.int (i - j)) S := rfl
theorem run_mod : oBin .Mod (.int i) (.int j) S R = (0 < j ∧ R (.int (i % j)) S) := rfl
theorem run_lt : oCmp .Lt (.int i) (.int j) S R = R (.bl (decide (i < j))) S := rfl
theorem run_le : oCmp .LtE (.int i) (.int j) S R = R (.bl (decide (i ≤ j))) S := rfl
theorem run_gt : oCmp .Gt (.int i) (.int j) S R = R (.bl (decide (j < i))) S := rfl
theorem run_ge : oCmp .GtE (.int i) (.int j) S R = R (.bl (decide (j ≤ i))) S := rfl
theorem run_cEq {p q : PyData} (h : ∀ n, toPy S n d = some p) (h' : ∀ n, toPy S n e = some q) (F : Bool → Bool) : cEq F d e S R = R (.bl (F (PyData.eqv p q))) S := propext ⟨fun ⟨a, b, h1, h2, h3⟩ => by
  rw [h] at h1; rw [h'] at h2; cases h1; cases h2; exact h3, fun z => ⟨p, q, h 60, h' 60, z⟩⟩
theorem run_eqi : oCmp .Eq (.int i) (.int j) S R = R (.bl (decide (i = j))) S := by
  show cEq id _ _ _ _ = _
  rw [run_cEq (p := .int i) (q := .int j) _ _ _ _ (fun n => by cases n <;> rfl) (fun n => by cases n <;> rfl)]
  have : id (PyData.eqv (.int i) (.int j)) = decide (i = j) := by
    show PyData.eqv (.int i) (.int j) = _
    by_cases h : i = j
    · subst h; simp [PyData.eqv]
    · simp [PyData.eqv, h]
  rw [this]
theorem run_nei : oCmp .NotEq (.int i) (.int j) S R = R (.bl (!decide (i = j))) S := by
  show cEq (!·) _ _ _ _ = _
  rw [run_cEq (p := .int i) (q := .int j) _ _ _ _ (fun n => by cases n <;> rfl) (fun n => by cases n <;> rfl)]
  have : (!PyData.eqv (.int i) (.int j)) = !decide (i = j) := by
    by_cases h : i = j
    · subst h; simp [PyData.eqv]
    · simp [PyData.eqv, h]
  rw [this]
theorem run_eqs (hx : PyData.strOk x = true) (hy : PyData.strOk y = true) : oCmp .Eq (.str x) (.str y) S R = R (.bl (decide (x = y))) S := by
  show cEq id _ _ _ _ = _
  rw [run_cEq (p := .str x) (q := .str y) _ _ _ _ (fun n => by cases n <;> simp [toPy, hx]) (fun n => by cases n <;> simp [toPy, hy])]
  have : id (PyData.eqv (.str x) (.str y)) = decide (x = y) := by
    show PyData.eqv (.str x) (.str y) = _
    by_cases h : x = y
    · subst h; simp [PyData.eqv]
    · simp [PyData.eqv, h]
  rw [this]
theorem run_nes (hx : PyData.strOk x = true) (hy : PyData.strOk y = true) : oCmp .NotEq (.str x) (.str y) S R = R (.bl (!decide (x = y))) S := by
  show cEq (!·) _ _ _ _ = _
  rw [run_cEq (p := .str x) (q := .str y) _ _ _ _ (fun n => by cases n <;> simp [toPy, hx]) (fun n => by cases n <;> simp [toPy, hy])]
  have : (!PyData.eqv (.str x) (.str y)) = !decide (x = y) := by
    by_cases h : x = y
    · subst h; simp [PyData.eqv]
    · simp [PyData.eqv, h]
  rw [this]
theorem run_inx (h : flatD d = true) (F : Bool → Bool) : cIn F d (.tup ds) S R = (ds.all flatD = true ∧ R (.bl (F (ds.any fun z => eqF z d))) S) := by
  cases d <;> first | exact propext ⟨fun z => ⟨z.2.1, z.2.2⟩, fun z => ⟨rfl, z.1, z.2⟩⟩ | cases h
theorem run_ins : oCmp .In (.str x) (.tup ds) S R = (ds.all flatD = true ∧ R (.bl (ds.any fun z => eqF z (.str x))) S) := run_inx (.str x) ds S R rfl id
theorem run_nins : oCmp .NotIn (.str x) (.tup ds) S R = (ds.all flatD = true ∧ R (.bl (!ds.any fun z => eqF z (.str x))) S) := run_inx (.str x) ds S R rfl (!·)
theorem run_isnon : oCmp .Is d .non S R = R (.bl (isNon d)) S := by cases d <;> rfl
theorem run_isnnon : oCmp .IsNot d .non S R = R (.bl (!isNon d)) S := by cases d <;> rfl
theorem run_len : oBi .len [.tup ds] S R = R (.int ds.length) S := rfl
theorem run_min : oBi .min2 [.int i, .int j] S R = R (.int (min i j)) S := rfl
theorem run_max : oBi .max2 [.int i, .int j] S R = R (.int (max i j)) S := rfl
theorem run_int : oBi .int [.int i] S R = R (.int i) S := rfl
theorem run_any1 (p : D → Bool) : (d :: ds).any p = (p d || ds.any p) := rfl
theorem run_any0 (p : D → Bool) : ([] : List D).any p = false := rfl
theorem run_all1 (p : D → Bool) : (d :: ds).all p = (p d && ds.all p) := rfl
theorem run_all0 (p : D → Bool) : ([] : List D).all p = true := rfl
theorem run_eqF : eqF (.str x) (.str y) = decide (x = y) := by
  show (x == y) = _
  by_cases h : x = y <;> simp [h]
theorem run_isT1 : isTy .tuple (.tup ds) S = some true := rfl
theorem run_isT2 : isTy .str (.str x) S = some true := rfl
theorem run_isT3 : isTy .int (.int i) S = some true := rfl
theorem run_isT4 : isTy .bool (.int i) S = some false := rfl
theorem run_isT5 : isTy .tuple (.str x) S = some false := rfl
theorem run_isT6 : isTy .tuple (.int i) S = some false := rfl
theorem run_fl1 : flatD (.str x) = true := rfl
theorem run_nn1 : isNon (.int i) = false := rfl
theorem run_nn2 : isNon .non = true := rfl
end
theorem run_sz {n : Nat} (h : n ≤ 4000) : (n ≤ sizeLine) = True := by simp only [eq_iff_iff, iff_true]; rw [sizeLine_eq]; omega
theorem run_s0 : (0 ≤ sizeLine) = True := run_sz (by decide)
theorem run_s1 : (1 ≤ sizeLine) = True := run_sz (by decide)
theorem run_s2 : (2 ≤ sizeLine) = True := run_sz (by decide)
theorem run_s3 : (3 ≤ sizeLine) = True := run_sz (by decide)
theorem run_s4 : (4 ≤ sizeLine) = True := run_sz (by decide)
theorem run_s5 : (5 ≤ sizeLine) = True := run_sz (by decide)
theorem run_s6 : (6 ≤ sizeLine) = True := run_sz (by decide)
theorem run_oput {S : Sto} {n : Nat} {i : Int} {d : D} {R : Sto → Prop} {ds : List D} {j : Nat} (h : S[n]? = some (.lst ds)) (hj : ixN ds.length i = some j) (hl : j < ds.length) (q : R (S.set n (.lst (ds.set j d)))) : oPut (.ref n) (.int i) d S R := ⟨ds, j, h, hj, hl, q⟩
end Ip
namespace Ip
open PySem L2 PyProof.Rows
theorem run_cut1 (a : D) (ds : List D) : cutD (a :: ds) (some 1) none = ds := by
  unfold cutD HT.sIx
  simp
theorem run_cut2 (a b : D) (ds : List D) : cutD (a :: b :: ds) (some 2) none = ds := by
  unfold cutD HT.sIx
  simp
theorem sk_num : PyData.strOk (Str.ofString "num") = true := by decide +kernel
theorem sk_var : PyData.strOk (Str.ofString "var") = true := by decide +kernel
theorem sk_add : PyData.strOk (Str.ofString "add") = true := by decide +kernel
theorem sk_less_by : PyData.strOk (Str.ofString "less by") = true := by decide +kernel
theorem sk_times : PyData.strOk (Str.ofString "times") = true := by decide +kernel
theorem sk_least : PyData.strOk (Str.ofString "least") = true := by decide +kernel
theorem sk_most : PyData.strOk (Str.ofString "most") = true := by decide +kernel
theorem sk_true : PyData.strOk (Str.ofString "true") = true := by decide +kernel
theorem sk_is : PyData.strOk (Str.ofString "is") = true := by decide +kernel
theorem sk_below : PyData.strOk (Str.ofString "below") = true := by decide +kernel
theorem sk_not : PyData.strOk (Str.ofString "not") = true := by decide +kernel
theorem sk_and : PyData.strOk (Str.ofString "and") = true := by decide +kernel
theorem sk_or : PyData.strOk (Str.ofString "or") = true := by decide +kernel
theorem sk_skip : PyData.strOk (Str.ofString "skip") = true := by decide +kernel
theorem sk_set : PyData.strOk (Str.ofString "set") = true := by decide +kernel
theorem sk_draw : PyData.strOk (Str.ofString "draw") = true := by decide +kernel
theorem sk_choose : PyData.strOk (Str.ofString "choose") = true := by decide +kernel
theorem sk_see : PyData.strOk (Str.ofString "see") = true := by decide +kernel
theorem sk_if : PyData.strOk (Str.ofString "if") = true := by decide +kernel
theorem sk_while : PyData.strOk (Str.ofString "while") = true := by decide +kernel
theorem sk_seq : PyData.strOk (Str.ofString "seq") = true := by decide +kernel
end Ip
namespace Ip
open PySem L2 PyProof.Rows
theorem run_itT (ds : List D) (S : Sto) (K : List D → (Sto → Prop) → Sto → Prop) : oIter (.tup ds) S K = K ds (fun _ => True) S := rfl
theorem run_itO (ds : List D) (S : Sto) (K : List D → (Sto → Prop) → Sto → Prop) : oIter (.ro ds) S K = K ds (fun _ => True) S := rfl
theorem run_itR (n : Nat) (S : Sto) (K : List D → (Sto → Prop) → Sto → Prop) : oIter (.ref n) S K = ∃ ds, lstOf S n = some ds ∧ K ds (fun S' => lstOf S' n = some ds) S := rfl
theorem run_slT (ds : List D) (lo hi : Option Int) (S : Sto) (R : RD) : oSl (.tup ds) lo hi S R = R (.tup (cutD ds lo hi)) S := rfl
theorem run_augA (i j : Int) (S : Sto) (R : RD) : oAug .Add (.int i) (.int j) S R = R (.int (i + j)) S := rfl
theorem run_augS (i j : Int) (S : Sto) (R : RD) : oAug .Sub (.int i) (.int j) S R = R (.int (i - j)) S := rfl
end Ip

-- R2
set_option Elab.async false
set_option linter.all false
set_option maxRecDepth 100000
namespace Ip
open PySem L2 PyProof.Rows
def leS (a b : Str) : Prop := a.cps.toList ≤ b.cps.toList
theorem leS_of {a b : Str} (h : PySem.Spec.ltCps b.cps.toList a.cps.toList = false) : leS a b := by
  rw [ltCps_eq] at h
  exact List.not_lt.mp (of_decide_eq_false h)
theorem rising_pw : ∀ (l : List Str) (p : Str), risingS p l = true → (∀ y ∈ l, leS p y) ∧ l.Pairwise leS
  | [], _, _ => ⟨fun _ h => (List.not_mem_nil h).elim, .nil⟩
  | x :: r, p, h => by
    simp only [risingS, Bool.and_eq_true, Bool.not_eq_true'] at h
    obtain ⟨h1, h2⟩ := h
    obtain ⟨i1, i2⟩ := rising_pw r x h2
    have l1 := leS_of h1
    refine ⟨fun y hy => ?_, List.pairwise_cons.mpr ⟨i1, i2⟩⟩
    rcases List.mem_cons.mp hy with rfl | hy
    · exact l1
    · exact List.le_trans l1 (i1 y hy)
theorem sorted_pw {l : List Str} (h : sortedS l = true) : l.Pairwise leS := by
  cases l with
  | nil => exact .nil
  | cons x r =>
    obtain ⟨i1, i2⟩ := rising_pw r x h
    exact List.pairwise_cons.mpr ⟨i1, i2⟩
theorem str_ext {a b : Str} (h : a.cps.toList = b.cps.toList) : a = b := by
  cases a; cases b
  simp only [Str.mk.injEq]
  exact Array.toList_inj.mp h
theorem sorted_one {ys zs : List Str} (p : ys.Perm zs) (hy : sortedS ys = true) (hz : sortedS zs = true) : ys = zs :=
  List.Perm.eq_of_pairwise (le := leS) (fun _ _ _ _ h1 h2 => str_ext (List.le_antisymm h1 h2)) (sorted_pw hy) (sorted_pw hz) p
/-! ### dicts: the keys -/
theorem putD_has {ks : List (L2.Key × D)} {k : L2.Key} {d : D} : ((putD ks k d).any fun p => decide (p.1 = k)) = true := by
  unfold putD
  split
  · rename_i h
    rw [List.any_map]
    rw [List.any_eq_true] at h ⊢
    obtain ⟨p, hp, e⟩ := h
    refine ⟨p, hp, ?_⟩
    have e' := of_decide_eq_true e
    simp [e']
  · simp
theorem putD_keeps {ks : List (L2.Key × D)} {k k' : L2.Key} {d : D} (h : (ks.any fun p => decide (p.1 = k')) = true) : ((putD ks k d).any fun p => decide (p.1 = k')) = true := by
  unfold putD
  rw [List.any_eq_true] at h
  obtain ⟨p, hp, e⟩ := h
  have e' := of_decide_eq_true e
  split
  · rw [List.any_map, List.any_eq_true]
    refine ⟨p, hp, ?_⟩
    by_cases hk : p.1 = k <;> simp [hk, ← e']
  · rw [List.any_append, Bool.or_eq_true]
    exact .inl (List.any_eq_true.mpr ⟨p, hp, e⟩)
end Ip

-- R3
set_option Elab.async false
set_option linter.all false
set_option maxRecDepth 100000
namespace Ip
open PySem L2 PyProof.Rows
theorem valD_append {ks : List (L2.Key × D)} {k k' : L2.Key} {d : D} : valD (ks ++ [(k, d)]) k' = (valD ks k').or (if k = k' then some d else none) := by
  unfold valD
  rw [List.find?_append]
  cases h : ks.find? fun p => decide (p.1 = k') with
  | some p => simp
  | none => by_cases e : k = k' <;> simp [e]
theorem any_valD {ks : List (L2.Key × D)} {k : L2.Key} (h : (ks.any fun p => decide (p.1 = k)) = false) : valD ks k = none := by
  unfold valD
  rw [List.find?_eq_none.mpr]
  · rfl
  · intro x hx
    have := List.any_eq_false.mp h x hx
    simpa using this
theorem putD_same {ks : List (L2.Key × D)} {k : L2.Key} {d : D} : valD (putD ks k d) k = some d := by
  unfold putD
  split
  · rename_i h
    induction ks with
    | nil => simp at h
    | cons p r ih =>
      by_cases e : p.1 = k
      · simp [valD, e]
      · have h' : (r.any fun p => decide (p.1 = k)) = true := by simpa [e] using h
        have := ih h'
        simp only [List.map_cons, e, if_false]
        unfold valD at this ⊢
        rw [List.find?_cons]
        simp only [e, decide_false]
        exact this
  · rename_i h
    rw [valD_append, any_valD (Bool.eq_false_iff.mpr h)]
    simp
theorem map_ne {k k' : L2.Key} {d : D} (hne : k ≠ k') : ∀ ks : List (L2.Key × D), valD (ks.map fun p => if p.1 = k then (p.1, d) else p) k' = valD ks k'
  | [] => rfl
  | p :: r => by
    have ih := map_ne (d := d) hne r
    unfold valD at ih ⊢
    rw [List.map_cons, List.find?_cons, List.find?_cons]
    by_cases e : p.1 = k
    · have e' : ¬ (k = k') := hne
      simp only [e, if_true, e', decide_false]
      exact ih
    · simp only [e, if_false]
      by_cases e2 : p.1 = k'
      · simp [e2]
      · simp only [e2, decide_false]
        exact ih
theorem putD_ne {ks : List (L2.Key × D)} {k k' : L2.Key} {d : D} (hne : k ≠ k') : valD (putD ks k d) k' = valD ks k' := by
  unfold putD
  split
  · exact map_ne hne ks
  · rw [valD_append]
    simp [hne]
theorem eqvAll_ints : ∀ a b : List Int, PyData.eqvAll (a.map .int) (b.map .int) = decide (a = b)
  | [], [] => rfl
  | [], _ :: _ => rfl
  | _ :: _, [] => rfl
  | x :: a, y :: b => by
    simp only [List.map_cons, PyData.eqvAll, eqvAll_ints a b]
    have : PyData.eqv (.int x) (.int y) = decide (x = y) := by
      by_cases h : x = y
      · subst h; simp [PyData.eqv]
      · simp [PyData.eqv, h]
    rw [this]
    by_cases h : x = y <;> by_cases h2 : a = b <;> simp [h, h2]
theorem eqv_ints (a b : List Int) : PyData.eqv (.tuple (a.map .int)) (.tuple (b.map .int)) = decide (a = b) := by
  simp only [PyData.eqv]
  exact eqvAll_ints a b
theorem mapO_ints {S : Sto} {n : Nat} : ∀ a : List Int, mapO (toPy S n) (a.map .int) = some (a.map .int)
  | [] => rfl
  | x :: a => by
    have e : toPy S n (.int x) = some (.int x) := by cases n <;> rfl
    simp only [List.map_cons, mapO, e, mapO_ints a]
theorem toPy_ints {S : Sto} {n : Nat} (a : List Int) : toPy S (n + 1) (.tup (a.map .int)) = some (.tuple (a.map .int)) := by
  simp only [toPy, mapO_ints, Option.map_some]
/-- a list of tuples of ints -/
def rowD (a : List Int) : D := .tup (a.map .int)
def rowP (a : List Int) : PyData := .tuple (a.map .int)
theorem mapO_rows {S : Sto} {n : Nat} : ∀ l : List (List Int), mapO (toPy S (n + 1)) (l.map rowD) = some (l.map rowP)
  | [] => rfl
  | a :: l => by
    have e : toPy S (n + 1) (rowD a) = some (rowP a) := toPy_ints a
    simp only [List.map_cons, mapO, e, mapO_rows l]
theorem lay_ints : ∀ a : List Int, PyData.canLayAll0 (a.map .int) = true
  | [] => rfl
  | x :: a => by simp only [List.map_cons, PyData.canLayAll0, PyData.canLay0, lay_ints a, Bool.and_self]
theorem lay_rows : ∀ l : List (List Int), PyData.canLayAll0 (l.map rowP) = true
  | [] => rfl
  | a :: l => by
    simp only [List.map_cons, PyData.canLayAll0, rowP, PyData.canLay0, lay_ints, Bool.true_and]
    exact lay_rows l
theorem any_rows (l : List (List Int)) (a : List Int) : ((l.map rowP).any fun z => PyData.eqv z (rowP a)) = decide (a ∈ l) := by
  induction l with
  | nil => simp
  | cons b l ih =>
    rw [List.map_cons, List.any_cons, ih]
    have : PyData.eqv (rowP b) (rowP a) = decide (b = a) := eqv_ints b a
    rw [this]
    by_cases h : b = a
    · subst h; simp
    · have h' : ¬ a = b := fun e => h e.symm
      simp [h, h']
end Ip
namespace Ip
open PySem L2 PyProof.Rows
/-! ### data without references, for == -/
def Pyt (k : Nat) (d : D) : Prop := ∃ p : PyData, ∀ (S : Sto) (n : Nat), k ≤ n → toPy S n d = some p
theorem Pyt.mono {k k' : Nat} {d : D} (h : Pyt k d) (l : k ≤ k') : Pyt k' d := let ⟨p, hp⟩ := h; ⟨p, fun S n hn => hp S n (Nat.le_trans l hn)⟩
theorem Pyt.int (i : Int) : Pyt 0 (.int i) := ⟨.int i, fun S n _ => by cases n <;> rfl⟩
theorem Pyt.str {x : Str} (h : PyData.strOk x = true) : Pyt 0 (.str x) := ⟨.str x, fun S n _ => by cases n <;> simp [toPy, h]⟩
theorem Pyt.all {k : Nat} : ∀ {ds : List D}, (∀ d ∈ ds, Pyt k d) → ∃ ps, ∀ (S : Sto) (n : Nat), k ≤ n → mapO (toPy S n) ds = some ps
  | [], _ => ⟨[], fun _ _ _ => rfl⟩
  | d :: ds, h => by
    obtain ⟨p, hp⟩ := h d List.mem_cons_self
    obtain ⟨ps, hps⟩ := Pyt.all (ds := ds) fun e he => h e (List.mem_cons_of_mem _ he)
    exact ⟨p :: ps, fun S n hn => by simp only [mapO, hp S n hn, hps S n hn]⟩
theorem Pyt.tup {k : Nat} {ds : List D} (h : ∀ d ∈ ds, Pyt k d) : Pyt (k + 1) (.tup ds) := by
  obtain ⟨ps, hps⟩ := Pyt.all h
  refine ⟨.tuple ps, fun S n hn => ?_⟩
  obtain ⟨m, rfl⟩ : ∃ m, n = m + 1 := ⟨n - 1, by omega⟩
  simp only [toPy, hps S m (by omega), Option.map_some]
theorem same_d {k : Nat} {d : D} (h : Pyt k d) (hk : k ≤ 60) {S : Sto} {R : RD} {F : Bool → Bool} (q : R (.bl (F true)) S) : cEq F d d S R := by
  obtain ⟨p, hp⟩ := h
  refine ⟨p, p, hp S 60 hk, hp S 60 hk, ?_⟩
  rw [PySem.SeqAt.eqv_refl p (toPy_shape 60 d p (hp S 60 hk)).1]
  exact q
theorem eq_d {k : Nat} {d : D} (h : Pyt k d) (hk : k ≤ 60) {S : Sto} {R : RD} (q : R (.bl true) S) : oCmp .Eq d d S R := same_d (F := id) h hk q
theorem ne_d {k : Nat} {d : D} (h : Pyt k d) (hk : k ≤ 60) {S : Sto} {R : RD} (q : R (.bl false) S) : oCmp .NotEq d d S R := same_d (F := (!·)) h hk q
/-! ### tuples of (text, number) -/
def vD (v : Str × Int) : D := .tup [.str v.1, .int v.2]
def vP (v : Str × Int) : PyData := .tuple [.str v.1, .int v.2]
theorem mapO_vars {S : Sto} {n : Nat} : ∀ {l : List (Str × Int)}, (∀ v ∈ l, PyData.strOk v.1 = true) → mapO (toPy S (n + 1)) (l.map vD) = some (l.map vP)
  | [], _ => rfl
  | v :: l, h => by
    have h1 := h v (by simp)
    have e : toPy S (n + 1) (vD v) = some (vP v) := by
      have e1 : toPy S n (.str v.1) = some (.str v.1) := by cases n <;> simp [toPy, h1]
      have e2 : toPy S n (.int v.2) = some (.int v.2) := by cases n <;> rfl
      simp only [vD, toPy, mapO, e1, e2, Option.map_some, vP]
    simp only [List.map_cons, mapO, e, mapO_vars (S := S) (n := n) (l := l) fun w hw => h w (List.mem_cons_of_mem _ hw)]
theorem vars_py {S : Sto} {n : Nat} {l : List (Str × Int)} (h : ∀ v ∈ l, PyData.strOk v.1 = true) : toPy S (n + 2) (.tup (l.map vD)) = some (.tuple (l.map vP)) := by
  simp only [toPy, mapO_vars h, Option.map_some]
theorem eqv_v (v w : Str × Int) : PyData.eqv (vP v) (vP w) = decide (v = w) := by
  obtain ⟨a, i⟩ := v
  obtain ⟨b, j⟩ := w
  have e1 : PyData.eqv (.str a) (.str b) = decide (a = b) := by
    by_cases h : a = b
    · subst h; simp [PyData.eqv]
    · simp [PyData.eqv, h]
  have e2 : PyData.eqv (.int i) (.int j) = decide (i = j) := by
    by_cases h : i = j
    · subst h; simp [PyData.eqv]
    · simp [PyData.eqv, h]
  simp only [vP, PyData.eqv, PyData.eqvAll] at e1 e2 ⊢
  rw [e1, e2]
  by_cases h : a = b <;> by_cases h2 : i = j <;> simp [h, h2]
theorem eqvAll_vars : ∀ a b : List (Str × Int), PyData.eqvAll (a.map vP) (b.map vP) = decide (a = b)
  | [], [] => rfl
  | [], _ :: _ => rfl
  | _ :: _, [] => rfl
  | x :: a, y :: b => by
    simp only [List.map_cons, PyData.eqvAll, eqvAll_vars a b, eqv_v x y]
    by_cases h : x = y <;> by_cases h2 : a = b <;> simp [h, h2]
theorem cmp_vars {a b : List (Str × Int)} (ha : ∀ v ∈ a, PyData.strOk v.1 = true) (hb : ∀ v ∈ b, PyData.strOk v.1 = true) {S : Sto} {R : RD} {F : Bool → Bool} (q : R (.bl (F (decide (a = b)))) S) : cEq F (.tup (a.map vD)) (.tup (b.map vD)) S R := by
  refine ⟨_, _, vars_py (n := 58) ha, vars_py (n := 58) hb, ?_⟩
  have : PyData.eqv (.tuple (a.map vP)) (.tuple (b.map vP)) = decide (a = b) := by
    simp only [PyData.eqv]
    exact eqvAll_vars a b
  rw [this]
  exact q
end Ip

-- K03t
set_option Elab.async false
set_option linter.all false
set_option maxRecDepth 100000
namespace K03
open PySem L2 PyProof.Rows Ip

abbrev top (i : Nat) : Stmt := PySem.Challenge.pw_alikechances_k03_names_and_sizes.main.body.getD i (.Pass ⟨0, 0, 0, 0⟩)
abbrev s0 : Stmt := top 60
abbrev s1 : Stmt := top 61
abbrev s2 : Stmt := top 62
abbrev s3 : Stmt := top 63
abbrev s4 : Stmt := top 64
abbrev s5 : Stmt := top 65
abbrev s6 : Stmt := top 66
abbrev s7 : Stmt := top 67
abbrev s8 : Stmt := top 68
abbrev s9 : Stmt := top 69
abbrev s10 : Stmt := top 43
abbrev s11 : Stmt := top 29
abbrev s12 : Stmt := top 41
abbrev s13 : Stmt := top 40
abbrev s14 : Stmt := top 32
abbrev s15 : Stmt := top 14
abbrev s16 : Stmt := top 15
abbrev s17 : Stmt := top 8
abbrev s18 : Stmt := top 30
abbrev s19 : Stmt := top 31
abbrev s20 : Stmt := top 38
abbrev s21 : Stmt := top 39
abbrev s22 : Stmt := top 16
abbrev s23 : Stmt := top 33
abbrev s24 : Stmt := top 34
abbrev s25 : Stmt := top 35
abbrev s26 : Stmt := top 36
abbrev s27 : Stmt := top 37
abbrev s28 : Stmt := top 45
abbrev s29 : Stmt := top 46
abbrev s30 : Stmt := top 48
abbrev s31 : Stmt := top 47
abbrev s32 : Stmt := top 44
abbrev s33 : Stmt := top 49
abbrev s34 : Stmt := top 17
abbrev s35 : Stmt := top 19
abbrev s36 : Stmt := top 18
abbrev s37 : Stmt := top 20
abbrev s38 : Stmt := top 42
abbrev s39 : Stmt := top 51
abbrev s40 : Stmt := top 55
abbrev s41 : Stmt := top 53
abbrev s42 : Stmt := top 54
abbrev s43 : Stmt := top 56
abbrev s44 : Stmt := top 57
abbrev s45 : Stmt := top 70
abbrev s46 : Stmt := top 59
abbrev s47 : Stmt := top 71
def inf : List Inf :=
  ⟨"_law_take", s0, ["_law_bag_here", "_law_many", "_law_mark", "_law_found"], ["_law_bag_here", "_law_many"]⟩ ::
  ⟨"_law_pick", s1, ["_law_bag_here", "_law_things"], ["_law_bag_here", "_law_things"]⟩ ::
  ⟨"_law_variables", s2, ["_law_bag_here", "_law_sizes", "_law_pool", "_law_first", "_law_k"], ["_law_bag_here"]⟩ ::
  ⟨"_law_expression", s3, ["_law_bag_here", "_law_names", "_law_deep", "_law_room", "_law_way", "_law_one", "_law_other"], ["_law_bag_here", "_law_names", "_law_deep", "_law_room"]⟩ ::
  ⟨"_law_condition", s4, ["_law_bag_here", "_law_names", "_law_deep", "_law_room", "_law_way", "_law_one", "_law_other"], ["_law_bag_here", "_law_names", "_law_deep", "_law_room"]⟩ ::
  ⟨"_law_statement", s5, ["_law_bag_here", "_law_names", "_law_room", "_law_left", "_law_deep", "_law_way", "_law_name", "_law_condition_here", "_law_inner", "_law_many", "_law_weights", "_law_turn", "_law_weight"], ["_law_bag_here", "_law_names", "_law_room", "_law_left", "_law_deep"]⟩ ::
  ⟨"_law_statements", s6, ["_law_bag_here", "_law_names", "_law_room", "_law_left", "_law_deep", "_law_found", "_law_turn"], ["_law_bag_here", "_law_names", "_law_room", "_law_left", "_law_deep"]⟩ ::
  ⟨"_law_program", s7, ["_law_bag_here", "_law_variables_here", "_law_names", "_law_left", "_law_name", "_law_size"], ["_law_bag_here"]⟩ ::
  ⟨"_law_named", s8, ["_law_tree", "_law_found", "_law_part"], ["_law_tree"]⟩ ::
  ⟨"_law_walk", s9, ["_law_statement_here", "_law_found", "_law_word", "_law_inner", "_law_value", "_law_weight"], ["_law_statement_here", "_law_found"]⟩ ::
  ⟨"stand_among", s10, ["names", "variables", "known", "name", "_"], ["names", "variables"]⟩ ::
  ⟨"is_form", s11, ["thing"], ["thing"]⟩ ::
  ⟨"count_of_all", s12, ["things", "deep", "most", "total", "thing", "more"], ["things", "deep", "most"]⟩ ::
  ⟨"count_of_seq", s13, ["form", "deep", "most", "part"], ["form", "deep", "most"]⟩ ::
  ⟨"are_two", s14, ["form", "judge", "deep"], ["form", "judge", "deep"]⟩ ::
  ⟨"is_integer", s15, ["thing"], ["thing"]⟩ ::
  ⟨"is_between", s16, ["thing", "low", "high"], ["thing", "low", "high"]⟩ ::
  ⟨"is_name", s17, ["thing", "sign"], ["thing"]⟩ ::
  ⟨"is_expression", s18, ["thing", "deep"], ["thing", "deep"]⟩ ::
  ⟨"is_condition", s19, ["thing", "deep"], ["thing", "deep"]⟩ ::
  ⟨"is_holder", s20, ["form"], ["form"]⟩ ::
  ⟨"count_of_holder", s21, ["form", "deep", "most", "held"], ["form", "deep", "most"]⟩ ::
  ⟨"is_tuple_of", s22, ["thing", "many"], ["thing", "many"]⟩ ::
  ⟨"is_pair", s23, ["thing"], ["thing"]⟩ ::
  ⟨"are_pairs", s24, ["thing", "pair"], ["thing"]⟩ ::
  ⟨"are_choices", s25, ["thing", "value"], ["thing"]⟩ ::
  ⟨"is_act", s26, ["form", "kind"], ["form"]⟩ ::
  ⟨"count_of", s27, ["thing", "deep", "most"], ["thing", "deep", "most"]⟩ ::
  ⟨"parts_of", s28, ["statement"], ["statement"]⟩ ::
  ⟨"statements_in", s29, ["statement", "own", "part", "inner"], ["statement"]⟩ ::
  ⟨"changed_names", s30, ["statement", "act"], ["statement"]⟩ ::
  ⟨"forms_in", s31, ["statement", "expression", "_"], ["statement"]⟩ ::
  ⟨"read_names", s32, ["form", "part", "name"], ["form"]⟩ ::
  ⟨"statement_names", s33, ["statement", "forms", "act", "form", "name"], ["statement"]⟩ ::
  ⟨"are_names", s34, ["thing", "name"], ["thing"]⟩ ::
  ⟨"state_count", s35, ["variables", "many", "_", "size"], ["variables"]⟩ ::
  ⟨"is_sized_name", s36, ["thing"], ["thing"]⟩ ::
  ⟨"are_variables", s37, ["thing", "variable", "name", "_"], ["thing"]⟩ ::
  ⟨"is_whole_program", s38, ["thing"], ["thing"]⟩ ::
  ⟨"need_program", s39, ["thing"], ["thing"]⟩ ::
  ⟨"size_of", s40, ["program"], ["program"]⟩ ::
  ⟨"names_in", s41, ["program"], ["program"]⟩ ::
  ⟨"names_set", s42, ["program"], ["program"]⟩ ::
  ⟨"has_loops", s43, ["program", "statement"], ["program"]⟩ ::
  ⟨"has_choices", s44, ["program", "statement"], ["program"]⟩ ::
  ⟨"_law_right", s45, ["_law_bag_here", "_law_plan", "_law_found", "_law_size", "_law_truths", "_law_names", "_law_changed", "_law_one", "_law_other"], ["_law_bag_here"]⟩ ::
  ⟨"_law_bag", s46, ["_law_script", "_law_k", "_law_cell"], ["_law_script", "_law_k"]⟩ ::
  ⟨"law", s47, ["_law_script", "_law_k"], ["_law_script"]⟩ ::
  []
def consts : List (Str × D) := (("OF_TWO_NUMBERS" : Str), (.tup [(.str "add"), (.str "less by"), (.str "times"), (.str "least"), (.str "most")])) ::
  (("MOST_NUMBER" : Str), (.int 99)) ::
  (("RESERVED" : Str), (.tup [(.str "vars"), (.str "skip"), (.str "draw"), (.str "from"), (.str "weight"), (.str "choose"), (.str "see"), (.str "if"), (.str "then"), (.str "else"), (.str "while"), (.str "do"), (.str "true"), (.str "is"), (.str "below"), (.str "not"), (.str "and"), (.str "or"), (.str "least"), (.str "most")])) ::
  (("LETTERS" : Str), (.str "abcdefghijklmnopqrstuvwxyz")) ::
  (("LONGEST_NAME" : Str), (.int 10)) ::
  (("FIGURES" : Str), (.str "0123456789")) ::
  (("DEEPEST_EXPRESSION" : Str), (.int 10)) ::
  (("MOST_PAIRS" : Str), (.int 6)) ::
  (("MOST_WEIGHT" : Str), (.int 99)) ::
  (("DEEPEST_STATEMENT" : Str), (.int 12)) ::
  (("MOST_STATEMENTS" : Str), (.int 60)) ::
  (("MOST_STATES" : Str), (.int 24)) ::
  (("MOST_VARIABLES" : Str), (.int 4)) ::
  (("LEAST_SIZE" : Str), (.int 2)) ::
  (("MOST_SIZE" : Str), (.int 6)) ::
  []
def defs : List (Str × Nat) := (("_law_take" : Str), 0) :: (("_law_pick" : Str), 1) :: (("_law_variables" : Str), 2) :: (("_law_expression" : Str), 3) :: (("_law_condition" : Str), 4) :: (("_law_statement" : Str), 5) :: (("_law_statements" : Str), 6) :: (("_law_program" : Str), 7) :: (("_law_named" : Str), 8) :: (("_law_walk" : Str), 9) :: (("stand_among" : Str), 10) :: (("is_form" : Str), 11) :: (("count_of_all" : Str), 12) :: (("count_of_seq" : Str), 13) :: (("are_two" : Str), 14) :: (("is_integer" : Str), 15) :: (("is_between" : Str), 16) :: (("is_name" : Str), 17) :: (("is_expression" : Str), 18) :: (("is_condition" : Str), 19) :: (("is_holder" : Str), 20) :: (("count_of_holder" : Str), 21) :: (("is_tuple_of" : Str), 22) :: (("is_pair" : Str), 23) :: (("are_pairs" : Str), 24) :: (("are_choices" : Str), 25) :: (("is_act" : Str), 26) :: (("count_of" : Str), 27) :: (("parts_of" : Str), 28) :: (("statements_in" : Str), 29) :: (("changed_names" : Str), 30) :: (("forms_in" : Str), 31) :: (("read_names" : Str), 32) :: (("statement_names" : Str), 33) :: (("are_names" : Str), 34) :: (("state_count" : Str), 35) :: (("is_sized_name" : Str), 36) :: (("are_variables" : Str), 37) :: (("is_whole_program" : Str), 38) :: (("need_program" : Str), 39) :: (("size_of" : Str), 40) :: (("names_in" : Str), 41) :: (("names_set" : Str), 42) :: (("has_loops" : Str), 43) :: (("has_choices" : Str), 44) :: (("_law_right" : Str), 45) :: (("_law_bag" : Str), 46) :: (("law" : Str), 47) :: []
def kws : List (Str × List Str × Nat × List Nat) := [(("has_loops" : Str), ["program"], 43, [0]), (("has_choices" : Str), ["program"], 44, [0]), (("size_of" : Str), ["program"], 40, [0]), (("names_in" : Str), ["program"], 41, [0]), (("names_set" : Str), ["program"], 42, [0])]
def exns : List (Str × Nat) := (("BadProgram" : Str), 0) :: []
def bis : List Bi := [.all, .any, .int, .len, .list, .max1, .max2, .min1, .min2, .repr, .set, .sum, .tuple]
def nones : List Str := ["bool", "int", "isinstance", "len", "list", "range", "set", "sorted", "str", "tuple"]
def catches : List (Str × List Nat) := []
-- 0 _law_take
def b0 : List CS := [
  .ife (.cmp .Gt (.idx (.var 0) (.lit (.int 0))) (.lit (.int 0))) [
    .asg (.name 3) (.bin .Mod (.bi .int (.cons (.idx (.var 0) (.lit (.int 0))) .nil)) (.var 1)), 
    .put (.var 0) (.lit (.int 0)) (.bin .FloorDiv (.idx (.var 0) (.lit (.int 0))) (.var 1)), 
    .ret (.var 3)] [], 
  .put (.var 0) (.lit (.int 2)) (.bin .Add (.idx (.var 0) (.lit (.int 2))) (.lit (.int 1))), 
  .asg (.name 2) (.bin .Add (.bin .Mult (.bin .Add (.idx (.var 0) (.lit (.int 1))) (.lit (.int 1))) (.bin .Add (.bin .Mult (.lit (.int 30011)) (.idx (.var 0) (.lit (.int 2)))) (.lit (.int 7)))) (.bin .Mult (.bin .Mult (.lit (.int 104729)) (.idx (.var 0) (.lit (.int 2)))) (.idx (.var 0) (.lit (.int 2))))), 
  .asg (.name 2) (.bin .Mod (.bi .int (.cons (.bin .Mult (.var 2) (.var 2)) .nil)) (.bin .Add (.bin .Pow (.lit (.int 10)) (.lit (.int 41))) (.lit (.int 37)))), 
  .asg (.name 2) (.bin .Mod (.bi .int (.cons (.bin .Mult (.var 2) (.bin .Add (.var 2) (.lit (.int 97)))) .nil)) (.bin .Add (.bin .Pow (.lit (.int 10)) (.lit (.int 40))) (.lit (.int 4323)))), 
  .ret (.bin .Mod (.bi .int (.cons (.bin .FloorDiv (.var 2) (.lit (.int 100003))) .nil)) (.var 1))]
-- 1 _law_pick
def b1 : List CS := [
  .ret (.idx (.var 1) (.call 0 (.cons (.var 0) (.cons (.bi .len (.cons (.var 1) .nil)) .nil))))]
-- 2 _law_variables
def b2 : List CS := [
  .asg (.name 1) (.call 1 (.cons (.var 0) (.cons (.lst (.cons (.tup (.cons (.lit (.int 2)) .nil)) (.cons (.tup (.cons (.lit (.int 3)) .nil)) (.cons (.tup (.cons (.lit (.int 6)) .nil)) (.cons (.tup (.cons (.lit (.int 2)) (.cons (.lit (.int 2)) .nil))) (.cons (.tup (.cons (.lit (.int 2)) (.cons (.lit (.int 3)) .nil))) (.cons (.tup (.cons (.lit (.int 3)) (.cons (.lit (.int 2)) .nil))) (.cons (.tup (.cons (.lit (.int 4)) (.cons (.lit (.int 6)) .nil))) (.cons (.tup (.cons (.lit (.int 2)) (.cons (.lit (.int 2)) (.cons (.lit (.int 2)) .nil)))) (.cons (.tup (.cons (.lit (.int 2)) (.cons (.lit (.int 2)) (.cons (.lit (.int 6)) .nil)))) (.cons (.tup (.cons (.lit (.int 2)) (.cons (.lit (.int 2)) (.cons (.lit (.int 2)) (.cons (.lit (.int 3)) .nil))))) (.cons (.tup (.cons (.lit (.int 4)) .nil)) (.cons (.tup (.cons (.lit (.int 5)) .nil)) (.cons (.tup (.cons (.lit (.int 3)) (.cons (.lit (.int 2)) (.cons (.lit (.int 2)) (.cons (.lit (.int 2)) .nil))))) (.cons (.tup (.cons (.lit (.int 2)) (.cons (.lit (.int 4)) (.cons (.lit (.int 3)) .nil)))) .nil))))))))))))))) .nil))), 
  .asg (.name 2) (.lst (.cons (.lit (.str ("x"))) (.cons (.lit (.str ("y"))) (.cons (.lit (.str ("z"))) (.cons (.lit (.str ("n"))) (.cons (.lit (.str ("a1"))) (.cons (.lit (.str ("score4"))) (.cons (.lit (.str ("x9"))) (.cons (.lit (.str ("abcdefghi5"))) (.cons (.lit (.str ("b6"))) (.cons (.lit (.str ("if8"))) (.cons (.lit (.str ("o0"))) .nil)))))))))))), 
  .asg (.name 3) (.call 0 (.cons (.var 0) (.cons (.lit (.int 11)) .nil))), 
  .ret (.bi .tuple (.cons (.comp [4] (.name 4) (.range1 (.bi .len (.cons (.var 1) .nil))) .none (.tup (.cons (.idx (.var 2) (.bin .Mod (.bi .int (.cons (.bin .Add (.var 3) (.bin .Mult (.lit (.int 3)) (.var 4))) .nil)) (.lit (.int 11)))) (.cons (.idx (.var 1) (.var 4)) .nil)))) .nil))]
-- 3 _law_expression
def b3 : List CS := [
  .put (.var 3) (.lit (.int 0)) (.bin .Sub (.idx (.var 3) (.lit (.int 0))) (.lit (.int 1))), 
  .asg (.name 4) (.ite (.and (.cmp .Gt (.var 2) (.lit (.int 1))) (.cmp .Gt (.idx (.var 3) (.lit (.int 0))) (.lit (.int 0)))) (.call 0 (.cons (.var 0) (.cons (.lit (.int 9)) .nil))) (.call 0 (.cons (.var 0) (.cons (.lit (.int 4)) .nil)))), 
  .ife (.cmp .Lt (.var 4) (.lit (.int 2))) [
    .ret (.tup (.cons (.lit (.str ("num"))) (.cons (.call 0 (.cons (.var 0) (.cons (.call 1 (.cons (.var 0) (.cons (.lst (.cons (.lit (.int 3)) (.cons (.lit (.int 10)) (.cons (.lit (.int 100)) .nil)))) .nil))) .nil))) .nil)))] [], 
  .ife (.cmp .Lt (.var 4) (.lit (.int 4))) [
    .ret (.tup (.cons (.lit (.str ("var"))) (.cons (.call 1 (.cons (.var 0) (.cons (.var 1) .nil))) .nil)))] [], 
  .asg (.name 5) (.call 3 (.cons (.var 0) (.cons (.var 1) (.cons (.bin .Sub (.var 2) (.lit (.int 1))) (.cons (.var 3) .nil))))), 
  .asg (.name 6) (.call 3 (.cons (.var 0) (.cons (.var 1) (.cons (.bin .Sub (.var 2) (.lit (.int 1))) (.cons (.var 3) .nil))))), 
  .ret (.tup (.cons (.idx (.lst (.cons (.lit (.str ("add"))) (.cons (.lit (.str ("less by"))) (.cons (.lit (.str ("times"))) (.cons (.lit (.str ("least"))) (.cons (.lit (.str ("most"))) .nil)))))) (.bin .Sub (.var 4) (.lit (.int 4)))) (.cons (.var 5) (.cons (.var 6) .nil))))]
-- 4 _law_condition
def b4 : List CS := [
  .put (.var 3) (.lit (.int 0)) (.bin .Sub (.idx (.var 3) (.lit (.int 0))) (.lit (.int 1))), 
  .asg (.name 4) (.ite (.and (.cmp .Gt (.var 2) (.lit (.int 2))) (.cmp .Gt (.idx (.var 3) (.lit (.int 0))) (.lit (.int 0)))) (.call 0 (.cons (.var 0) (.cons (.lit (.int 10)) .nil))) (.call 0 (.cons (.var 0) (.cons (.lit (.int 6)) .nil)))), 
  .ife (.cmp .Eq (.var 4) (.lit (.int 0))) [
    .ret (.tup (.cons (.lit (.str ("true"))) .nil))] [], 
  .ife (.cmp .Lt (.var 4) (.lit (.int 6))) [
    .asg (.name 5) (.call 3 (.cons (.var 0) (.cons (.var 1) (.cons (.bi .min2 (.cons (.lit (.int 3)) (.cons (.bin .Sub (.var 2) (.lit (.int 1))) .nil))) (.cons (.var 3) .nil))))), 
    .asg (.name 6) (.call 3 (.cons (.var 0) (.cons (.var 1) (.cons (.bi .min2 (.cons (.lit (.int 3)) (.cons (.bin .Sub (.var 2) (.lit (.int 1))) .nil))) (.cons (.var 3) .nil))))), 
    .ret (.tup (.cons (.ite (.cmp .Lt (.var 4) (.lit (.int 4))) (.lit (.str ("is"))) (.lit (.str ("below")))) (.cons (.var 5) (.cons (.var 6) .nil))))] [], 
  .ife (.cmp .Eq (.var 4) (.lit (.int 6))) [
    .ret (.tup (.cons (.lit (.str ("not"))) (.cons (.call 4 (.cons (.var 0) (.cons (.var 1) (.cons (.bin .Sub (.var 2) (.lit (.int 1))) (.cons (.var 3) .nil))))) .nil)))] [], 
  .asg (.name 5) (.call 4 (.cons (.var 0) (.cons (.var 1) (.cons (.bin .Sub (.var 2) (.lit (.int 1))) (.cons (.var 3) .nil))))), 
  .ret (.tup (.cons (.idx (.lst (.cons (.lit (.str ("and"))) (.cons (.lit (.str ("or"))) (.cons (.lit (.str ("or"))) .nil)))) (.bin .Sub (.var 4) (.lit (.int 7)))) (.cons (.var 5) (.cons (.call 4 (.cons (.var 0) (.cons (.var 1) (.cons (.bin .Sub (.var 2) (.lit (.int 1))) (.cons (.var 3) .nil))))) .nil))))]
-- 5 _law_statement
def b5 : List CS := [
  .put (.var 3) (.lit (.int 0)) (.bin .Sub (.idx (.var 3) (.lit (.int 0))) (.lit (.int 1))), 
  .asg (.name 5) (.ite (.and (.cmp .Gt (.var 4) (.lit (.int 1))) (.cmp .Gt (.idx (.var 3) (.lit (.int 0))) (.lit (.int 2)))) (.call 0 (.cons (.var 0) (.cons (.lit (.int 11)) .nil))) (.call 0 (.cons (.var 0) (.cons (.lit (.int 7)) .nil)))), 
  .asg (.name 6) (.call 1 (.cons (.var 0) (.cons (.var 1) .nil))), 
  .ife (.cmp .Eq (.var 5) (.lit (.int 0))) [
    .ret (.tup (.cons (.lit (.str ("skip"))) .nil))] [], 
  .ife (.cmp .Lt (.var 5) (.lit (.int 3))) [
    .ret (.tup (.cons (.lit (.str ("set"))) (.cons (.var 6) (.cons (.call 3 (.cons (.var 0) (.cons (.var 1) (.cons (.lit (.int 3)) (.cons (.var 2) .nil))))) .nil))))] [], 
  .ife (.cmp .Lt (.var 5) (.lit (.int 5))) [
    .asg (.name 9) (.bin .Add (.lit (.int 1)) (.call 0 (.cons (.var 0) (.cons (.call 1 (.cons (.var 0) (.cons (.lst (.cons (.lit (.int 2)) (.cons (.lit (.int 3)) (.cons (.lit (.int 6)) .nil)))) .nil))) .nil)))), 
    .asg (.name 10) (.comp [11] (.name 11) (.range1 (.var 9)) .none (.bin .Add (.lit (.int 1)) (.call 0 (.cons (.var 0) (.cons (.call 1 (.cons (.var 0) (.cons (.lst (.cons (.lit (.int 3)) (.cons (.lit (.int 9)) (.cons (.lit (.int 99)) .nil)))) .nil))) .nil))))), 
    .ret (.tup (.cons (.lit (.str ("draw"))) (.cons (.var 6) (.cons (.bi .tuple (.cons (.comp [12] (.name 12) (.of (.var 10)) .none (.tup (.cons (.call 3 (.cons (.var 0) (.cons (.var 1) (.cons (.lit (.int 2)) (.cons (.var 2) .nil))))) (.cons (.var 12) .nil)))) .nil)) .nil))))] [], 
  .ife (.cmp .Eq (.var 5) (.lit (.int 5))) [
    .asg (.name 9) (.bin .Add (.lit (.int 1)) (.call 0 (.cons (.var 0) (.cons (.lit (.int 6)) .nil)))), 
    .ret (.tup (.cons (.lit (.str ("choose"))) (.cons (.var 6) (.cons (.bi .tuple (.cons (.comp [11] (.name 11) (.range1 (.var 9)) .none (.call 3 (.cons (.var 0) (.cons (.var 1) (.cons (.lit (.int 2)) (.cons (.var 2) .nil)))))) .nil)) .nil))))] [], 
  .ife (.cmp .Eq (.var 5) (.lit (.int 6))) [
    .ret (.tup (.cons (.lit (.str ("see"))) (.cons (.call 4 (.cons (.var 0) (.cons (.var 1) (.cons (.lit (.int 4)) (.cons (.var 2) .nil))))) .nil)))] [], 
  .asg (.name 7) (.call 4 (.cons (.var 0) (.cons (.var 1) (.cons (.lit (.int 4)) (.cons (.var 2) .nil))))), 
  .asg (.name 8) (.call 6 (.cons (.var 0) (.cons (.var 1) (.cons (.var 2) (.cons (.var 3) (.cons (.bin .Sub (.var 4) (.lit (.int 1))) .nil)))))), 
  .ife (.cmp .Eq (.var 5) (.lit (.int 7))) [
    .ret (.tup (.cons (.lit (.str ("while"))) (.cons (.var 7) (.cons (.var 8) .nil))))] [], 
  .ret (.tup (.cons (.lit (.str ("if"))) (.cons (.var 7) (.cons (.var 8) (.cons (.call 6 (.cons (.var 0) (.cons (.var 1) (.cons (.var 2) (.cons (.var 3) (.cons (.bin .Sub (.var 4) (.lit (.int 1))) .nil)))))) .nil)))))]
-- 6 _law_statements
def b6 : List CS := [
  .asg (.name 5) (.lst (.cons (.call 5 (.cons (.var 0) (.cons (.var 1) (.cons (.var 2) (.cons (.var 3) (.cons (.var 4) .nil)))))) .nil)), 
  .for (.name 6) (.range1 (.call 0 (.cons (.var 0) (.cons (.lit (.int 4)) .nil)))) [
    .ife (.cmp .Gt (.idx (.var 3) (.lit (.int 0))) (.lit (.int 0))) [
      .expr (.meth .append (.var 5) (.cons (.call 5 (.cons (.var 0) (.cons (.var 1) (.cons (.var 2) (.cons (.var 3) (.cons (.var 4) .nil)))))) .nil))] []], 
  .ret (.ite (.cmp .Eq (.bi .len (.cons (.var 5) .nil)) (.lit (.int 1))) (.idx (.var 5) (.lit (.int 0))) (.tup (.cons (.lit (.str ("seq"))) (.cons (.bi .tuple (.cons (.var 5) .nil)) .nil))))]
-- 7 _law_program
def b7 : List CS := [
  .asg (.name 1) (.call 2 (.cons (.var 0) .nil)), 
  .asg (.name 2) (.comp [4, 5] (.cons (.name 4) (.cons (.name 5) .nil)) (.of (.var 1)) .none (.var 4)), 
  .asg (.name 3) (.lst (.cons (.call 1 (.cons (.var 0) (.cons (.lst (.cons (.lit (.int 1)) (.cons (.lit (.int 4)) (.cons (.lit (.int 12)) (.cons (.lit (.int 30)) .nil))))) .nil))) .nil)), 
  .ret (.tup (.cons (.var 1) (.cons (.call 6 (.cons (.var 0) (.cons (.var 2) (.cons (.lst (.cons (.lit (.int 90)) .nil)) (.cons (.var 3) (.cons (.call 1 (.cons (.var 0) (.cons (.lst (.cons (.lit (.int 3)) (.cons (.lit (.int 5)) (.cons (.lit (.int 11)) .nil)))) .nil))) .nil)))))) .nil)))]
-- 8 _law_named
def b8 : List CS := [
  .ife (.cmp .Eq (.idx (.var 0) (.lit (.int 0))) (.lit (.str ("var")))) [
    .ret (.lst (.cons (.idx (.var 0) (.lit (.int 1))) .nil))] [], 
  .asg (.name 1) (.lst .nil), 
  .for (.name 2) (.of (.sl (.var 0) (.some (.lit (.int 1))) .none)) [
    .ife (.val (.isI (.var 2) .tuple)) [
      .expr (.meth .extend (.var 1) (.cons (.call 8 (.cons (.var 2) .nil)) .nil))] []], 
  .ret (.var 1)]
-- 9 _law_walk
def b9 : List CS := [
  .asg (.name 2) (.idx (.var 0) (.lit (.int 0))), 
  .ife (.cmp .Eq (.var 2) (.lit (.str ("seq")))) [
    .for (.name 3) (.of (.idx (.var 0) (.lit (.int 1)))) [
      .expr (.call 9 (.cons (.var 3) (.cons (.var 1) .nil)))], 
    .retN] [], 
  .expr (.meth .append (.idx (.var 1) (.lit (.int 2))) (.cons (.var 2) .nil)), 
  .ife (.cmp .In (.var 2) (.tup (.cons (.lit (.str ("set"))) (.cons (.lit (.str ("draw"))) (.cons (.lit (.str ("choose"))) .nil))))) [
    .expr (.meth .append (.idx (.var 1) (.lit (.int 1))) (.cons (.idx (.var 0) (.lit (.int 1))) .nil))] [], 
  .ife (.cmp .In (.var 2) (.tup (.cons (.lit (.str ("set"))) (.cons (.lit (.str ("see"))) (.cons (.lit (.str ("if"))) (.cons (.lit (.str ("while"))) .nil)))))) [
    .expr (.meth .extend (.idx (.var 1) (.lit (.int 0))) (.cons (.call 8 (.cons (.idx (.var 0) (.ite (.cmp .Eq (.var 2) (.lit (.str ("set")))) (.lit (.int 2)) (.lit (.int 1)))) .nil)) .nil))] [], 
  .ife (.cmp .Eq (.var 2) (.lit (.str ("draw")))) [
    .for (.cons (.name 4) (.cons (.name 5) .nil)) (.of (.idx (.var 0) (.lit (.int 2)))) [
      .expr (.meth .extend (.idx (.var 1) (.lit (.int 0))) (.cons (.call 8 (.cons (.var 4) .nil)) .nil))]] [], 
  .ife (.cmp .Eq (.var 2) (.lit (.str ("choose")))) [
    .for (.name 4) (.of (.idx (.var 0) (.lit (.int 2)))) [
      .expr (.meth .extend (.idx (.var 1) (.lit (.int 0))) (.cons (.call 8 (.cons (.var 4) .nil)) .nil))]] [], 
  .ife (.cmp .In (.var 2) (.tup (.cons (.lit (.str ("if"))) (.cons (.lit (.str ("while"))) .nil)))) [
    .for (.name 3) (.of (.sl (.var 0) (.some (.lit (.int 2))) .none)) [
      .expr (.call 9 (.cons (.var 3) (.cons (.var 1) .nil)))]] []]
-- 10 stand_among
def b10 : List CS := [
  .asg (.name 2) (.dcomp [3, 4] (.cons (.name 3) (.cons (.name 4) .nil)) (.of (.var 1)) .none (.var 3) (.lit (.bl true))), 
  .ret (.bi .all (.cons (.comp [3] (.name 3) (.of (.var 0)) .none (.cmp .In (.var 3) (.var 2))) .nil))]
-- 11 is_form
def b11 : List CS := [
  .ret (.and (.isI (.var 0) .tuple) (.and (.cmp .Gt (.bi .len (.cons (.var 0) .nil)) (.lit (.int 0))) (.isI (.idx (.var 0) (.lit (.int 0))) .str)))]
-- 12 count_of_all
def b12 : List CS := [
  .asg (.name 3) (.lit (.int 0)), 
  .for (.name 4) (.of (.var 0)) [
    .asg (.name 5) (.call 27 (.cons (.var 4) (.cons (.var 1) (.cons (.bin .Sub (.var 2) (.var 3)) .nil)))), 
    .ife (.cmp .Is (.var 5) (.lit .non)) [
      .ret (.lit .non)] [], 
    .aug 3 .Add (.var 5)], 
  .ret (.var 3)]
-- 13 count_of_seq
def b13 : List CS := [
  .ife (.or (.cmp .NotEq (.bi .len (.cons (.var 0) .nil)) (.lit (.int 2))) (.or (.not (.val (.isI (.idx (.var 0) (.lit (.int 1))) .tuple))) (.cmp .Lt (.bi .len (.cons (.idx (.var 0) (.lit (.int 1))) .nil)) (.lit (.int 2))))) [
    .ret (.lit .non)] [], 
  .ife (.val (.bi .any (.cons (.comp [3] (.name 3) (.of (.idx (.var 0) (.lit (.int 1)))) .none (.and (.call 11 (.cons (.var 3) .nil)) (.cmp .Eq (.idx (.var 3) (.lit (.int 0))) (.lit (.str ("seq")))))) .nil))) [
    .ret (.lit .non)] [], 
  .ret (.call 12 (.cons (.idx (.var 0) (.lit (.int 1))) (.cons (.var 1) (.cons (.var 2) .nil))))]
-- 14 are_two
def b14 : List CS := [
  .ret (.and (.cmp .Eq (.bi .len (.cons (.var 0) .nil)) (.lit (.int 3))) (.and (.callv 1 (.cons (.idx (.var 0) (.lit (.int 1))) (.cons (.bin .Sub (.var 2) (.lit (.int 1))) .nil))) (.callv 1 (.cons (.idx (.var 0) (.lit (.int 2))) (.cons (.bin .Sub (.var 2) (.lit (.int 1))) .nil)))))]
-- 15 is_integer
def b15 : List CS := [
  .ret (.and (.isI (.var 0) .int) (.not (.isI (.var 0) .bool)))]
-- 16 is_between
def b16 : List CS := [
  .ret (.and (.call 15 (.cons (.var 0) .nil)) (.chain .LtE .LtE (.var 1) (.var 0) (.var 2)))]
-- 17 is_name
def b17 : List CS := [
  .ife (.or (.not (.val (.isI (.var 0) .str))) (.not (.chain .LtE .LtE (.lit (.int 1)) (.bi .len (.cons (.var 0) .nil)) (.glo (.int 10))))) [
    .ret (.lit (.bl false))] [], 
  .ife (.or (.cmp .In (.var 0) (.glo (.tup [(.str ("vars")), (.str ("skip")), (.str ("draw")), (.str ("from")), (.str ("weight")), (.str ("choose")), (.str ("see")), (.str ("if")), (.str ("then")), (.str ("else")), (.str ("while")), (.str ("do")), (.str ("true")), (.str ("is")), (.str ("below")), (.str ("not")), (.str ("and")), (.str ("or")), (.str ("least")), (.str ("most"))]))) (.cmp .NotIn (.idx (.var 0) (.lit (.int 0))) (.glo (.str ("abcdefghijklmnopqrstuvwxyz"))))) [
    .ret (.lit (.bl false))] [], 
  .ret (.bi .all (.cons (.comp [1] (.name 1) (.of (.var 0)) .none (.or (.cmp .In (.var 1) (.glo (.str ("abcdefghijklmnopqrstuvwxyz")))) (.cmp .In (.var 1) (.glo (.str ("0123456789")))))) .nil))]
-- 18 is_expression
def b18 : List CS := [
  .ife (.or (.cmp .Eq (.var 1) (.lit (.int 0))) (.not (.val (.call 11 (.cons (.var 0) .nil))))) [
    .ret (.lit (.bl false))] [], 
  .ife (.cmp .Eq (.idx (.var 0) (.lit (.int 0))) (.lit (.str ("num")))) [
    .ret (.and (.cmp .Eq (.bi .len (.cons (.var 0) .nil)) (.lit (.int 2))) (.call 16 (.cons (.idx (.var 0) (.lit (.int 1))) (.cons (.lit (.int 0)) (.cons (.glo (.int 99)) .nil)))))] [], 
  .ife (.cmp .Eq (.idx (.var 0) (.lit (.int 0))) (.lit (.str ("var")))) [
    .ret (.and (.cmp .Eq (.bi .len (.cons (.var 0) .nil)) (.lit (.int 2))) (.call 17 (.cons (.idx (.var 0) (.lit (.int 1))) .nil)))] [], 
  .ret (.and (.cmp .In (.idx (.var 0) (.lit (.int 0))) (.glo (.tup [(.str ("add")), (.str ("less by")), (.str ("times")), (.str ("least")), (.str ("most"))]))) (.call 14 (.cons (.var 0) (.cons (.fnv 18) (.cons (.var 1) .nil)))))]
-- 19 is_condition
def b19 : List CS := [
  .ife (.or (.cmp .Eq (.var 1) (.lit (.int 0))) (.not (.val (.call 11 (.cons (.var 0) .nil))))) [
    .ret (.lit (.bl false))] [], 
  .ife (.cmp .Eq (.idx (.var 0) (.lit (.int 0))) (.lit (.str ("true")))) [
    .ret (.cmp .Eq (.bi .len (.cons (.var 0) .nil)) (.lit (.int 1)))] [], 
  .ife (.cmp .Eq (.idx (.var 0) (.lit (.int 0))) (.lit (.str ("not")))) [
    .ret (.and (.cmp .Eq (.bi .len (.cons (.var 0) .nil)) (.lit (.int 2))) (.call 19 (.cons (.idx (.var 0) (.lit (.int 1))) (.cons (.bin .Sub (.var 1) (.lit (.int 1))) .nil))))] [], 
  .ife (.cmp .In (.idx (.var 0) (.lit (.int 0))) (.tup (.cons (.lit (.str ("is"))) (.cons (.lit (.str ("below"))) .nil)))) [
    .ret (.call 14 (.cons (.var 0) (.cons (.fnv 18) (.cons (.var 1) .nil))))] [], 
  .ret (.and (.cmp .In (.idx (.var 0) (.lit (.int 0))) (.tup (.cons (.lit (.str ("and"))) (.cons (.lit (.str ("or"))) .nil)))) (.call 14 (.cons (.var 0) (.cons (.fnv 19) (.cons (.var 1) .nil)))))]
-- 20 is_holder
def b20 : List CS := [
  .ret (.and (.cmp .Eq (.bi .len (.cons (.var 0) .nil)) (.ite (.cmp .Eq (.idx (.var 0) (.lit (.int 0))) (.lit (.str ("if")))) (.lit (.int 4)) (.lit (.int 3)))) (.call 19 (.cons (.idx (.var 0) (.lit (.int 1))) (.cons (.glo (.int 10)) .nil))))]
-- 21 count_of_holder
def b21 : List CS := [
  .ife (.not (.val (.call 20 (.cons (.var 0) .nil)))) [
    .ret (.lit .non)] [], 
  .asg (.name 3) (.call 12 (.cons (.sl (.var 0) (.some (.lit (.int 2))) .none) (.cons (.bin .Sub (.var 1) (.lit (.int 1))) (.cons (.bin .Sub (.var 2) (.lit (.int 1))) .nil)))), 
  .ret (.ite (.cmp .Is (.var 3) (.lit .non)) (.lit .non) (.bin .Add (.var 3) (.lit (.int 1))))]
-- 22 is_tuple_of
def b22 : List CS := [
  .ret (.and (.isI (.var 0) .tuple) (.cmp .Eq (.bi .len (.cons (.var 0) .nil)) (.var 1)))]
-- 23 is_pair
def b23 : List CS := [
  .ife (.or (.not (.val (.call 22 (.cons (.var 0) (.cons (.lit (.int 2)) .nil))))) (.not (.val (.call 16 (.cons (.idx (.var 0) (.lit (.int 1))) (.cons (.lit (.int 1)) (.cons (.glo (.int 99)) .nil))))))) [
    .ret (.lit (.bl false))] [], 
  .ret (.call 18 (.cons (.idx (.var 0) (.lit (.int 0))) (.cons (.glo (.int 10)) .nil)))]
-- 24 are_pairs
def b24 : List CS := [
  .ife (.or (.not (.val (.isI (.var 0) .tuple))) (.not (.chain .LtE .LtE (.lit (.int 1)) (.bi .len (.cons (.var 0) .nil)) (.glo (.int 6))))) [
    .ret (.lit (.bl false))] [], 
  .ret (.bi .all (.cons (.comp [1] (.name 1) (.of (.var 0)) .none (.call 23 (.cons (.var 1) .nil))) .nil))]
-- 25 are_choices
def b25 : List CS := [
  .ife (.or (.not (.val (.isI (.var 0) .tuple))) (.not (.chain .LtE .LtE (.lit (.int 1)) (.bi .len (.cons (.var 0) .nil)) (.glo (.int 6))))) [
    .ret (.lit (.bl false))] [], 
  .ret (.bi .all (.cons (.comp [1] (.name 1) (.of (.var 0)) .none (.call 18 (.cons (.var 1) (.cons (.glo (.int 10)) .nil)))) .nil))]
-- 26 is_act
def b26 : List CS := [
  .asg (.name 1) (.idx (.var 0) (.lit (.int 0))), 
  .ife (.cmp .Eq (.var 1) (.lit (.str ("skip")))) [
    .ret (.cmp .Eq (.bi .len (.cons (.var 0) .nil)) (.lit (.int 1)))] [], 
  .ife (.cmp .Eq (.var 1) (.lit (.str ("see")))) [
    .ret (.and (.cmp .Eq (.bi .len (.cons (.var 0) .nil)) (.lit (.int 2))) (.call 19 (.cons (.idx (.var 0) (.lit (.int 1))) (.cons (.glo (.int 10)) .nil))))] [], 
  .ife (.or (.cmp .NotEq (.bi .len (.cons (.var 0) .nil)) (.lit (.int 3))) (.not (.val (.call 17 (.cons (.idx (.var 0) (.lit (.int 1))) .nil))))) [
    .ret (.lit (.bl false))] [], 
  .ife (.cmp .Eq (.var 1) (.lit (.str ("set")))) [
    .ret (.call 18 (.cons (.idx (.var 0) (.lit (.int 2))) (.cons (.glo (.int 10)) .nil)))] [], 
  .ife (.cmp .Eq (.var 1) (.lit (.str ("draw")))) [
    .ret (.call 24 (.cons (.idx (.var 0) (.lit (.int 2))) .nil))] [], 
  .ret (.and (.cmp .Eq (.var 1) (.lit (.str ("choose")))) (.call 25 (.cons (.idx (.var 0) (.lit (.int 2))) .nil)))]
-- 27 count_of
def b27 : List CS := [
  .ife (.not (.val (.call 11 (.cons (.var 0) .nil)))) [
    .ret (.lit .non)] [], 
  .ife (.cmp .Eq (.idx (.var 0) (.lit (.int 0))) (.lit (.str ("seq")))) [
    .ret (.call 13 (.cons (.var 0) (.cons (.var 1) (.cons (.var 2) .nil))))] [], 
  .ife (.or (.cmp .Eq (.var 1) (.lit (.int 0))) (.cmp .Eq (.var 2) (.lit (.int 0)))) [
    .ret (.lit .non)] [], 
  .ife (.cmp .In (.idx (.var 0) (.lit (.int 0))) (.tup (.cons (.lit (.str ("if"))) (.cons (.lit (.str ("while"))) .nil)))) [
    .ret (.call 21 (.cons (.var 0) (.cons (.var 1) (.cons (.var 2) .nil))))] [], 
  .ret (.ite (.val (.call 26 (.cons (.var 0) .nil))) (.lit (.int 1)) (.lit .non))]
-- 28 parts_of
def b28 : List CS := [
  .ife (.cmp .Eq (.idx (.var 0) (.lit (.int 0))) (.lit (.str ("seq")))) [
    .ret (.idx (.var 0) (.lit (.int 1)))] [], 
  .ret (.ite (.cmp .In (.idx (.var 0) (.lit (.int 0))) (.tup (.cons (.lit (.str ("if"))) (.cons (.lit (.str ("while"))) .nil)))) (.sl (.var 0) (.some (.lit (.int 2))) .none) (.tup .nil))]
-- 29 statements_in
def b29 : List CS := [
  .asg (.name 1) (.ite (.cmp .Eq (.idx (.var 0) (.lit (.int 0))) (.lit (.str ("seq")))) (.lst .nil) (.lst (.cons (.var 0) .nil))), 
  .ret (.bin .Add (.var 1) (.comp2 [2, 3] (.name 2) (.of (.call 28 (.cons (.var 0) .nil))) .none [3] (.name 3) (.of (.call 29 (.cons (.var 2) .nil))) .none (.var 3)))]
-- 30 changed_names
def b30 : List CS := [
  .ret (.comp [1] (.name 1) (.of (.call 29 (.cons (.var 0) .nil))) (.one (.cmp .In (.idx (.var 1) (.lit (.int 0))) (.tup (.cons (.lit (.str ("set"))) (.cons (.lit (.str ("draw"))) (.cons (.lit (.str ("choose"))) .nil)))))) (.idx (.var 1) (.lit (.int 1))))]
-- 31 forms_in
def b31 : List CS := [
  .ife (.cmp .In (.idx (.var 0) (.lit (.int 0))) (.tup (.cons (.lit (.str ("see"))) (.cons (.lit (.str ("if"))) (.cons (.lit (.str ("while"))) .nil))))) [
    .ret (.lst (.cons (.idx (.var 0) (.lit (.int 1))) .nil))] [], 
  .ife (.cmp .Eq (.idx (.var 0) (.lit (.int 0))) (.lit (.str ("draw")))) [
    .ret (.comp [1, 2] (.cons (.name 1) (.cons (.name 2) .nil)) (.of (.idx (.var 0) (.lit (.int 2)))) .none (.var 1))] [], 
  .ife (.cmp .Eq (.idx (.var 0) (.lit (.int 0))) (.lit (.str ("choose")))) [
    .ret (.bi .list (.cons (.idx (.var 0) (.lit (.int 2))) .nil))] [], 
  .ret (.ite (.cmp .Eq (.idx (.var 0) (.lit (.int 0))) (.lit (.str ("set")))) (.lst (.cons (.idx (.var 0) (.lit (.int 2))) .nil)) (.lst .nil))]
-- 32 read_names
def b32 : List CS := [
  .ife (.cmp .Eq (.idx (.var 0) (.lit (.int 0))) (.lit (.str ("var")))) [
    .ret (.lst (.cons (.idx (.var 0) (.lit (.int 1))) .nil))] [], 
  .ret (.comp2 [1, 2] (.name 1) (.of (.sl (.var 0) (.some (.lit (.int 1))) .none)) (.one (.val (.isI (.var 1) .tuple))) [2] (.name 2) (.of (.call 32 (.cons (.var 1) .nil))) .none (.var 2))]
-- 33 statement_names
def b33 : List CS := [
  .asg (.name 1) (.comp2 [2, 3] (.name 2) (.of (.call 29 (.cons (.var 0) .nil))) .none [3] (.name 3) (.of (.call 31 (.cons (.var 2) .nil))) .none (.var 3)), 
  .ret (.bin .Add (.call 30 (.cons (.var 0) .nil)) (.comp2 [3, 4] (.name 3) (.of (.var 1)) .none [4] (.name 4) (.of (.call 32 (.cons (.var 3) .nil))) .none (.var 4)))]
-- 34 are_names
def b34 : List CS := [
  .ife (.or (.not (.val (.isI (.var 0) .tuple))) (.not (.val (.bi .all (.cons (.comp [1] (.name 1) (.of (.var 0)) .none (.call 17 (.cons (.var 1) .nil))) .nil))))) [
    .ret (.lit (.bl false))] [], 
  .ret (.cmp .Eq (.lenSet (.var 0)) (.bi .len (.cons (.var 0) .nil)))]
-- 35 state_count
def b35 : List CS := [
  .asg (.name 1) (.lit (.int 1)), 
  .for (.cons (.name 2) (.cons (.name 3) .nil)) (.of (.var 0)) [
    .aug 1 .Mult (.var 3)], 
  .ret (.var 1)]
-- 36 is_sized_name
def b36 : List CS := [
  .ret (.and (.call 22 (.cons (.var 0) (.cons (.lit (.int 2)) .nil))) (.and (.call 17 (.cons (.idx (.var 0) (.lit (.int 0))) .nil)) (.call 16 (.cons (.idx (.var 0) (.lit (.int 1))) (.cons (.glo (.int 2)) (.cons (.glo (.int 6)) .nil))))))]
-- 37 are_variables
def b37 : List CS := [
  .ife (.or (.not (.val (.isI (.var 0) .tuple))) (.not (.chain .LtE .LtE (.lit (.int 1)) (.bi .len (.cons (.var 0) .nil)) (.glo (.int 4))))) [
    .ret (.lit (.bl false))] [], 
  .ife (.not (.val (.bi .all (.cons (.comp [1] (.name 1) (.of (.var 0)) .none (.call 36 (.cons (.var 1) .nil))) .nil)))) [
    .ret (.lit (.bl false))] [], 
  .ret (.and (.call 34 (.cons (.bi .tuple (.cons (.comp [2, 3] (.cons (.name 2) (.cons (.name 3) .nil)) (.of (.var 0)) .none (.var 2)) .nil)) .nil)) (.cmp .LtE (.call 35 (.cons (.var 0) .nil)) (.glo (.int 24))))]
-- 38 is_whole_program
def b38 : List CS := [
  .ife (.or (.not (.val (.call 22 (.cons (.var 0) (.cons (.lit (.int 2)) .nil))))) (.not (.val (.call 37 (.cons (.idx (.var 0) (.lit (.int 0))) .nil))))) [
    .ret (.lit (.bl false))] [], 
  .ife (.cmp .Is (.call 27 (.cons (.idx (.var 0) (.lit (.int 1))) (.cons (.glo (.int 12)) (.cons (.glo (.int 60)) .nil)))) (.lit .non)) [
    .ret (.lit (.bl false))] [], 
  .ret (.call 10 (.cons (.call 33 (.cons (.idx (.var 0) (.lit (.int 1))) .nil)) (.cons (.idx (.var 0) (.lit (.int 0))) .nil)))]
-- 39 need_program
def b39 : List CS := [
  .ife (.not (.val (.call 38 (.cons (.var 0) .nil)))) [
    .raise 0] []]
-- 40 size_of
def b40 : List CS := [
  .expr (.call 39 (.cons (.var 0) .nil)), 
  .ret (.bi .len (.cons (.call 29 (.cons (.idx (.var 0) (.lit (.int 1))) .nil)) .nil))]
-- 41 names_in
def b41 : List CS := [
  .expr (.call 39 (.cons (.var 0) .nil)), 
  .ret (.sortSet (.call 33 (.cons (.idx (.var 0) (.lit (.int 1))) .nil)))]
-- 42 names_set
def b42 : List CS := [
  .expr (.call 39 (.cons (.var 0) .nil)), 
  .ret (.sortSet (.call 30 (.cons (.idx (.var 0) (.lit (.int 1))) .nil)))]
-- 43 has_loops
def b43 : List CS := [
  .expr (.call 39 (.cons (.var 0) .nil)), 
  .ret (.bi .any (.cons (.comp [1] (.name 1) (.of (.call 29 (.cons (.idx (.var 0) (.lit (.int 1))) .nil))) .none (.cmp .Eq (.idx (.var 1) (.lit (.int 0))) (.lit (.str ("while"))))) .nil))]
-- 44 has_choices
def b44 : List CS := [
  .expr (.call 39 (.cons (.var 0) .nil)), 
  .ret (.bi .any (.cons (.comp [1] (.name 1) (.of (.call 29 (.cons (.idx (.var 0) (.lit (.int 1))) .nil))) .none (.cmp .Eq (.idx (.var 1) (.lit (.int 0))) (.lit (.str ("choose"))))) .nil))]
-- 45 _law_right
def b45 : List CS := [
  .asg (.name 1) (.call 7 (.cons (.var 0) .nil)), 
  .asg (.name 2) (.lst (.cons (.lst .nil) (.cons (.lst .nil) (.cons (.lst .nil) .nil)))), 
  .expr (.call 9 (.cons (.idx (.var 1) (.lit (.int 1))) (.cons (.var 2) .nil))), 
  .par2 5 6 (.sortSet (.bin .Add (.idx (.var 2) (.lit (.int 0))) (.idx (.var 2) (.lit (.int 1))))) (.sortSet (.idx (.var 2) (.lit (.int 1)))), 
  .par2 7 8 (.call 41 (.cons (.var 1) .nil)) (.call 42 (.cons (.var 1) .nil)), 
  .ife (.or (.not (.val (.isI (.var 7) .list))) (.or (.not (.val (.isI (.var 8) .list))) (.or (.cmp .NotEq (.var 7) (.var 5)) (.cmp .NotEq (.var 8) (.var 6))))) [
    .ret (.lit (.bl false))] [], 
  .expr (.meth .append (.var 7) (.cons (.lit (.str ("x"))) .nil)), 
  .expr (.meth .append (.var 8) (.cons (.lit (.str ("x"))) .nil)), 
  .asg (.name 3) (.call 40 (.cons (.var 1) .nil)), 
  .ife (.or (.val (.isI (.var 3) .bool)) (.or (.cmp .NotEq (.var 3) (.bi .len (.cons (.idx (.var 2) (.lit (.int 2))) .nil))) (.cmp .NotEq (.callk 40 1 [0] (.cons (.var 1) .nil)) (.var 3)))) [
    .ret (.lit (.bl false))] [], 
  .asg (.name 4) (.lst (.cons (.call 43 (.cons (.var 1) .nil)) (.cons (.call 44 (.cons (.var 1) .nil)) (.cons (.callk 43 1 [0] (.cons (.var 1) .nil)) (.cons (.callk 44 1 [0] (.cons (.var 1) .nil)) .nil))))), 
  .ife (.cmp .NotEq (.bi .repr (.cons (.var 4) .nil)) (.bi .repr (.cons (.bin .Mult (.lst (.cons (.cmp .In (.lit (.str ("while"))) (.idx (.var 2) (.lit (.int 2)))) (.cons (.cmp .In (.lit (.str ("choose"))) (.idx (.var 2) (.lit (.int 2)))) .nil))) (.lit (.int 2))) .nil))) [
    .ret (.lit (.bl false))] [], 
  .ret (.and (.cmp .Eq (.callk 41 1 [0] (.cons (.var 1) .nil)) (.var 5)) (.cmp .Eq (.callk 42 1 [0] (.cons (.var 1) .nil)) (.var 6)))]
-- 46 _law_bag
def b46 : List CS := [
  .asg (.name 2) (.bin .Mod (.bi .int (.cons (.bi .sum (.cons (.sl (.var 0) .none (.some (.lit (.int 1)))) .nil)) .nil)) (.lit (.int 1000003))), 
  .ife (.cmp .Lt (.var 1) (.bi .len (.cons (.var 0) .nil))) [
    .asg (.name 2) (.idx (.var 0) (.var 1))] [], 
  .ret (.lst (.cons (.bi .max2 (.cons (.lit (.int 0)) (.cons (.bin .Sub (.var 2) (.bin .Pow (.lit (.int 10)) (.lit (.int 18)))) .nil))) (.cons (.bin .Mod (.bi .int (.cons (.var 2) .nil)) (.bin .Add (.bin .Pow (.lit (.int 10)) (.lit (.int 40))) (.lit (.int 121)))) (.cons (.bin .Mult (.lit (.int 61)) (.var 1)) .nil))))]
-- 47 law
def b47 : List CS := [
  .for (.name 1) (.range1 (.bi .max2 (.cons (.lit (.int 1)) (.cons (.bi .min2 (.cons (.lit (.int 4)) (.cons (.bi .len (.cons (.var 0) .nil)) .nil))) .nil)))) [
    .ife (.not (.val (.call 45 (.cons (.call 46 (.cons (.var 0) (.cons (.var 1) .nil))) .nil)))) [
      .ret (.lit (.bl false))] []], 
  .ret (.lit (.bl true))]
def bodies : List (List CS) := b0 :: b1 :: b2 :: b3 :: b4 :: b5 :: b6 :: b7 :: b8 :: b9 :: b10 :: b11 :: b12 :: b13 :: b14 :: b15 :: b16 :: b17 :: b18 :: b19 :: b20 :: b21 :: b22 :: b23 :: b24 :: b25 :: b26 :: b27 :: b28 :: b29 :: b30 :: b31 :: b32 :: b33 :: b34 :: b35 :: b36 :: b37 :: b38 :: b39 :: b40 :: b41 :: b42 :: b43 :: b44 :: b45 :: b46 :: b47 :: []
def txt : Txt := { kn := 0, catches := catches, consts := consts, defs := defs, kws := kws, exns := exns, bis := bis, nones := nones, inf := inf, bodies := bodies }
theorem c0 : cLS (cS 60 (txt.cc (inf[0]'(by decide)))) (defBody s0) = some b0 := by kernel_rfl
theorem c1 : cLS (cS 60 (txt.cc (inf[1]'(by decide)))) (defBody s1) = some b1 := by kernel_rfl
theorem c2 : cLS (cS 60 (txt.cc (inf[2]'(by decide)))) (defBody s2) = some b2 := by kernel_rfl
theorem c3 : cLS (cS 60 (txt.cc (inf[3]'(by decide)))) (defBody s3) = some b3 := by kernel_rfl
theorem c4 : cLS (cS 60 (txt.cc (inf[4]'(by decide)))) (defBody s4) = some b4 := by kernel_rfl
theorem c5 : cLS (cS 60 (txt.cc (inf[5]'(by decide)))) (defBody s5) = some b5 := by kernel_rfl
theorem c6 : cLS (cS 60 (txt.cc (inf[6]'(by decide)))) (defBody s6) = some b6 := by kernel_rfl
theorem c7 : cLS (cS 60 (txt.cc (inf[7]'(by decide)))) (defBody s7) = some b7 := by kernel_rfl
theorem c8 : cLS (cS 60 (txt.cc (inf[8]'(by decide)))) (defBody s8) = some b8 := by kernel_rfl
theorem c9 : cLS (cS 60 (txt.cc (inf[9]'(by decide)))) (defBody s9) = some b9 := by kernel_rfl
theorem c10 : cLS (cS 60 (txt.cc (inf[10]'(by decide)))) (defBody s10) = some b10 := by kernel_rfl
theorem c11 : cLS (cS 60 (txt.cc (inf[11]'(by decide)))) (defBody s11) = some b11 := by kernel_rfl
theorem c12 : cLS (cS 60 (txt.cc (inf[12]'(by decide)))) (defBody s12) = some b12 := by kernel_rfl
theorem c13 : cLS (cS 60 (txt.cc (inf[13]'(by decide)))) (defBody s13) = some b13 := by kernel_rfl
theorem c14 : cLS (cS 60 (txt.cc (inf[14]'(by decide)))) (defBody s14) = some b14 := by kernel_rfl
theorem c15 : cLS (cS 60 (txt.cc (inf[15]'(by decide)))) (defBody s15) = some b15 := by kernel_rfl
theorem c16 : cLS (cS 60 (txt.cc (inf[16]'(by decide)))) (defBody s16) = some b16 := by kernel_rfl
theorem c17 : cLS (cS 60 (txt.cc (inf[17]'(by decide)))) (defBody s17) = some b17 := by kernel_rfl
theorem c18 : cLS (cS 60 (txt.cc (inf[18]'(by decide)))) (defBody s18) = some b18 := by kernel_rfl
theorem c19 : cLS (cS 60 (txt.cc (inf[19]'(by decide)))) (defBody s19) = some b19 := by kernel_rfl
theorem c20 : cLS (cS 60 (txt.cc (inf[20]'(by decide)))) (defBody s20) = some b20 := by kernel_rfl
theorem c21 : cLS (cS 60 (txt.cc (inf[21]'(by decide)))) (defBody s21) = some b21 := by kernel_rfl
theorem c22 : cLS (cS 60 (txt.cc (inf[22]'(by decide)))) (defBody s22) = some b22 := by kernel_rfl
theorem c23 : cLS (cS 60 (txt.cc (inf[23]'(by decide)))) (defBody s23) = some b23 := by kernel_rfl
theorem c24 : cLS (cS 60 (txt.cc (inf[24]'(by decide)))) (defBody s24) = some b24 := by kernel_rfl
theorem c25 : cLS (cS 60 (txt.cc (inf[25]'(by decide)))) (defBody s25) = some b25 := by kernel_rfl
theorem c26 : cLS (cS 60 (txt.cc (inf[26]'(by decide)))) (defBody s26) = some b26 := by kernel_rfl
theorem c27 : cLS (cS 60 (txt.cc (inf[27]'(by decide)))) (defBody s27) = some b27 := by kernel_rfl
theorem c28 : cLS (cS 60 (txt.cc (inf[28]'(by decide)))) (defBody s28) = some b28 := by kernel_rfl
theorem c29 : cLS (cS 60 (txt.cc (inf[29]'(by decide)))) (defBody s29) = some b29 := by kernel_rfl
theorem c30 : cLS (cS 60 (txt.cc (inf[30]'(by decide)))) (defBody s30) = some b30 := by kernel_rfl
theorem c31 : cLS (cS 60 (txt.cc (inf[31]'(by decide)))) (defBody s31) = some b31 := by kernel_rfl
theorem c32 : cLS (cS 60 (txt.cc (inf[32]'(by decide)))) (defBody s32) = some b32 := by kernel_rfl
theorem c33 : cLS (cS 60 (txt.cc (inf[33]'(by decide)))) (defBody s33) = some b33 := by kernel_rfl
theorem c34 : cLS (cS 60 (txt.cc (inf[34]'(by decide)))) (defBody s34) = some b34 := by kernel_rfl
theorem c35 : cLS (cS 60 (txt.cc (inf[35]'(by decide)))) (defBody s35) = some b35 := by kernel_rfl
theorem c36 : cLS (cS 60 (txt.cc (inf[36]'(by decide)))) (defBody s36) = some b36 := by kernel_rfl
theorem c37 : cLS (cS 60 (txt.cc (inf[37]'(by decide)))) (defBody s37) = some b37 := by kernel_rfl
theorem c38 : cLS (cS 60 (txt.cc (inf[38]'(by decide)))) (defBody s38) = some b38 := by kernel_rfl
theorem c39 : cLS (cS 60 (txt.cc (inf[39]'(by decide)))) (defBody s39) = some b39 := by kernel_rfl
theorem c40 : cLS (cS 60 (txt.cc (inf[40]'(by decide)))) (defBody s40) = some b40 := by kernel_rfl
theorem c41 : cLS (cS 60 (txt.cc (inf[41]'(by decide)))) (defBody s41) = some b41 := by kernel_rfl
theorem c42 : cLS (cS 60 (txt.cc (inf[42]'(by decide)))) (defBody s42) = some b42 := by kernel_rfl
theorem c43 : cLS (cS 60 (txt.cc (inf[43]'(by decide)))) (defBody s43) = some b43 := by kernel_rfl
theorem c44 : cLS (cS 60 (txt.cc (inf[44]'(by decide)))) (defBody s44) = some b44 := by kernel_rfl
theorem c45 : cLS (cS 60 (txt.cc (inf[45]'(by decide)))) (defBody s45) = some b45 := by kernel_rfl
theorem c46 : cLS (cS 60 (txt.cc (inf[46]'(by decide)))) (defBody s46) = some b46 := by kernel_rfl
theorem c47 : cLS (cS 60 (txt.cc (inf[47]'(by decide)))) (defBody s47) = some b47 := by kernel_rfl
theorem txt_ok : TxtOk txt := Each.ok (.cons (by decide +kernel) rfl c0 <| .cons (by decide +kernel) rfl c1 <| .cons (by decide +kernel) rfl c2 <| .cons (by decide +kernel) rfl c3 <| .cons (by decide +kernel) rfl c4 <| .cons (by decide +kernel) rfl c5 <| .cons (by decide +kernel) rfl c6 <| .cons (by decide +kernel) rfl c7 <| .cons (by decide +kernel) rfl c8 <| .cons (by decide +kernel) rfl c9 <| .cons (by decide +kernel) rfl c10 <| .cons (by decide +kernel) rfl c11 <| .cons (by decide +kernel) rfl c12 <| .cons (by decide +kernel) rfl c13 <| .cons (by decide +kernel) rfl c14 <| .cons (by decide +kernel) rfl c15 <| .cons (by decide +kernel) rfl c16 <| .cons (by decide +kernel) rfl c17 <| .cons (by decide +kernel) rfl c18 <| .cons (by decide +kernel) rfl c19 <| .cons (by decide +kernel) rfl c20 <| .cons (by decide +kernel) rfl c21 <| .cons (by decide +kernel) rfl c22 <| .cons (by decide +kernel) rfl c23 <| .cons (by decide +kernel) rfl c24 <| .cons (by decide +kernel) rfl c25 <| .cons (by decide +kernel) rfl c26 <| .cons (by decide +kernel) rfl c27 <| .cons (by decide +kernel) rfl c28 <| .cons (by decide +kernel) rfl c29 <| .cons (by decide +kernel) rfl c30 <| .cons (by decide +kernel) rfl c31 <| .cons (by decide +kernel) rfl c32 <| .cons (by decide +kernel) rfl c33 <| .cons (by decide +kernel) rfl c34 <| .cons (by decide +kernel) rfl c35 <| .cons (by decide +kernel) rfl c36 <| .cons (by decide +kernel) rfl c37 <| .cons (by decide +kernel) rfl c38 <| .cons (by decide +kernel) rfl c39 <| .cons (by decide +kernel) rfl c40 <| .cons (by decide +kernel) rfl c41 <| .cons (by decide +kernel) rfl c42 <| .cons (by decide +kernel) rfl c43 <| .cons (by decide +kernel) rfl c44 <| .cons (by decide +kernel) rfl c45 <| .cons (by decide +kernel) rfl c46 <| .cons (by decide +kernel) rfl c47 <| .nil)
end K03

-- K03_Y1
set_option Elab.async false
set_option linter.all false
set_option maxRecDepth 100000
namespace K03
open PySem L2 PyProof.Rows
open Ip hiding start
local macro_rules | `(tactic| walk_at "run") => `(tactic| simp only [WSs, WS, Ip.WE, WA, WT, WO, WI, WF, Ip.start, List.length_cons, List.length_nil, List.map_cons, List.map_nil, List.cons_append, List.nil_append, List.replicate, Nat.zero_add, Nat.reduceAdd, Nat.reduceSub, List.getElem?_cons_zero, List.getElem?_cons_succ, List.set_cons_zero, List.set_cons_succ, bindT, bindA])
theorem T0 : txt.T 0 = some ⟨4, 2, b0⟩ := rfl
theorem sem_def {T : Nat → Option Def} {k f : Nat} {sl ps : Nat} {b : List CS} (h : T f = some ⟨sl, ps, b⟩) {ds : List D} {S : Sto} {R : RD} {E : Exn → Sto → Prop} (hl : ds.length = ps)
    (q : WSs (SEM T k) b { nx := fun _ S' => R .non S', rt := R, bk := fun _ _ => False, ct := fun _ _ => False } (Ip.start sl ds) S fun x _ S' => E x S') : SEM T (k + 1) f ds S R E := by
  simp only [SEM, h]
  exact ⟨hl, q⟩
/-- the symbolic run -/
theorem ex_bl {k : Bool} {P : Bool → Prop} (h : P k) : ∃ k', D.bl k = D.bl k' ∧ P k' := ⟨k, rfl, h⟩
theorem ix_lst {S : Sto} {n : Nat} {ds : List D} {i : Int} {j : Nat} {d : D} {R : RD} (h : S[n]? = some (.lst ds)) (hj : ixN ds.length i = some j) (hd : ds[j]? = some d) (q : R d S) : oIx (.ref n) (.int i) S R :=
  .inl ⟨i, ds, j, d, rfl, by unfold lstOf; rw [h], hj, hd, q⟩
theorem gt_int {i j : Int} {S : Sto} {R : RD} (q : R (.bl (decide (i > j))) S) : oCmp .Gt (.int i) (.int j) S R := q
theorem add_int {i j : Int} {S : Sto} {R : RD} (q : R (.int (i + j)) S) : oBin .Add (.int i) (.int j) S R := q
theorem mul_int {i j : Int} {S : Sto} {R : RD} (h : CMulW i j) (q : R (.int (i * j)) S) : oBin .Mult (.int i) (.int j) S R := ⟨h, q⟩
theorem mod_int {i j : Int} {S : Sto} {R : RD} (h : 0 < j) (q : R (.int (i % j)) S) : oBin .Mod (.int i) (.int j) S R := ⟨h, q⟩
theorem div_int {i j : Int} {S : Sto} {R : RD} (h : CDivW i j) (q : R (.int (i / j)) S) : oBin .FloorDiv (.int i) (.int j) S R := ⟨h, q⟩
theorem pow_int {i j : Int} {S : Sto} {R : RD} (h : CPowW i j) (q : R (.int (i ^ j.toNat)) S) : oBin .Pow (.int i) (.int j) S R := ⟨h, q⟩
theorem bi_int {i : Int} {S : Sto} {R : RD} (q : R (.int i) S) : oBi .int [.int i] S R := q
theorem put_lst {S : Sto} {n : Nat} {ds : List D} {i : Int} {j : Nat} {d : D} {R : Sto → Prop} (h : S[n]? = some (.lst ds)) (hj : ixN ds.length i = some j) (hl : j < ds.length) (q : R (S.set n (.lst (ds.set j d)))) : oPut (.ref n) (.int i) d S R := ⟨ds, j, h, hj, hl, q⟩
theorem set_at {S : Sto} {n : Nat} {c : Cell} (h : n < S.length) : (S.set n c)[n]? = some c := by simp [h]
/-- an int of less than p bits -/
def Sz (i : Int) (p : Nat) : Prop := i.natAbs < 2 ^ p
instance (i : Int) (p : Nat) : Decidable (Sz i p) := inferInstanceAs (Decidable (i.natAbs < 2 ^ p))
instance (i j : Int) : Decidable (CPowW i j) := inferInstanceAs (Decidable (0 ≤ j ∧ (Builtin.Int.intBits i : Int) * j ≤ 2 ^ 27))
theorem Sz.mod {i j : Int} {p : Nat} (h0 : 0 < j) (h : Sz j p) : Sz (i % j) p ∧ 0 ≤ i % j := by
  have h1 := Int.emod_nonneg i (by omega : j ≠ 0)
  have h2 := Int.emod_lt_of_pos i h0
  refine ⟨?_, h1⟩
  unfold Sz at *
  omega
theorem Sz.mono {i : Int} {p q : Nat} (h : Sz i p) (l : p ≤ q) : Sz i q := Nat.lt_of_lt_of_le h (Nat.pow_le_pow_right (by decide) l)
theorem Sz.mul {i j : Int} {p q : Nat} (h : Sz i p) (h' : Sz j q) : Sz (i * j) (p + q) := by
  unfold Sz at *
  rw [Int.natAbs_mul, Nat.pow_add]
  exact Nat.mul_lt_mul'' h h'
theorem Sz.add {i j : Int} {p q : Nat} (h : Sz i p) (h' : Sz j q) : Sz (i + j) (max p q + 1) := by
  have h1 := h.mono (Nat.le_max_left p q)
  have h2 := h'.mono (Nat.le_max_right p q)
  unfold Sz at *
  rw [Nat.pow_succ]
  have := Int.natAbs_add_le i j
  omega
theorem Sz.le {i j : Int} {p : Nat} (h : Sz j p) (h0 : 0 ≤ i) (l : i ≤ j) : Sz i p := by
  unfold Sz at *
  omega
theorem mulW {i j : Int} {p q : Nat} (hi : Sz i p) (hj : Sz j q) (h : p + q ≤ 900000) : CMulW i j := by
  unfold CMulW
  have lg : ∀ {x p : Nat}, x < 2 ^ p → x.log2 ≤ p := fun {x p} hx => by
    by_cases h0 : x = 0
    · subst h0; simp
    · exact Nat.le_of_lt ((Nat.log2_lt h0).mpr hx)
  have h1 : i.natAbs.log2 ≤ p := lg hi
  have h2 : j.natAbs.log2 ≤ q := lg hj
  omega
theorem divW {i j : Int} {q : Nat} (h0 : 0 < j) (hj : Sz j q) (h : q ≤ 8000) : CDivW i j := by
  refine ⟨h0, ?_⟩
  have : j.natAbs.log2 < q := (Nat.log2_lt (by omega)).mpr hj
  omega
theorem take_ok {k n : Nat} {S : Sto} {a b c many : Int} {R : RD} {E : Exn → Sto → Prop} (hS : S[n]? = some (.lst [.int a, .int b, .int c])) (hb : Sz b 140) (hc : Sz c 10000) (hc0 : 0 ≤ c) (hm : 0 < many) (hm2 : Sz many 10)
    (q : ∀ r a' c', 0 ≤ r → r < many → c ≤ c' → c' ≤ c + 1 → R (.int r) (S.set n (.lst [.int a', .int b, .int c']))) : SEM txt.T (k + 1) 0 [.ref n, .int many] S R E := by
  refine sem_def T0 rfl ?_
  have hn : n < S.length := (List.getElem?_eq_some_iff.mp hS).1
  have dv : CDivW a many := divW hm hm2 (by decide)
  simp only [b0]
  walk_at "run"
  refine ix_lst hS (j := 0) rfl rfl (gt_int (ex_bl ?_))
  by_cases h0 : a > 0
  · simp only [h0, decide_true, if_true]
    refine ix_lst hS (j := 0) rfl rfl (bi_int (mod_int hm (ix_lst hS (j := 0) rfl rfl (div_int dv (put_lst hS (j := 0) rfl (Nat.zero_lt_succ _) ?_)))))
    exact q _ _ c (Int.emod_nonneg _ (by omega)) (Int.emod_lt_of_pos _ hm) (Int.le_refl _) (by omega)
  · simp only [h0, decide_false, Bool.false_eq_true, if_false]
    refine ix_lst hS (j := 2) rfl rfl (add_int (put_lst hS (j := 2) rfl (Nat.lt_succ_self _) ?_))
    have hS1 := set_at (c := .lst [.int a, .int b, .int (c + 1)]) hn
    have c1 : Sz (c + 1) 10001 := (hc.add (q := 1) (show Sz 1 1 by decide)).mono (by decide)
    have c2 := (show Sz 30011 15 by decide).mul c1
    have c3 := c2.add (show Sz 7 3 by decide)
    have b1 := hb.add (show Sz 1 1 by decide)
    have c4 := (show Sz 104729 17 by decide).mul c1
    have m1 := (b1.mul c3).add (c4.mul c1)
    refine ix_lst hS1 (j := 1) rfl rfl (add_int (ix_lst hS1 (j := 2) rfl rfl (mul_int (mulW (show Sz 30011 15 by decide) c1 (by decide)) (add_int (mul_int (mulW b1 c3 (by decide)) (ix_lst hS1 (j := 2) rfl rfl (mul_int (mulW (show Sz 104729 17 by decide) c1 (by decide)) (ix_lst hS1 (j := 2) rfl rfl (mul_int (mulW c4 c1 (by decide)) (add_int ?_))))))))))
    refine mul_int (mulW m1 m1 (by decide)) (bi_int (pow_int (by decide +kernel) (add_int (mod_int (by decide +kernel) (add_int ?_)))))
    have y1 := fun i : Int => (Sz.mod (i := i) (j := 10 ^ Int.toNat 41 + 37) (p := 137) (by decide +kernel) (by decide +kernel)).1
    refine mul_int (mulW (y1 _) ((y1 _).add (show Sz 97 7 by decide)) (by decide)) (bi_int (pow_int (by decide +kernel) (add_int (mod_int (by decide +kernel) (div_int (divW (q := 17) (by decide) (by decide) (by decide)) (bi_int (mod_int hm ?_)))))))
    exact q _ a (c + 1) (Int.emod_nonneg _ (by omega)) (Int.emod_lt_of_pos _ hm) (by omega) (Int.le_refl _)
end K03

-- K03_Y2
set_option Elab.async false
set_option linter.all false
set_option maxRecDepth 100000
namespace K03
open PySem L2 PyProof.Rows
open Ip hiding start
local macro_rules | `(tactic| walk_at "run") => `(tactic| simp only [WSs, WS, Ip.WE, WA, WT, WO, WI, WF, Ip.start, List.length_cons, List.length_nil, List.map_cons, List.map_nil, List.cons_append, List.nil_append, List.replicate, Nat.zero_add, Nat.reduceAdd, Nat.reduceSub, List.getElem?_cons_zero, List.getElem?_cons_succ, List.set_cons_zero, List.set_cons_succ, bindT, bindA])
/-! ### the store goes on -/
structure Fr (ex : List Nat) (S S' : Sto) : Prop where
  len : S.length ≤ S'.length
  eq : ∀ i, i < S.length → i ∉ ex → S'[i]? = S[i]?
theorem Fr.refl {ex : List Nat} {S : Sto} : Fr ex S S := ⟨Nat.le_refl _, fun _ _ _ => rfl⟩
theorem Fr.trans {ex : List Nat} {S S1 S2 : Sto} (a : Fr ex S S1) (b : Fr ex S1 S2) : Fr ex S S2 := ⟨Nat.le_trans a.len b.len, fun i h n => (b.eq i (Nat.lt_of_lt_of_le h a.len) n).trans (a.eq i h n)⟩
theorem Fr.mono {ex ex' : List Nat} {S S' : Sto} (a : Fr ex S S') (h : ∀ i ∈ ex, i ∈ ex') : Fr ex' S S' := ⟨a.len, fun i hi n => a.eq i hi fun z => n (h i z)⟩
theorem Fr.set {ex : List Nat} {S : Sto} {n : Nat} {c : Cell} (h : n ∈ ex) : Fr ex S (S.set n c) := ⟨by simp, fun i hi hn => by
  have : n ≠ i := fun e => hn (e ▸ h)
  simp [this]⟩
theorem Fr.push {ex : List Nat} {S : Sto} {c : Cell} : Fr ex S (S ++ [c]) := ⟨by simp, fun i hi _ => List.getElem?_append_left hi⟩
theorem Fr.at {ex : List Nat} {S S' : Sto} (f : Fr ex S S') {i : Nat} {c : Cell} (h : S[i]? = some c) (n : i ∉ ex) : S'[i]? = some c := (f.eq i (List.getElem?_eq_some_iff.mp h).1 n).trans h
theorem at_push {S : Sto} {c : Cell} : (S ++ [c])[S.length]? = some c := by simp
theorem lt_at {S : Sto} {i : Nat} {c : Cell} (h : S[i]? = some c) : i < S.length := (List.getElem?_eq_some_iff.mp h).1
/-! ### the bag -/
set_option exponentiation.threshold 20000
def T0' : Nat := 2 ^ 9000
def Bag (S : Sto) (n t : Nat) : Prop := ∃ a b c : Int, S[n]? = some (.lst [.int a, .int b, .int c]) ∧ Sz b 140 ∧ 0 ≤ c ∧ c ≤ t
theorem Bag.mono {S : Sto} {n t t' : Nat} (h : Bag S n t) (l : t ≤ t') : Bag S n t' := by
  obtain ⟨a, b, c, h1, h2, h3, h4⟩ := h
  exact ⟨a, b, c, h1, h2, h3, by omega⟩
theorem Bag.fr {ex : List Nat} {S S' : Sto} {n t : Nat} (h : Bag S n t) (f : Fr ex S S') (hn : n ∉ ex) : Bag S' n t := by
  obtain ⟨a, b, c, h1, h2, h3, h4⟩ := h
  exact ⟨a, b, c, f.at h1 hn, h2, h3, h4⟩
theorem Bag.lt {S : Sto} {n t : Nat} (h : Bag S n t) : n < S.length := by
  obtain ⟨a, b, c, h1, _⟩ := h
  exact lt_at h1
theorem take_s {k n t : Nat} {S : Sto} {many : Int} {R : RD} {E : Exn → Sto → Prop} (hB : Bag S n t) (ht : t ≤ T0') (hm : 0 < many) (hm2 : many < 1000) (q : ∀ (r : Int) S', 0 ≤ r → r < many → Bag S' n (t + 1) → Fr [n] S S' → R (.int r) S') : SEM txt.T (k + 1) 0 [.ref n, .int many] S R E := by
  obtain ⟨a, b, c, h1, h2, h3, h4⟩ := hB
  have hc : Sz c 10000 := by
    unfold Sz
    have : (c.natAbs : Nat) ≤ 2 ^ 9000 := by unfold T0' at ht; omega
    exact Nat.lt_of_le_of_lt this (Nat.pow_lt_pow_right (by decide) (by decide))
  refine take_ok h1 h2 hc h3 hm (by unfold Sz; show many.natAbs < 1024; omega) fun r a' c' r0 r1 l1 l2 => ?_
  exact q r _ r0 r1 ⟨a', b, c', set_at (lt_at h1), h2, by omega, by omega⟩ (.set (by simp))
theorem T1 : txt.T 1 = some ⟨2, 2, b1⟩ := rfl
theorem ixN_ok {n : Nat} {i : Int} (h0 : 0 ≤ i) (h1 : i < n) : ixN n i = some i.toNat := by
  unfold ixN; rw [if_pos h0, if_pos h1]
theorem pick_s {k n t r : Nat} {S : Sto} {ds : List D} {R : RD} {E : Exn → Sto → Prop} (hB : Bag S n t) (ht : t ≤ T0') (hr : S[r]? = some (.lst ds)) (hne : r ≠ n) (h0 : 0 < ds.length) (h1 : ds.length < 1000) (q : ∀ d S', d ∈ ds → Bag S' n (t + 1) → Fr [n] S S' → R d S') :
    SEM txt.T (k + 2) 1 [.ref n, .ref r] S R E := by
  refine sem_def T1 rfl ?_
  simp only [b1]
  walk_at "run"
  refine .inl ⟨ds, by unfold lstOf; rw [hr], ?_⟩
  refine take_s hB ht (by omega) (by omega) fun i S' i0 i1 B' F' => ?_
  have hl : i.toNat < ds.length := by omega
  exact ix_lst (F'.at hr (by simp [hne])) (ixN_ok i0 i1) (List.getElem?_eq_getElem hl) (q _ S' (List.getElem_mem hl) B' F')
/-! ### expressions -/
inductive Ex where
  | num (i : Int) | var (x : Str) | two (op : Str) (a b : Ex)
def Ex.d : Ex → D
  | .num i => .tup [.str "num", .int i]
  | .var x => .tup [.str "var", .str x]
  | .two op a b => .tup [.str op, a.d, b.d]
def ops : List Str := ["add", "less by", "times", "least", "most"]
def Ex.ok (names : List Str) : Nat → Ex → Prop
  | 0, _ => False
  | _ + 1, .num i => 0 ≤ i ∧ i ≤ 99
  | _ + 1, .var x => x ∈ names
  | n + 1, .two op a b => op ∈ ops ∧ a.ok names n ∧ b.ok names n
/-- the draws at most -/
def costE : Nat → Nat
  | 0 => 3
  | d + 1 => 2 * costE d + 3
theorem T3 : txt.T 3 = some ⟨7, 4, b3⟩ := rfl
theorem lt_int {i j : Int} {S : Sto} {R : RD} (q : R (.bl (decide (i < j))) S) : oCmp .Lt (.int i) (.int j) S R := q
theorem sub_int {i j : Int} {S : Sto} {R : RD} (q : R (.int (i - j)) S) : oBin .Sub (.int i) (.int j) S R := q
theorem len3 {n : Nat} (h : n ≤ 1000) : n ≤ sizeLine := by rw [sizeLine_eq]; omega
theorem str_of {names : List Str} {d : D} (h : d ∈ names.map D.str) : ∃ x ∈ names, d = .str x := by
  obtain ⟨x, h1, h2⟩ := List.mem_map.mp h
  exact ⟨x, h1, h2.symm⟩
theorem ex_ite {k : Bool} {A B : Prop} (h1 : k = true → A) (h2 : k = false → B) : if k = true then A else B := by
  cases k
  · exact (if_neg Bool.false_ne_true).mpr (h2 rfl)
  · exact (if_pos rfl).mpr (h1 rfl)
/-- a new list -/
theorem Bag.push {S : Sto} {n t : Nat} {c : Cell} (h : Bag S n t) : Bag (S ++ [c]) n t := by
  obtain ⟨a, b, c', h1, h2, h3, h4⟩ := h
  exact ⟨a, b, c', (List.getElem?_append_left (lt_at h1)).trans h1, h2, h3, h4⟩
abbrev EndR (R : RD) : EndsD := { nx := fun _ S' => R .non S', rt := R, bk := fun _ _ => False, ct := fun _ _ => False }
/-- what stays of the drawing: the names, the room -/
structure Env1 (names : List Str) (n r m : Nat) (S : Sto) (t : Nat) : Prop where
  bag : Bag S n t
  nam : S[r]? = some (.lst (names.map .str))
  room : ∃ z : Int, S[m]? = some (.lst [.int z])
theorem Env1.fr {names : List Str} {n r m t t' : Nat} {S S' : Sto} (e : Env1 names n r m S t) (h1 : r ≠ n) (h2 : m ≠ n) (b : Bag S' n t') (f : Fr [n] S S') : Env1 names n r m S' t' :=
  ⟨b, f.at e.nam (by simp [h1]), by obtain ⟨z, hz⟩ := e.room; exact ⟨z, f.at hz (by simp [h2])⟩⟩
theorem Env1.push {names : List Str} {n r m t : Nat} {S : Sto} {c : Cell} (e : Env1 names n r m S t) : Env1 names n r m (S ++ [c]) t :=
  ⟨e.bag.push, (List.getElem?_append_left (lt_at e.nam)).trans e.nam, by obtain ⟨z, hz⟩ := e.room; exact ⟨z, (List.getElem?_append_left (lt_at hz)).trans hz⟩⟩
def ExprSpec (names : List Str) (n r m : Nat) (d l : Nat) : Prop := ∀ {t : Nat} {S : Sto} {R : RD} {E : Exn → Sto → Prop}, Env1 names n r m S t → t + costE d ≤ T0' →
    (∀ (e : Ex) S', e.ok names (d + 1) → Env1 names n r m S' (t + costE d) → Fr [n, m] S S' → R e.d S') → SEM txt.T l 3 [.ref n, .ref r, .int (d + 1 : Nat), .ref m] S R E
theorem ops_at : ∀ j : Nat, j < 5 → ∃ op ∈ ops, ([.str "add", .str "less by", .str "times", .str "least", .str "most"] : List D)[j]? = some (.str op)
  | 0, _ => ⟨_, by simp [ops], rfl⟩
  | 1, _ => ⟨_, by simp [ops], rfl⟩
  | 2, _ => ⟨_, by simp [ops], rfl⟩
  | 3, _ => ⟨_, by simp [ops], rfl⟩
  | 4, _ => ⟨_, by simp [ops], rfl⟩
theorem expr_tail {names : List Str} (n0 : 0 < names.length) (n1 : names.length < 1000) {n r m : Nat} (h1 : r ≠ n) (h2 : m ≠ n) {d l t : Nat} {S : Sto} {R : RD} {E : Exn → Sto → Prop} (rec : ∀ d', d = d' + 1 → ExprSpec names n r m d' (l + 2)) {w : Int} (w0 : 0 ≤ w) (w1 : w < 4 ∨ (w < 9 ∧ ∃ d', d = d' + 1))
    (e : Env1 names n r m S (t + 1)) (ht : t + costE d ≤ T0') (q : ∀ (e : Ex) S', e.ok names (d + 1) → Env1 names n r m S' (t + costE d) → Fr [n, m] S S' → R e.d S') :
    WSs (SEM txt.T (l + 2)) (b3.drop 2) (EndR R) [some (.ref n), some (.ref r), some (.int (d + 1 : Nat)), some (.ref m), some (.int w), none, none] S fun x _ S' => E x S' := by
  have c3 : 3 ≤ costE d := by cases d <;> simp [costE]
  simp only [b3, List.drop_succ_cons, List.drop_zero]
  walk_at "run"
  refine lt_int (ex_bl (ex_ite (fun c => ?_) fun c => ?_))
  · refine ⟨len3 (by decide), pick_s (r := S.length) e.bag.push (by omega) at_push (by have := e.bag.lt; omega) (by simp) (by simp) fun x S1 hx B1 F1 => ?_⟩
    obtain ⟨v, rfl, v0, v1⟩ : ∃ v : Int, x = .int v ∧ 0 < v ∧ v ≤ 100 := by
      simp only [List.mem_cons, List.not_mem_nil, or_false] at hx
      rcases hx with rfl | rfl | rfl <;> exact ⟨_, rfl, by decide, by decide⟩
    refine take_s B1 (by omega) v0 (by omega) fun i S2 i0 i1 B2 F2 => ⟨len3 (by decide), ?_⟩
    have e2 := ((e.push.fr h1 h2 B1 F1).fr h1 h2 B2 F2)
    exact q (.num i) S2 ⟨i0, by omega⟩ ⟨e2.bag.mono (by omega), e2.nam, e2.room⟩ ((Fr.push.trans (F1.mono (by simp))).trans (F2.mono (by simp)))
  · refine lt_int (ex_bl (ex_ite (fun c4 => ?_) fun c4 => ?_))
    · refine pick_s e.bag (by omega) e.nam h1 (by simpa using n0) (by simpa using n1) fun x S1 hx B1 F1 => ⟨len3 (by decide), ?_⟩
      obtain ⟨y, hy, rfl⟩ := str_of hx
      have e1 := e.fr h1 h2 B1 F1
      exact q (.var y) S1 hy ⟨e1.bag.mono (by omega), e1.nam, e1.room⟩ (F1.mono (by simp))
    · have w4 : 4 ≤ w := by have := of_decide_eq_false c4; omega
      obtain ⟨w9, d', rfl⟩ : w < 9 ∧ ∃ d', d = d' + 1 := w1.resolve_left (by omega)
      have ed : ((d' + 1 + 1 : Nat) : Int) - 1 = ((d' + 1 : Nat) : Int) := by omega
      simp only [costE] at ht q
      refine sub_int ?_
      rw [ed]
      refine rec d' rfl e (by omega) fun a S1 ha e1 F1 => sub_int ?_
      rw [ed]
      refine rec d' rfl e1 (by omega) fun b S2 hb e2 F2 => ⟨len3 (by decide), sub_int ?_⟩
      obtain ⟨op, hop, hat⟩ := ops_at (w - 4).toNat (by omega)
      refine ix_lst at_push (ixN_ok (by omega) (by simp; omega)) hat ⟨len3 (by decide), ?_⟩
      have e3 := e2.push (c := .lst [.str "add", .str "less by", .str "times", .str "least", .str "most"])
      exact q (.two op a b) _ ⟨hop, ha, hb⟩ ⟨e3.bag.mono (by omega), e3.nam, e3.room⟩ ((F1.trans F2).trans .push)
theorem if_ff {A B : Prop} (h : B) : if false = true then A else B := (if_neg Bool.false_ne_true).mpr h
theorem expr_head {names : List Str} (n0 : 0 < names.length) (n1 : names.length < 1000) {n r m : Nat} (h1 : r ≠ n) (h2 : m ≠ n) (h3 : m ≠ r) {d l : Nat} (rec : ∀ d', d = d' + 1 → ExprSpec names n r m d' (l + 2)) : ExprSpec names n r m d (l + 3) := by
  intro t S R E e ht q
  refine sem_def T3 rfl ?_
  have hb : b3 = b3.getD 0 .pass :: b3.getD 1 .pass :: b3.drop 2 := rfl
  rw [hb]
  have tail := fun (w : Int) (S2 : Sto) w0 w1 e2 => expr_tail (l := l) (R := R) (E := E) n0 n1 h1 h2 (d := d) (S := S2) (t := t) rec (w := w) w0 w1 e2 ht
  generalize b3.drop 2 = rest at tail ⊢
  simp only [b3, List.getD_cons_zero, List.getD_cons_succ]
  obtain ⟨z, hz⟩ := e.room
  have c3 : 3 ≤ costE d := by cases d <;> simp [costE]
  walk_at "run"
  refine ix_lst hz (j := 0) rfl rfl (sub_int (put_lst hz (j := 0) rfl (Nat.zero_lt_succ _) ?_))
  have eS : Env1 names n r m (S.set m (.lst [.int (z - 1)])) t := ⟨e.bag.fr (.set (ex := [m]) (by simp)) (by simp; omega), (Fr.set (ex := [m]) (by simp)).at e.nam (by simp; omega), z - 1, set_at (lt_at hz)⟩
  have fS : Fr [n, m] S (S.set m (.lst [.int (z - 1)])) := .set (by simp)
  have way : ∀ (many : Int), 0 < many → many < 1000 → (∀ w : Int, w < many → w < 4 ∨ w < 9 ∧ ∃ d', d = d' + 1) → SEM txt.T (l + 2) 0 [.ref n, .int many] (S.set m (.lst [.int (z - 1)]))
      (fun d' S1 => WSs (SEM txt.T (l + 2)) rest (EndR R) [some (.ref n), some (.ref r), some (.int (d + 1 : Nat)), some (.ref m), some d', none, none] S1 fun x _ S' => E x S') fun x S2 => E x S2 := fun many m0 m1 hw =>
    take_s eS.bag (by omega) m0 m1 fun w S2 w0 w1 B F => tail w S2 w0 (hw w w1) (eS.fr h1 h2 B F) fun e' S' ok e2 F2 => q e' S' ok e2 ((fS.trans (F.mono (by simp))).trans F2)
  refine gt_int (ex_bl (ex_ite (fun c => ?_) fun c => if_ff (way 4 (by decide) (by decide) fun w hw => .inl hw)))
  have hd : ∃ d', d = d' + 1 := by
    have := of_decide_eq_true c
    exact ⟨d - 1, by omega⟩
  refine ix_lst (set_at (lt_at hz)) (j := 0) rfl rfl (gt_int (ex_bl (ex_ite (fun c => ?_) fun c => ?_)))
  · exact way 9 (by decide) (by decide) fun w hw => .inr ⟨hw, hd⟩
  · exact way 4 (by decide) (by decide) fun w hw => .inl hw
theorem expr_s {names : List Str} (n0 : 0 < names.length) (n1 : names.length < 1000) {n r m : Nat} (h1 : r ≠ n) (h2 : m ≠ n) (h3 : m ≠ r) : ∀ d l : Nat, ExprSpec names n r m d (l + d + 3) := by
  intro d
  induction d with
  | zero => exact fun l => expr_head n0 n1 h1 h2 h3 fun d' z => by cases z
  | succ d ih => exact fun l => expr_head (l := l + (d + 1)) n0 n1 h1 h2 h3 fun d' z => by cases z; exact ih l
end K03

-- K03_Y3
set_option Elab.async false
set_option linter.all false
set_option maxRecDepth 100000
namespace K03
open PySem L2 PyProof.Rows
open Ip hiding start
local macro_rules | `(tactic| walk_at "run") => `(tactic| simp only [WSs, WS, Ip.WE, WA, WT, WO, WI, WF, Ip.start, List.length_cons, List.length_nil, List.map_cons, List.map_nil, List.cons_append, List.nil_append, List.replicate, Nat.zero_add, Nat.reduceAdd, Nat.reduceSub, List.getElem?_cons_zero, List.getElem?_cons_succ, List.set_cons_zero, List.set_cons_succ, bindT, bindA])
theorem eq_int {i j : Int} {S : Sto} {R : RD} (q : R (.bl (decide (i = j))) S) : oCmp .Eq (.int i) (.int j) S R := by
  refine ⟨.int i, .int j, rfl, rfl, ?_⟩
  have : id (PyData.eqv (.int i) (.int j)) = decide (i = j) := by
    show PyData.eqv (.int i) (.int j) = _
    by_cases h : i = j
    · subst h; simp [PyData.eqv]
    · simp [PyData.eqv, h]
  rw [this]; exact q
theorem min_int {i j : Int} {S : Sto} {R : RD} (q : R (.int (min i j)) S) : oBi .min2 [.int i, .int j] S R := q
theorem Ex.ok.ok_mono {names : List Str} : ∀ {e : Ex} {n n' : Nat}, e.ok names n → n ≤ n' → e.ok names n'
  | _, 0, _, h, _ => h.elim
  | .num _, _ + 1, _ + 1, h, _ => h
  | .var _, _ + 1, _ + 1, h, _ => h
  | .two _ _ _, _ + 1, _ + 1, ⟨h1, h2, h3⟩, l => ⟨h1, Ex.ok.ok_mono h2 (by omega), Ex.ok.ok_mono h3 (by omega)⟩
/-! ### conditions -/
inductive Co where
  | tru | cmp (op : Str) (a b : Ex) | not (c : Co) | two (op : Str) (a b : Co)
def Co.d : Co → D
  | .tru => .tup [.str "true"]
  | .cmp op a b => .tup [.str op, a.d, b.d]
  | .not c => .tup [.str "not", c.d]
  | .two op a b => .tup [.str op, a.d, b.d]
def Co.ok (names : List Str) : Nat → Co → Prop
  | 0, _ => False
  | _ + 1, .tru => True
  | n + 1, .cmp op a b => (op = "is" ∨ op = "below") ∧ a.ok names n ∧ b.ok names n
  | n + 1, .not c => c.ok names n
  | n + 1, .two op a b => (op = "and" ∨ op = "or") ∧ a.ok names n ∧ b.ok names n
def costC : Nat → Nat
  | 0 => 50
  | d + 1 => 2 * costC d + 1
theorem T4 : txt.T 4 = some ⟨7, 4, b4⟩ := rfl
def CondSpec (names : List Str) (n r m : Nat) (d l : Nat) : Prop := ∀ {t : Nat} {S : Sto} {R : RD} {E : Exn → Sto → Prop}, Env1 names n r m S t → t + costC d ≤ T0' →
    (∀ (c : Co) S', c.ok names (d + 2) → Env1 names n r m S' (t + costC d) → Fr [n, m] S S' → R c.d S') → SEM txt.T l 4 [.ref n, .ref r, .int (d + 2 : Nat), .ref m] S R E
theorem costE_le {d : Nat} (h : d ≤ 2) : costE d ≤ 21 := by
  rcases d with _ | _ | _ | d <;> simp [costE]
  omega
theorem costC_ge : ∀ d : Nat, 50 ≤ costC d
  | 0 => Nat.le_refl _
  | d + 1 => by have := costC_ge d; simp only [costC]; omega
theorem Env1.le {names : List Str} {n r m t t' : Nat} {S : Sto} (e : Env1 names n r m S t) (h : t ≤ t') : Env1 names n r m S t' := ⟨e.bag.mono h, e.nam, e.room⟩
theorem cond_tail {names : List Str} (n0 : 0 < names.length) (n1 : names.length < 1000) {n r m : Nat} (h1 : r ≠ n) (h2 : m ≠ n) (h3 : m ≠ r) {d l t : Nat} {S : Sto} {R : RD} {E : Exn → Sto → Prop} (ex : ∀ d', d' ≤ 2 → ExprSpec names n r m d' l) (rec : ∀ d', d = d' + 1 → CondSpec names n r m d' l)
    {w : Int} (w0 : 0 ≤ w) (w1 : w < 6 ∨ (w < 10 ∧ ∃ d', d = d' + 1)) (e : Env1 names n r m S (t + 1)) (ht : t + costC d ≤ T0') (q : ∀ (c : Co) S', c.ok names (d + 2) → Env1 names n r m S' (t + costC d) → Fr [n, m] S S' → R c.d S') :
    WSs (SEM txt.T l) (b4.drop 2) (EndR R) [some (.ref n), some (.ref r), some (.int (d + 2 : Nat)), some (.ref m), some (.int w), none, none] S fun x _ S' => E x S' := by
  have c50 := costC_ge d
  have em : (min (3 : Int) (((d + 2 : Nat) : Int) - 1)) = ((min 2 d + 1 : Nat) : Int) := by omega
  have e21 := costE_le (Nat.min_le_left 2 d)
  simp only [b4, List.drop_succ_cons, List.drop_zero]
  walk_at "run"
  refine eq_int (ex_bl (ex_ite (fun c => ?_) fun c => ?_))
  · exact ⟨len3 (by decide), q .tru S trivial (e.le (by omega)) .refl⟩
  refine lt_int (ex_bl (ex_ite (fun c6 => ?_) fun c6 => ?_))
  · refine sub_int (min_int ?_)
    rw [em]
    refine ex _ (Nat.min_le_left 2 d) e (by omega) fun a S1 ha e1 F1 => sub_int (min_int ?_)
    rw [em]
    refine ex _ (Nat.min_le_left 2 d) e1 (by omega) fun b S2 hb e2 F2 => lt_int (ex_bl (ex_ite (fun c4 => ⟨len3 (by decide), ?_⟩) fun c4 => ⟨len3 (by decide), ?_⟩))
    · exact q (.cmp "is" a b) S2 ⟨.inl rfl, ha.ok_mono (by omega), hb.ok_mono (by omega)⟩ (e2.le (by omega)) (F1.trans F2)
    · exact q (.cmp "below" a b) S2 ⟨.inr rfl, ha.ok_mono (by omega), hb.ok_mono (by omega)⟩ (e2.le (by omega)) (F1.trans F2)
  have w6 : 6 ≤ w := by have := of_decide_eq_false c6; omega
  obtain ⟨w10, d', rfl⟩ : w < 10 ∧ ∃ d', d = d' + 1 := w1.resolve_left (by omega)
  have ed : ((d' + 1 + 2 : Nat) : Int) - 1 = ((d' + 2 : Nat) : Int) := by omega
  simp only [costC] at ht q c50
  refine eq_int (ex_bl (ex_ite (fun c7 => ?_) fun c7 => ?_))
  · refine sub_int ?_
    rw [ed]
    refine rec d' rfl e (by omega) fun a S1 ha e1 F1 => ⟨len3 (by decide), ?_⟩
    exact q (.not a) S1 ha (e1.le (by omega)) F1
  · have w7 : 7 ≤ w := by have := of_decide_eq_false c7; omega
    refine sub_int ?_
    rw [ed]
    refine rec d' rfl e (by omega) fun a S1 ha e1 F1 => ⟨len3 (by decide), sub_int ?_⟩
    obtain ⟨op, hop, hat⟩ : ∃ op : Str, (op = "and" ∨ op = "or") ∧ ([.str "and", .str "or", .str "or"] : List D)[(w - 7).toNat]? = some (.str op) := by
      have : (w - 7).toNat = 0 ∨ (w - 7).toNat = 1 ∨ (w - 7).toNat = 2 := by omega
      rcases this with z | z | z <;> rw [z]
      · exact ⟨_, .inl rfl, rfl⟩
      · exact ⟨_, .inr rfl, rfl⟩
      · exact ⟨_, .inr rfl, rfl⟩
    refine ix_lst at_push (ixN_ok (by omega) (by simp; omega)) hat (sub_int ?_)
    rw [ed]
    refine rec d' rfl e1.push (by omega) fun b S2 hb e2 F2 => ⟨len3 (by decide), ?_⟩
    exact q (.two op a b) S2 ⟨hop, ha, hb⟩ (e2.le (by omega)) ((F1.trans .push).trans F2)
theorem cond_head {names : List Str} (n0 : 0 < names.length) (n1 : names.length < 1000) {n r m : Nat} (h1 : r ≠ n) (h2 : m ≠ n) (h3 : m ≠ r) {d l : Nat} (ex : ∀ d', d' ≤ 2 → ExprSpec names n r m d' (l + 1)) (rec : ∀ d', d = d' + 1 → CondSpec names n r m d' (l + 1)) : CondSpec names n r m d (l + 2) := by
  intro t S R E e ht q
  refine sem_def T4 rfl ?_
  have hb : b4 = b4.getD 0 .pass :: b4.getD 1 .pass :: b4.drop 2 := rfl
  rw [hb]
  have tail := fun (w : Int) (S2 : Sto) w0 w1 e2 => cond_tail (l := l + 1) (R := R) (E := E) n0 n1 h1 h2 h3 (d := d) (S := S2) (t := t) ex rec (w := w) w0 w1 e2 ht
  generalize b4.drop 2 = rest at tail ⊢
  simp only [b4, List.getD_cons_zero, List.getD_cons_succ]
  obtain ⟨z, hz⟩ := e.room
  have c50 := costC_ge d
  walk_at "run"
  refine ix_lst hz (j := 0) rfl rfl (sub_int (put_lst hz (j := 0) rfl (Nat.zero_lt_succ _) ?_))
  have eS : Env1 names n r m (S.set m (.lst [.int (z - 1)])) t := ⟨e.bag.fr (.set (ex := [m]) (by simp)) (by simp; omega), (Fr.set (ex := [m]) (by simp)).at e.nam (by simp; omega), z - 1, set_at (lt_at hz)⟩
  have fS : Fr [n, m] S (S.set m (.lst [.int (z - 1)])) := .set (by simp)
  have way : ∀ (many : Int), 0 < many → many < 1000 → (∀ w : Int, w < many → w < 6 ∨ w < 10 ∧ ∃ d', d = d' + 1) → SEM txt.T (l + 1) 0 [.ref n, .int many] (S.set m (.lst [.int (z - 1)]))
      (fun d' S1 => WSs (SEM txt.T (l + 1)) rest (EndR R) [some (.ref n), some (.ref r), some (.int (d + 2 : Nat)), some (.ref m), some d', none, none] S1 fun x _ S' => E x S') fun x S2 => E x S2 := fun many m0 m1 hw =>
    take_s eS.bag (by omega) m0 m1 fun w S2 w0 w1 B F => tail w S2 w0 (hw w w1) (eS.fr h1 h2 B F) fun e' S' ok e2 F2 => q e' S' ok e2 ((fS.trans (F.mono (by simp))).trans F2)
  refine gt_int (ex_bl (ex_ite (fun c => ?_) fun c => if_ff (way 6 (by decide) (by decide) fun w hw => .inl hw)))
  have hd : ∃ d', d = d' + 1 := by
    have := of_decide_eq_true c
    exact ⟨d - 1, by omega⟩
  refine ix_lst (set_at (lt_at hz)) (j := 0) rfl rfl (gt_int (ex_bl (ex_ite (fun c => ?_) fun c => ?_)))
  · exact way 10 (by decide) (by decide) fun w hw => .inr ⟨hw, hd⟩
  · exact way 6 (by decide) (by decide) fun w hw => .inl hw
theorem cond_s {names : List Str} (n0 : 0 < names.length) (n1 : names.length < 1000) {n r m : Nat} (h1 : r ≠ n) (h2 : m ≠ n) (h3 : m ≠ r) : ∀ d l : Nat, CondSpec names n r m d (l + d + 7) := by
  have ex : ∀ (j d' : Nat), d' ≤ 2 → ExprSpec names n r m d' (j + 5) := fun j d' h => by
    have z : j + 5 = (j + 2 - d') + d' + 3 := by omega
    rw [z]
    exact @expr_s names n0 n1 n r m h1 h2 h3 d' (j + 2 - d')
  intro d
  induction d with
  | zero => exact fun l => cond_head (l := l + 5) n0 n1 h1 h2 h3 (fun d' h => ex (l + 1) d' h) fun d' z => by cases z
  | succ d ih => exact fun l => cond_head (l := l + (d + 1) + 5) n0 n1 h1 h2 h3 (fun d' h => ex (l + (d + 1) + 1) d' h) fun d' z => by cases z; exact ih l
end K03

-- K03_Y4
set_option Elab.async false
set_option linter.all false
set_option maxRecDepth 100000
namespace K03
open PySem L2 PyProof.Rows
open Ip hiding start
local macro_rules | `(tactic| walk_at "run") => `(tactic| simp only [WSs, WS, Ip.WE, WA, WT, WO, WI, WF, Ip.start, List.length_cons, List.length_nil, List.map_cons, List.map_nil, List.cons_append, List.nil_append, List.replicate, Nat.zero_add, Nat.reduceAdd, Nat.reduceSub, List.getElem?_cons_zero, List.getElem?_cons_succ, List.set_cons_zero, List.set_cons_succ, bindT, bindA])
theorem T46 : txt.T 46 = some ⟨3, 2, b46⟩ := rfl
theorem T47 : txt.T 47 = some ⟨2, 1, b47⟩ := rfl
theorem sum_lst {S : Sto} {n : Nat} {ns : List Int} {R : RD} (h : S[n]? = some (.lst (ns.map .int))) (q : R (.int ns.sum) S) : oBi .sum [.ref n] S R := ⟨ns, by unfold lstOf; rw [h], q⟩
theorem max_int {i j : Int} {S : Sto} {R : RD} (q : R (.int (max i j)) S) : oBi .max2 [.int i, .int j] S R := q
theorem len_ro {ds : List D} {S : Sto} {R : RD} (q : R (.int ds.length) S) : oBi .len [.ro ds] S R := q
theorem ix_ro {S : Sto} {ds : List D} {i : Int} {j : Nat} {d : D} {R : RD} (hj : ixN ds.length i = some j) (hd : ds[j]? = some d) (q : R d S) : oIx (.ro ds) (.int i) S R := ⟨j, d, hj, hd, q⟩
theorem sl_ro {S : Sto} {ns : List Int} {lo hi : Option Int} {R : RD} (hl : ns.length ≤ 1000) (q : ∀ ms : List Int, R (.ref S.length) (S ++ [.lst (ms.map .int)])) : oSl (.ro (ns.map .int)) lo hi S R := by
  refine ⟨by rw [List.length_map]; exact len3 hl, ?_⟩
  have e : Ip.cutD (ns.map D.int) lo hi = ((ns.drop (HT.sIx (ns.map D.int).length 0 lo)).take (HT.sIx (ns.map D.int).length (ns.map D.int).length hi - HT.sIx (ns.map D.int).length 0 lo)).map D.int := by
    unfold Ip.cutD
    rw [List.map_take, List.map_drop]
  rw [e]
  exact q _
theorem bag_s {ns : List Int} (hl : ns.length ≤ 63) {k i : Nat} (hi : i < 1000) {S : Sto} {R : RD} {E : Exn → Sto → Prop} (q : ∀ S', S'.length = S.length + 2 → Bag S' (S.length + 1) 100000 → R (.ref (S.length + 1)) S') :
    SEM txt.T (k + 1) 46 [.ro (ns.map .int), .int i] S R E := by
  refine sem_def T46 rfl ?_
  have fin : ∀ (v : Int) (ms : List Int), max (0 : Int) (v - 10 ^ Int.toNat 18) = max (0 : Int) (v - 10 ^ Int.toNat 18) → R (.ref (S ++ [Cell.lst (ms.map .int)]).length) ((S ++ [Cell.lst (ms.map .int)]) ++ [.lst [.int (max 0 (v - 10 ^ Int.toNat 18)), .int (v % (10 ^ Int.toNat 40 + 121)), .int (61 * (i : Int))]]) := fun v ms _ => by
    have e : (S ++ [Cell.lst (ms.map .int)]).length = S.length + 1 := by simp
    rw [e]
    refine q _ (by simp) ⟨max 0 (v - 10 ^ Int.toNat 18), v % (10 ^ Int.toNat 40 + 121), 61 * (i : Int), ?_, (Sz.mod (i := v) (j := 10 ^ Int.toNat 40 + 121) (p := 140) (by decide +kernel) (by decide +kernel)).1, by omega, by omega⟩
    rw [← e]
    exact at_push
  simp only [b46]
  walk_at "run"
  refine ⟨1, rfl, sl_ro (ns := ns) (by omega) fun ms => ?_⟩
  refine sum_lst at_push ?_
  refine bi_int (mod_int (by decide) ?_)
  refine len_ro (lt_int (ex_bl (ex_ite (fun c => ?_) fun c => ?_)))
  · have hlt : i < ns.length := by have := of_decide_eq_true c; simp at this; omega
    refine ix_ro (ixN_ok (by omega) (by simp; omega)) (d := .int ns[i]) (by simp [hlt]) ?_
    refine pow_int (by decide +kernel) (sub_int (max_int (bi_int (pow_int (by decide +kernel) (add_int (mod_int (by decide +kernel) (mul_int (mulW (p := 6) (q := 10) (by decide) (by unfold Sz; show (i : Int).natAbs < 1024; omega) (by decide)) ⟨len3 (by decide), fin _ ms rfl⟩)))))))
  · refine pow_int (by decide +kernel) (sub_int (max_int (bi_int (pow_int (by decide +kernel) (add_int (mod_int (by decide +kernel) (mul_int (mulW (p := 6) (q := 10) (by decide) (by unfold Sz; show (i : Int).natAbs < 1024; omega) (by decide)) ⟨len3 (by decide), fin _ ms rfl⟩)))))))
/-! ### the law, from one turn -/
def Right : Prop := ∀ {n : Nat} {S : Sto} {R : RD} {E : Exn → Sto → Prop}, Bag S n 100000 → (∀ S', R (.bl true) S') → SEM txt.T 199 45 [.ref n] S R E
theorem loop_all {bind : D → Ip.Env → Option Ip.Env} {body : TSD} {R : EndsD} {E : XD} {P : Ip.Env → Prop} : ∀ (ds : List D) (ρ : Ip.Env) (S : Sto), P ρ → (∀ d ∈ ds, ∀ ρ S (R' : EndsD), P ρ → (∀ ρ' S', P ρ' → R'.nx ρ' S') → R'.rt = R.rt → ∃ ρ1, bind d ρ = some ρ1 ∧ body R' ρ1 S E) → (∀ ρ S, P ρ → R.nx ρ S) → loopF bind (fun _ => True) body R E ds ρ S
  | [], ρ, S, h, _, fin => fin ρ S h
  | d :: ds, ρ, S, h, turn, fin => by
    obtain ⟨ρ1, e, q⟩ := turn d List.mem_cons_self ρ S { nx := fun ρ' S' => True ∧ loopF bind (fun _ => True) body R E ds ρ' S', rt := R.rt, bk := R.nx, ct := fun ρ' S' => True ∧ loopF bind (fun _ => True) body R E ds ρ' S' } h
      (fun ρ' S' h' => ⟨trivial, loop_all ds ρ' S' h' (fun d hd => turn d (List.mem_cons_of_mem _ hd)) fin⟩) rfl
    simp only [loopF, e]
    exact q
theorem law_of (h : Right) : LawD txt 200 47 63 := by
  intro ns hl _
  refine sem_def (k := 199) T47 rfl ?_
  simp only [b47]
  walk_at "run"
  refine len_ro (min_int (max_int ⟨_, rfl, by simp; omega, by simp; omega, ?_⟩))
  refine loop_all (P := fun ρ => ∃ x, ρ = [some (.ro (ns.map .int)), x]) _ _ _ ⟨none, rfl⟩ (fun d hd ρ S R' ⟨x, hρ⟩ hn hr => ?_) fun _ _ _ => trivial
  obtain ⟨i, hi, rfl⟩ := List.mem_map.mp hd
  have hi4 : i < 1000 := by
    have := List.mem_range.mp hi
    simp at this
    omega
  subst hρ
  refine ⟨_, rfl, ?_⟩
  simp only [List.set_cons_succ, List.set_cons_zero, List.getElem?_cons_zero, List.getElem?_cons_succ]
  refine bag_s hl hi4 fun S' _ B => h B fun S2 => ⟨true, rfl, ?_⟩
  simp only [Bool.not_true, Bool.false_eq_true, if_false]
  exact hn _ _ ⟨_, rfl⟩
end K03

-- K03_Y5
set_option Elab.async false
set_option linter.all false
set_option maxRecDepth 100000
namespace K03
open PySem L2 PyProof.Rows
open Ip hiding start
local macro_rules | `(tactic| walk_at "run") => `(tactic| simp only [WSs, WS, Ip.WE, WA, WT, WO, WI, WF, Ip.start, List.length_cons, List.length_nil, List.map_cons, List.map_nil, List.cons_append, List.nil_append, List.replicate, Nat.zero_add, Nat.reduceAdd, Nat.reduceSub, List.getElem?_cons_zero, List.getElem?_cons_succ, List.set_cons_zero, List.set_cons_succ, bindT, bindA])
theorem T11 : txt.T 11 = some ⟨1, 1, b11⟩ := rfl
theorem T14 : txt.T 14 = some ⟨3, 3, b14⟩ := rfl
theorem T15 : txt.T 15 = some ⟨1, 1, b15⟩ := rfl
theorem T16 : txt.T 16 = some ⟨3, 3, b16⟩ := rfl
theorem tru_bl {k : Bool} {S : Sto} {P : Bool → Prop} (h : P k) : ∃ k', TruD (.bl k) S k' ∧ P k' := ⟨k, rfl, h⟩
theorem le_int {i j : Int} {S : Sto} {R : RD} (q : R (.bl (decide (i ≤ j))) S) : oCmp .LtE (.int i) (.int j) S R := q
theorem ix_tup {S : Sto} {ds : List D} {i : Int} {j : Nat} {d : D} {R : RD} (hj : ixN ds.length i = some j) (hd : ds[j]? = some d) (q : R d S) : oIx (.tup ds) (.int i) S R := ⟨j, d, hj, hd, q⟩
theorem len_tup {ds : List D} {S : Sto} {R : RD} (q : R (.int ds.length) S) : oBi .len [.tup ds] S R := q
theorem int_s {k : Nat} {v : Int} {S : Sto} {R : RD} {E : Exn → Sto → Prop} (q : R (.bl true) S) : SEM txt.T (k + 1) 15 [.int v] S R E := by
  refine sem_def T15 rfl ?_
  simp only [b15]
  walk_at "run"
  simp only [isTy]
  refine tru_bl ?_
  simp only [if_true]
  exact tru_bl q
theorem between_s {k : Nat} {v lo hi : Int} {S : Sto} {R : RD} {E : Exn → Sto → Prop} (h : lo ≤ v ∧ v ≤ hi) (q : R (.bl true) S) : SEM txt.T (k + 2) 16 [.int v, .int lo, .int hi] S R E := by
  refine sem_def T16 rfl ?_
  simp only [b16]
  walk_at "run"
  refine int_s (tru_bl ?_)
  simp only [if_true]
  refine le_int (ex_bl ?_)
  simp only [h.1, decide_true, if_true]
  refine le_int ?_
  simp only [h.2, decide_true]
  exact q
theorem form_s {k : Nat} {x : Str} {ds : List D} {S : Sto} {R : RD} {E : Exn → Sto → Prop} (q : R (.bl true) S) : SEM txt.T (k + 1) 11 [.tup (.str x :: ds)] S R E := by
  refine sem_def T11 rfl ?_
  simp only [b11]
  walk_at "run"
  simp only [isTy]
  refine tru_bl ?_
  simp only [if_true]
  refine len_tup (gt_int (tru_bl ?_))
  have : ((D.str x :: ds).length : Int) > 0 := by simp
  simp only [this, decide_true, if_true]
  exact ix_tup (j := 0) (ixN_ok (by decide) (by simpa using this)) rfl q
end K03

-- K03_Y6
set_option Elab.async false
set_option linter.all false
set_option maxRecDepth 100000
namespace K03
open PySem L2 PyProof.Rows
open Ip hiding start
local macro_rules | `(tactic| walk_at "run") => `(tactic| simp only [WSs, WS, Ip.WE, WA, WT, WO, WI, WF, Ip.start, List.length_cons, List.length_nil, List.map_cons, List.map_nil, List.cons_append, List.nil_append, List.replicate, Nat.zero_add, Nat.reduceAdd, Nat.reduceSub, List.getElem?_cons_zero, List.getElem?_cons_succ, List.set_cons_zero, List.set_cons_succ, bindT, bindA])
theorem T18 : txt.T 18 = some ⟨2, 2, b18⟩ := rfl
theorem eq_str {x y : Str} {S : Sto} {R : RD} (hx : PyData.strOk x = true) (hy : PyData.strOk y = true) (q : R (.bl (decide (x = y))) S) : oCmp .Eq (.str x) (.str y) S R := by
  refine ⟨.str x, .str y, by simp [toPy, hx], by simp [toPy, hy], ?_⟩
  have : id (PyData.eqv (.str x) (.str y)) = decide (x = y) := by
    show PyData.eqv (.str x) (.str y) = _
    by_cases h : x = y
    · subst h; simp [PyData.eqv]
    · simp [PyData.eqv, h]
  rw [this]; exact q
/-- the name is one -/
def NameOk (x : Str) : Prop := ∀ {k : Nat} {S : Sto} {R : RD} {E : Exn → Sto → Prop}, (∀ S', Fr [] S S' → R (.bl true) S') → SEM txt.T (k + 2) 17 [.str x] S R E
theorem two_s {f l : Nat} {op : Str} {a b : D} {d : Int} {S : Sto} {R : RD} {E : Exn → Sto → Prop} (ha : ∀ {S : Sto} {R : RD}, (∀ S', Fr [] S S' → R (.bl true) S') → SEM txt.T l f [a, .int (d - 1)] S R E) (hb : ∀ {S : Sto} {R : RD}, (∀ S', Fr [] S S' → R (.bl true) S') → SEM txt.T l f [b, .int (d - 1)] S R E)
    (q : ∀ S', Fr [] S S' → R (.bl true) S') : SEM txt.T (l + 1) 14 [.tup [.str op, a, b], .fn f, .int d] S R E := by
  refine sem_def T14 rfl ?_
  simp only [b14]
  walk_at "run"
  refine len_tup (eq_int (tru_bl ?_))
  simp only [List.length_cons, List.length_nil, Nat.zero_add, Nat.reduceAdd, Int.cast_ofNat_Int, decide_true, if_true]
  refine ix_tup (j := 1) rfl rfl (sub_int (ha fun S1 F1 => tru_bl ?_))
  simp only [if_true]
  exact ix_tup (j := 2) rfl rfl (sub_int (hb fun S2 F2 => q S2 (F1.trans F2)))
theorem isexpr_s {names : List Str} (hn : ∀ x ∈ names, NameOk x) : ∀ (e : Ex) (n : Nat) {k : Nat} {S : Sto} {R : RD} {E : Exn → Sto → Prop}, e.ok names n → (∀ S', Fr [] S S' → R (.bl true) S') → SEM txt.T (k + 3 + 2 * n) 18 [e.d, .int n] S R E
  | e, 0, k, S, R, E, h, _ => by cases e <;> exact h.elim
  | .num i, n + 1, k, S, R, E, h, q => by
    rw [show k + 3 + 2 * (n + 1) = (k + 2 * n + 2 + 2) + 1 by omega]
    refine sem_def T18 rfl ?_
    simp only [b18]
    walk_at "run"
    refine eq_int (ex_bl ?_)
    have z : ¬ ((n + 1 : Nat) : Int) = 0 := by omega
    simp only [z, decide_false, Bool.false_eq_true, if_false, Ex.d]
    refine form_s (tru_bl ?_)
    simp only [Bool.not_true, Bool.false_eq_true, if_false]
    refine ix_tup (j := 0) rfl rfl (eq_str (by decide +kernel) (by decide +kernel) (ex_bl ?_))
    simp only [decide_true, if_true]
    refine len_tup (eq_int (tru_bl ?_))
    simp only [List.length_cons, List.length_nil, Nat.zero_add, Nat.reduceAdd, Int.cast_ofNat_Int, decide_true, if_true]
    exact ix_tup (j := 1) rfl rfl (between_s h (q S .refl))
  | .var x, n + 1, k, S, R, E, h, q => by
    rw [show k + 3 + 2 * (n + 1) = (k + 2 * n + 2 + 2) + 1 by omega]
    refine sem_def T18 rfl ?_
    simp only [b18]
    walk_at "run"
    refine eq_int (ex_bl ?_)
    have z : ¬ ((n + 1 : Nat) : Int) = 0 := by omega
    simp only [z, decide_false, Bool.false_eq_true, if_false, Ex.d]
    refine form_s (tru_bl ?_)
    simp only [Bool.not_true, Bool.false_eq_true, if_false]
    refine ix_tup (j := 0) rfl rfl (eq_str (by decide +kernel) (by decide +kernel) (ex_bl ?_))
    have z2 : ¬ (("var" : Str) = "num") := by decide +kernel
    simp only [z2, decide_false, Bool.false_eq_true, if_false]
    refine ix_tup (j := 0) rfl rfl (eq_str (by decide +kernel) (by decide +kernel) (ex_bl ?_))
    simp only [decide_true, if_true]
    refine len_tup (eq_int (tru_bl ?_))
    simp only [List.length_cons, List.length_nil, Nat.zero_add, Nat.reduceAdd, Int.cast_ofNat_Int, decide_true, if_true]
    exact ix_tup (j := 1) rfl rfl (hn x h q)
  | .two op a b, n + 1, k, S, R, E, ⟨h1, h2, h3⟩, q => by
    rw [show k + 3 + 2 * (n + 1) = (k + 2 * n + 2 + 2) + 1 by omega]
    refine sem_def T18 rfl ?_
    have f1 : PyData.strOk op = true ∧ ¬ (op = ("num" : Str)) ∧ ¬ (op = ("var" : Str)) ∧ (([.str "add", .str "less by", .str "times", .str "least", .str "most"] : List D).any fun z => eqF z (.str op)) = true := by
      simp only [ops, List.mem_cons, List.not_mem_nil, or_false] at h1
      rcases h1 with rfl | rfl | rfl | rfl | rfl <;> decide +kernel
    obtain ⟨g1, g2, g3, g4⟩ := f1
    have nd : ((n + 1 : Nat) : Int) - 1 = (n : Nat) := by omega
    simp only [b18]
    walk_at "run"
    refine eq_int (ex_bl ?_)
    have z : ¬ ((n + 1 : Nat) : Int) = 0 := by omega
    simp only [z, decide_false, Bool.false_eq_true, if_false, Ex.d]
    refine form_s (tru_bl ?_)
    simp only [Bool.not_true, Bool.false_eq_true, if_false]
    refine ix_tup (j := 0) rfl rfl (eq_str g1 (by decide +kernel) (ex_bl ?_))
    simp only [g2, decide_false, Bool.false_eq_true, if_false]
    refine ix_tup (j := 0) rfl rfl (eq_str g1 (by decide +kernel) (ex_bl ?_))
    simp only [g3, decide_false, Bool.false_eq_true, if_false]
    refine ix_tup (j := 0) rfl rfl (show oCmp .In (.str op) (.tup _) _ _ from ⟨rfl, rfl, tru_bl ?_⟩)
    simp only [g4, id, if_true]
    rw [show k + 2 * n + 2 + 2 = (k + 3 + 2 * n) + 1 by omega]
    exact two_s (fun q' => by rw [nd]; exact isexpr_s hn a n h2 q') (fun q' => by rw [nd]; exact isexpr_s hn b n h3 q') q
end K03

-- K03_Y7
set_option Elab.async false
set_option linter.all false
set_option maxRecDepth 100000
namespace K03
open PySem L2 PyProof.Rows
open Ip hiding start
local macro_rules | `(tactic| walk_at "run") => `(tactic| simp only [WSs, WS, Ip.WE, WA, WT, WO, WI, WF, Ip.start, List.length_cons, List.length_nil, List.map_cons, List.map_nil, List.cons_append, List.nil_append, List.replicate, Nat.zero_add, Nat.reduceAdd, Nat.reduceSub, List.getElem?_cons_zero, List.getElem?_cons_succ, List.set_cons_zero, List.set_cons_succ, bindT, bindA])
theorem T19 : txt.T 19 = some ⟨2, 2, b19⟩ := rfl
theorem in_tup {x : D} {ds : List D} {S : Sto} {R : RD} (h1 : flatD x = true) (h2 : ds.all flatD = true) (q : R (.bl (ds.any fun z => eqF z x)) S) : oCmp .In x (.tup ds) S R := by
  cases x <;> first | exact ⟨h1, h2, q⟩ | cases h1
theorem iscond_s {names : List Str} (hn : ∀ x ∈ names, NameOk x) : ∀ (c : Co) (n : Nat) {k : Nat} {S : Sto} {R : RD} {E : Exn → Sto → Prop}, c.ok names n → (∀ S', Fr [] S S' → R (.bl true) S') → SEM txt.T (k + 6 + 2 * n) 19 [c.d, .int n] S R E
  | e, 0, k, S, R, E, h, _ => by cases e <;> exact h.elim
  | .tru, n + 1, k, S, R, E, h, q => by
    rw [show k + 6 + 2 * (n + 1) = (k + 2 * n + 5 + 2) + 1 by omega]
    refine sem_def T19 rfl ?_
    simp only [b19]
    walk_at "run"
    refine eq_int (ex_bl ?_)
    have z : ¬ ((n + 1 : Nat) : Int) = 0 := by omega
    simp only [z, decide_false, Bool.false_eq_true, if_false, Co.d]
    refine form_s (tru_bl ?_)
    simp only [Bool.not_true, Bool.false_eq_true, if_false]
    refine ix_tup (j := 0) rfl rfl (eq_str (by decide +kernel) (by decide +kernel) (ex_bl ?_))
    simp only [decide_true, if_true]
    exact len_tup (eq_int (q S .refl))
  | .not c, n + 1, k, S, R, E, h, q => by
    rw [show k + 6 + 2 * (n + 1) = (k + 6 + 2 * n + 1) + 1 by omega]
    have nd : ((n + 1 : Nat) : Int) - 1 = (n : Nat) := by omega
    refine sem_def T19 rfl ?_
    simp only [b19]
    walk_at "run"
    refine eq_int (ex_bl ?_)
    have z : ¬ ((n + 1 : Nat) : Int) = 0 := by omega
    simp only [z, decide_false, Bool.false_eq_true, if_false, Co.d]
    refine form_s (tru_bl ?_)
    simp only [Bool.not_true, Bool.false_eq_true, if_false]
    have g1 : ¬ (("not" : Str) = "true") := by decide +kernel
    refine ix_tup (j := 0) rfl rfl (eq_str (by decide +kernel) (by decide +kernel) (ex_bl ?_))
    simp only [g1, decide_false, Bool.false_eq_true, if_false]
    refine ix_tup (j := 0) rfl rfl (eq_str (by decide +kernel) (by decide +kernel) (ex_bl ?_))
    simp only [decide_true, if_true]
    refine len_tup (eq_int (tru_bl ?_))
    simp only [List.length_cons, List.length_nil, Nat.zero_add, Nat.reduceAdd, Int.cast_ofNat_Int, decide_true, if_true]
    refine ix_tup (j := 1) rfl rfl (sub_int ?_)
    rw [nd, show k + 6 + 2 * n + 1 = (k + 1) + 6 + 2 * n by omega]
    exact iscond_s hn c n h q
  | .cmp op a b, n + 1, k, S, R, E, ⟨h1, h2, h3⟩, q => by
    rw [show k + 6 + 2 * (n + 1) = (k + 4 + 3 + 2 * n) + 1 by omega]
    have nd : ((n + 1 : Nat) : Int) - 1 = (n : Nat) := by omega
    obtain ⟨g0, g1, g2, g3⟩ : PyData.strOk op = true ∧ ¬ (op = ("true" : Str)) ∧ ¬ (op = ("not" : Str)) ∧ (([.str "is", .str "below"] : List D).any fun z => eqF z (.str op)) = true := by rcases h1 with rfl | rfl <;> decide +kernel
    refine sem_def T19 rfl ?_
    simp only [b19]
    walk_at "run"
    refine eq_int (ex_bl ?_)
    have z : ¬ ((n + 1 : Nat) : Int) = 0 := by omega
    simp only [z, decide_false, Bool.false_eq_true, if_false, Co.d]
    rw [show k + 4 + 3 + 2 * n = (k + 5 + 2 * n + 1) + 1 by omega]
    refine form_s (tru_bl ?_)
    simp only [Bool.not_true, Bool.false_eq_true, if_false]
    refine ix_tup (j := 0) rfl rfl (eq_str g0 (by decide +kernel) (ex_bl ?_))
    simp only [g1, decide_false, Bool.false_eq_true, if_false]
    refine ix_tup (j := 0) rfl rfl (eq_str g0 (by decide +kernel) (ex_bl ?_))
    simp only [g2, decide_false, Bool.false_eq_true, if_false]
    refine ix_tup (j := 0) rfl rfl ⟨len3 (by decide), in_tup rfl rfl (ex_bl ?_)⟩
    simp only [g3, if_true]
    rw [show k + 5 + 2 * n + 1 = (k + 3) + 3 + 2 * n by omega]
    exact two_s (fun q' => by rw [nd]; exact isexpr_s hn a n h2 q') (fun q' => by rw [nd]; exact isexpr_s hn b n h3 q') q
  | .two op a b, n + 1, k, S, R, E, ⟨h1, h2, h3⟩, q => by
    rw [show k + 6 + 2 * (n + 1) = (k + 4 + 3 + 2 * n) + 1 by omega]
    have nd : ((n + 1 : Nat) : Int) - 1 = (n : Nat) := by omega
    obtain ⟨g0, g1, g2, g3, g4⟩ : PyData.strOk op = true ∧ ¬ (op = ("true" : Str)) ∧ ¬ (op = ("not" : Str)) ∧ (([.str "is", .str "below"] : List D).any fun z => eqF z (.str op)) = false ∧ (([.str "and", .str "or"] : List D).any fun z => eqF z (.str op)) = true := by rcases h1 with rfl | rfl <;> decide +kernel
    refine sem_def T19 rfl ?_
    simp only [b19]
    walk_at "run"
    refine eq_int (ex_bl ?_)
    have z : ¬ ((n + 1 : Nat) : Int) = 0 := by omega
    simp only [z, decide_false, Bool.false_eq_true, if_false, Co.d]
    rw [show k + 4 + 3 + 2 * n = (k + 6 + 2 * n) + 1 by omega]
    refine form_s (tru_bl ?_)
    simp only [Bool.not_true, Bool.false_eq_true, if_false]
    refine ix_tup (j := 0) rfl rfl (eq_str g0 (by decide +kernel) (ex_bl ?_))
    simp only [g1, decide_false, Bool.false_eq_true, if_false]
    refine ix_tup (j := 0) rfl rfl (eq_str g0 (by decide +kernel) (ex_bl ?_))
    simp only [g2, decide_false, Bool.false_eq_true, if_false]
    refine ix_tup (j := 0) rfl rfl ⟨len3 (by decide), in_tup rfl rfl (ex_bl ?_)⟩
    simp only [g3, Bool.false_eq_true, if_false]
    refine ix_tup (j := 0) rfl rfl ⟨len3 (by decide), in_tup rfl rfl (tru_bl ?_)⟩
    simp only [g4, if_true]
    exact two_s (fun q' => by rw [nd]; exact iscond_s hn a n h2 q') (fun q' => by rw [nd]; exact iscond_s hn b n h3 q') q
end K03

-- K03_Y8
set_option Elab.async false
set_option linter.all false
set_option maxRecDepth 100000
namespace K03
open PySem L2 PyProof.Rows
open Ip hiding start
local macro_rules | `(tactic| walk_at "run") => `(tactic| simp only [WSs, WS, Ip.WE, WA, WT, WO, WI, WF, Ip.start, List.length_cons, List.length_nil, List.map_cons, List.map_nil, List.cons_append, List.nil_append, List.replicate, Nat.zero_add, Nat.reduceAdd, Nat.reduceSub, List.getElem?_cons_zero, List.getElem?_cons_succ, List.set_cons_zero, List.set_cons_succ, bindT, bindA])
theorem T17 : txt.T 17 = some ⟨2, 1, b17⟩ := rfl
abbrev letters : Str := "abcdefghijklmnopqrstuvwxyz"
abbrev figures : Str := "0123456789"
def inT (x y : Str) : Bool := !(Builtin.Str.occurrences y x 0 y.length 1).isEmpty
def reserved : List D := [(.str ("vars")), (.str ("skip")), (.str ("draw")), (.str ("from")), (.str ("weight")), (.str ("choose")), (.str ("see")), (.str ("if")), (.str ("then")), (.str ("else")), (.str ("while")), (.str ("do")), (.str ("true")), (.str ("is")), (.str ("below")), (.str ("not")), (.str ("and")), (.str ("or")), (.str ("least")), (.str ("most"))]
def nameOk (x : Str) : Bool := decide (1 ≤ x.length ∧ x.length ≤ 10) && !(reserved.any fun z => eqF z (.str x)) && (match x.cps[0]? with | some c => inT ⟨#[c]⟩ letters | none => false) && x.cps.toList.all fun c => inT ⟨#[c]⟩ letters || inT ⟨#[c]⟩ figures
theorem in_str {x y : Str} {S : Sto} {R : RD} (q : R (.bl (inT x y)) S) : oCmp .In (.str x) (.str y) S R := q
theorem nin_str {x y : Str} {S : Sto} {R : RD} (q : R (.bl (!inT x y)) S) : oCmp .NotIn (.str x) (.str y) S R := q
theorem loopC_true {bind : D → Ip.Env → Option Ip.Env} {ok : Sto → Prop} {ρ : Ip.Env} {turn : List D → Ip.Env → Sto → (List D → Sto → Prop) → Prop} {K : List D → Sto → Prop} {S : Sto} (o : ok S) : ∀ (ds acc : List D), acc.length + ds.length ≤ 1000 →
    (∀ d ∈ ds, ∀ (acc : List D) (K' : List D → Sto → Prop), acc.length < 1000 → K' (acc ++ [.bl true]) S → ∃ ρ1, bind d ρ = some ρ1 ∧ turn acc ρ1 S K') → K (acc ++ List.replicate ds.length (.bl true)) S → loopC bind ok ρ turn K ds acc S
  | [], acc, _, _, q => by simpa [loopC] using q
  | d :: ds, acc, l, h, q => by
    simp only [List.length_cons] at l
    obtain ⟨ρ1, e, q'⟩ := h d List.mem_cons_self acc (fun acc' S' => ok S' ∧ loopC bind ok ρ turn K ds acc' S') (by omega) ⟨o, loopC_true o ds _ (by simp; omega) (fun d hd => h d (List.mem_cons_of_mem _ hd)) (by
      simpa [List.replicate_succ, List.append_assoc] using q)⟩
    simp only [loopC, e]
    exact q'
theorem if_f {b : Bool} {A B : Prop} (h : b = false) (q : B) : if b = true then A else B := by rw [if_neg (by rw [h]; exact Bool.false_ne_true)]; exact q
theorem if_t {b : Bool} {A B : Prop} (h : b = true) (q : A) : if b = true then A else B := by rw [if_pos h]; exact q
theorem name_s {x : Str} (hx : nameOk x = true) : NameOk x := by
  intro k S R E q
  unfold nameOk at hx
  simp only [Bool.and_eq_true, Bool.not_eq_true', decide_eq_true_eq, List.all_eq_true] at hx
  obtain ⟨⟨⟨⟨l1, l2⟩, nr⟩, fst⟩, all⟩ := hx
  obtain ⟨c0, hc, fst⟩ : ∃ c, x.cps[0]? = some c ∧ inT ⟨#[c]⟩ letters = true := by
    split at fst
    · exact ⟨_, by assumption, fst⟩
    · cases fst
  refine sem_def T17 rfl ?_
  simp only [b17]
  walk_at "run"
  simp only [isTy]
  refine tru_bl ?_
  simp only [Bool.not_true, Bool.false_eq_true, if_false]
  refine ⟨len3 (by omega), le_int (ex_bl ?_)⟩
  have z1 : (1 : Int) ≤ (x.length : Int) := by omega
  have z2 : (x.length : Int) ≤ 10 := by omega
  simp only [z1, decide_true, if_true]
  refine le_int (ex_bl ?_)
  simp only [z2, decide_true, Bool.not_true, Bool.false_eq_true, if_false]
  refine in_tup rfl rfl (ex_bl ?_)
  refine if_f nr ?_
  refine ⟨len3 (by omega), 0, c0, ixN_ok (i := 0) (by decide) z1, hc, nin_str (ex_bl (if_f (by rw [show inT ⟨#[c0]⟩ _ = true from fst]; rfl) ?_))⟩
  refine loopC_true trivial _ [] ?_ (fun d hd acc K' la hK => ?_) ?_
  · have : x.cps.toList.length = x.length := by rw [Array.length_toList]; rfl
    simp only [List.length_nil, List.length_map, this]
    omega
  · obtain ⟨c, hc', rfl⟩ := List.mem_map.mp hd
    refine ⟨_, rfl, ?_⟩
    simp only [wipeD, List.set_cons_succ, List.set_cons_zero, List.getElem?_cons_zero, List.getElem?_cons_succ]
    have ok := all c hc'
    refine in_str (tru_bl ?_)
    cases e : inT ⟨#[c]⟩ letters with
    | true =>
      simp only [if_true]
      exact ⟨len3 (by omega), hK⟩
    | false =>
      simp only [Bool.false_eq_true, if_false]
      refine in_str ⟨len3 (by omega), ?_⟩
      rw [e, Bool.false_or] at ok
      rw [show inT ⟨#[c]⟩ _ = true from ok]
      exact hK
  · refine ⟨List.replicate (x.cps.toList.map fun c => D.str ⟨#[c]⟩).length true, by unfold lstOf; rw [at_push]; simp, ?_⟩
    have e : (List.replicate (x.cps.toList.map fun c => D.str ⟨#[c]⟩).length true).all id = true := by simp
    rw [e]
    exact q _ .push
/-- the names that are drawn from -/
def pool : List Str := ["x", "y", "z", "n", "a1", "score4", "x9", "abcdefghi5", "b6", "if8", "o0"]
theorem pool_ok : ∀ x ∈ pool, NameOk x := by
  have : pool.all nameOk = true := by decide +kernel
  exact fun x hx => name_s (List.all_eq_true.mp this x hx)
end K03

-- K03_A
set_option Elab.async false
set_option linter.all false
set_option maxRecDepth 100000
namespace K03
open PySem L2 PyProof.Rows
open Ip hiding start
/-! ### loops -/
theorem loop_inv {bind : D → Ip.Env → Option Ip.Env} {ok : Sto → Prop} {body : TSD} {R : EndsD} {E : XD} (I : List D → Ip.Env → Sto → Prop)
    (h : ∀ d ds ρ S (R' : EndsD), I (d :: ds) ρ S → (∀ ρ' S', I ds ρ' S' → R'.nx ρ' S') → (∀ ρ' S', I ds ρ' S' → R'.ct ρ' S') → R'.rt = R.rt → ∃ ρ1, bind d ρ = some ρ1 ∧ body R' ρ1 S E)
    (hok : ∀ ds ρ S, I ds ρ S → ok S) (fin : ∀ ρ S, I [] ρ S → R.nx ρ S) : ∀ (ds : List D) (ρ : Ip.Env) (S : Sto), I ds ρ S → loopF bind ok body R E ds ρ S
  | [], ρ, S, i => fin ρ S i
  | d :: ds, ρ, S, i => by
    have q : ∀ ρ' S', I ds ρ' S' → ok S' ∧ loopF bind ok body R E ds ρ' S' := fun ρ' S' i' => ⟨hok _ _ _ i', loop_inv I h hok fin ds ρ' S' i'⟩
    obtain ⟨ρ1, e, z⟩ := h d ds ρ S { nx := fun ρ' S' => ok S' ∧ loopF bind ok body R E ds ρ' S', rt := R.rt, bk := R.nx, ct := fun ρ' S' => ok S' ∧ loopF bind ok body R E ds ρ' S' } i q q rfl
    simp only [loopF, e]
    exact z
theorem comp_inv {β : Type} {bind : D → Ip.Env → Option Ip.Env} {ok : Sto → Prop} {ρ : Ip.Env} {turn : β → Ip.Env → Sto → (β → Sto → Prop) → Prop} {K : β → Sto → Prop} (I : List D → β → Sto → Prop)
    (h : ∀ d ds acc S (K' : β → Sto → Prop), I (d :: ds) acc S → (∀ acc' S', I ds acc' S' → K' acc' S') → ∃ ρ1, bind d ρ = some ρ1 ∧ turn acc ρ1 S K')
    (hok : ∀ ds acc S, I ds acc S → ok S) (fin : ∀ acc S, I [] acc S → K acc S) : ∀ (ds : List D) (acc : β) (S : Sto), I ds acc S → loopC bind ok ρ turn K ds acc S
  | [], acc, S, i => fin acc S i
  | d :: ds, acc, S, i => by
    obtain ⟨ρ1, e, z⟩ := h d ds acc S (fun acc' S' => ok S' ∧ loopC bind ok ρ turn K ds acc' S') i fun acc' S' i' => ⟨hok _ _ _ i', comp_inv I h hok fin ds acc' S' i'⟩
    simp only [loopC, e]
    exact z
/-- a comprehension: each thing gives some -/
theorem comp_flat {α : Type} {g : α → D} {F : α → List D} {ex : List Nat} {bind : D → Ip.Env → Option Ip.Env} {ok : Sto → Prop} {ρ : Ip.Env} {turn : List D → Ip.Env → Sto → (List D → Sto → Prop) → Prop} {K : List D → Sto → Prop} {S0 : Sto} (xs : List α) (ini : List D)
    (h : ∀ x ∈ xs, ∀ (acc : List D) S1 (K' : List D → Sto → Prop), acc.length + (F x).length ≤ 4000 → Fr ex S0 S1 → (∀ S2, Fr ex S1 S2 → K' (acc ++ F x) S2) → ∃ ρ1, bind (g x) ρ = some ρ1 ∧ turn acc ρ1 S1 K')
    (hok : ∀ S', Fr ex S0 S' → ok S') (hl : ini.length + (xs.flatMap F).length ≤ 4000) (fin : ∀ S', Fr ex S0 S' → K (ini ++ xs.flatMap F) S') : loopC bind ok ρ turn K (xs.map g) ini S0 := by
  refine comp_inv (I := fun ds acc S => ∃ don rem, xs = don ++ rem ∧ ds = rem.map g ∧ acc = ini ++ don.flatMap F ∧ Fr ex S0 S) (fun d ds acc S K' i nx => ?_) (fun ds acc S i => ?_) (fun acc S i => ?_) _ _ _ ⟨[], xs, rfl, rfl, by simp, .refl⟩
  · obtain ⟨don, rem, e1, e2, e3, f⟩ := i
    cases rem with
    | nil => cases e2
    | cons x rem =>
      simp only [List.map_cons, List.cons.injEq] at e2
      obtain ⟨e2, e4⟩ := e2
      subst e2; subst e3
      refine h x (by rw [e1]; simp) _ S K' ?_ f fun S2 f2 => nx _ _ ⟨don ++ [x], rem, by rw [e1]; simp, e4, by simp, f.trans f2⟩
      rw [e1] at hl
      simp only [List.flatMap_append, List.flatMap_cons, List.length_append] at hl ⊢
      omega
  · obtain ⟨_, _, _, _, _, f⟩ := i; exact hok S f
  · obtain ⟨don, rem, e1, e2, e3, f⟩ := i
    have : rem = [] := by cases rem with
      | nil => rfl
      | cons _ _ => cases e2
    subst this
    rw [List.append_nil] at e1
    rw [e3, ← e1]
    exact fin S f
theorem lst_of {S : Sto} {n : Nat} {ds : List D} (h : S[n]? = some (.lst ds)) : lstOf S n = some ds := by unfold lstOf; rw [h]
theorem Fr.nil {S S' : Sto} {ex : List Nat} (f : Fr [] S S') : Fr ex S S' := f.mono (by simp)
/-! ### acts and statements -/
inductive Act where
  | skip | set (x : Str) (e : Ex) | draw (x : Str) (ps : List (Ex × Int)) | choose (x : Str) (es : List Ex) | see (c : Co)
def pairD (p : Ex × Int) : D := .tup [p.1.d, .int p.2]
def Act.d : Act → D
  | .skip => .tup [.str "skip"]
  | .set x e => .tup [.str "set", .str x, e.d]
  | .draw x ps => .tup [.str "draw", .str x, .tup (ps.map pairD)]
  | .choose x es => .tup [.str "choose", .str x, .tup (es.map Ex.d)]
  | .see c => .tup [.str "see", c.d]
def Act.ok (names : List Str) : Act → Prop
  | .skip => True
  | .set x e => x ∈ names ∧ e.ok names 3
  | .draw x ps => x ∈ names ∧ 1 ≤ ps.length ∧ ps.length ≤ 6 ∧ ∀ p ∈ ps, p.1.ok names 2 ∧ 1 ≤ p.2 ∧ p.2 ≤ 99
  | .choose x es => x ∈ names ∧ 1 ≤ es.length ∧ es.length ≤ 6 ∧ ∀ e ∈ es, e.ok names 2
  | .see c => c.ok names 4
mutual
inductive St where
  | act (a : Act) | hold (op : Str) (c : Co) (ss : Sts) | seq (ss : Sts)
inductive Sts where
  | nil | cons (s : St) (r : Sts)
end
def Sts.list : Sts → List St
  | .nil => []
  | .cons s r => s :: r.list
mutual
def St.d : St → D
  | .act a => a.d
  | .hold op c ss => .tup (.str op :: c.d :: ss.ds)
  | .seq ss => .tup [.str "seq", .tup ss.ds]
def Sts.ds : Sts → List D
  | .nil => []
  | .cons s r => s.d :: r.ds
end
mutual
def St.size : St → Nat
  | .act _ => 1
  | .hold _ _ ss => ss.size + 1
  | .seq ss => ss.size
def Sts.size : Sts → Nat
  | .nil => 0
  | .cons s r => s.size + r.size
end
def Sts.len : Sts → Nat
  | .nil => 0
  | .cons _ r => r.len + 1
def St.plain : St → Prop
  | .seq _ => False
  | _ => True
def Sts.plain : Sts → Prop
  | .nil => True
  | .cons s r => s.plain ∧ r.plain
mutual
def St.ok (names : List Str) : St → Nat → Prop
  | .act a, n => 0 < n ∧ a.ok names
  | .hold op c ss, n => 0 < n ∧ c.ok names 5 ∧ (op = "if" ∧ ss.len = 2 ∨ op = "while" ∧ ss.len = 1) ∧ ss.ok names (n - 1)
  | .seq ss, n => 2 ≤ ss.len ∧ ss.plain ∧ ss.ok names n
def Sts.ok (names : List Str) : Sts → Nat → Prop
  | .nil, _ => True
  | .cons s r, n => s.ok names n ∧ r.ok names n
end
theorem Sts.ds_eq : ∀ ss : Sts, ss.ds = ss.list.map St.d
  | .nil => rfl
  | .cons s r => by simp [Sts.ds, Sts.list, Sts.ds_eq r]
theorem Sts.len_eq : ∀ ss : Sts, ss.len = ss.list.length
  | .nil => rfl
  | .cons s r => by simp [Sts.len, Sts.list, Sts.len_eq r]
theorem Sts.ds_len : ∀ ss : Sts, ss.ds.length = ss.len
  | .nil => rfl
  | .cons s r => by simp [Sts.ds, Sts.len, Sts.ds_len r]
theorem Sts.plain_iff : ∀ ss : Sts, ss.plain ↔ ∀ s ∈ ss.list, s.plain
  | .nil => by simp [Sts.plain, Sts.list]
  | .cons s r => by simp [Sts.plain, Sts.list, Sts.plain_iff r]
theorem Sts.ok_iff {names : List Str} {n : Nat} : ∀ ss : Sts, ss.ok names n ↔ ∀ s ∈ ss.list, s.ok names n
  | .nil => by simp [Sts.ok, Sts.list]
  | .cons s r => by simp [Sts.ok, Sts.list, Sts.ok_iff r]
theorem Sts.size_eq : ∀ ss : Sts, ss.size = (ss.list.map St.size).sum
  | .nil => rfl
  | .cons s r => by simp [Sts.size, Sts.list, Sts.size_eq r]
def Sts.of : List St → Sts
  | [] => .nil
  | s :: r => .cons s (Sts.of r)
theorem Sts.list_of : ∀ l : List St, (Sts.of l).list = l
  | [] => rfl
  | s :: r => by simp [Sts.of, Sts.list, Sts.list_of r]
theorem Co.ok_mono {names : List Str} : ∀ {e : Co} {n n' : Nat}, e.ok names n → n ≤ n' → e.ok names n'
  | _, 0, _, h, _ => h.elim
  | .tru, _ + 1, _ + 1, h, _ => h
  | .cmp _ _ _, _ + 1, _ + 1, ⟨h1, h2, h3⟩, l => ⟨h1, h2.ok_mono (by omega), h3.ok_mono (by omega)⟩
  | .not c, n + 1, n' + 1, h, l => Co.ok_mono (e := c) (n := n) (n' := n') h (by omega)
  | .two _ _ _, _ + 1, _ + 1, ⟨h1, h2, h3⟩, l => ⟨h1, Co.ok_mono h2 (by omega), Co.ok_mono h3 (by omega)⟩
mutual
theorem St.ok_mono {names : List Str} : ∀ {s : St} {n n' : Nat}, s.ok names n → n ≤ n' → s.ok names n'
  | .act _, n, n', h, l => ⟨by have := h.1; omega, h.2⟩
  | .hold _ _ ss, n, n', ⟨h0, h1, h2, h3⟩, l => ⟨by omega, h1, h2, Sts.ok_mono h3 (by omega)⟩
  | .seq ss, n, n', ⟨h0, h1, h2⟩, l => ⟨h0, h1, Sts.ok_mono h2 l⟩
theorem Sts.ok_mono {names : List Str} : ∀ {s : Sts} {n n' : Nat}, s.ok names n → n ≤ n' → s.ok names n'
  | .nil, _, _, _, _ => trivial
  | .cons s r, n, n', ⟨h1, h2⟩, l => ⟨St.ok_mono h1 l, Sts.ok_mono h2 l⟩
end
end K03

-- K03_B
set_option Elab.async false
set_option linter.all false
set_option maxRecDepth 100000
namespace K03
open PySem L2 PyProof.Rows
open Ip hiding start
local macro_rules | `(tactic| walk_at "run") => `(tactic| simp only [WSs, WS, Ip.WE, WA, WT, WO, WI, WF, Ip.start, List.length_cons, List.length_nil, List.map_cons, List.map_nil, List.cons_append, List.nil_append, List.replicate, Nat.zero_add, Nat.reduceAdd, Nat.reduceSub, List.getElem?_cons_zero, List.getElem?_cons_succ, List.set_cons_zero, List.set_cons_succ, bindT, bindA])
local macro_rules | `(tactic| walk_at "go") => `(tactic| try simp only [WSs, WS, Ip.WE, WA, WT, WO, WI, WF, Ip.start, wipeD, recv, List.length_cons, List.length_nil, List.length_map, List.map_cons, List.map_nil, List.cons_append, List.nil_append, List.replicate, Nat.zero_add, Nat.reduceAdd, Nat.reduceSub, List.getElem?_cons_zero, List.getElem?_cons_succ, List.set_cons_zero, List.set_cons_succ, bindT, bindA,
  Option.bind_some, run_exbl, run_exint, run_trbl, run_ix0, run_ix1, run_ix2, run_ix3, run_add, run_sub, run_lt, run_le, run_gt, run_ge, run_eqi, run_nei, run_eqs, run_nes, run_ins, run_nins, run_isnon, run_isnnon, run_len, run_min, run_max, run_int, run_any1, run_any0, run_all1, run_all0, run_eqF, run_isT1, run_isT2, run_isT3, run_isT4, run_isT5, run_isT6, run_fl1, run_nn1, run_nn2, run_s0, run_s1, run_s2, run_s3, run_s4, run_s5, run_s6, run_cut1, run_cut2, run_itT, run_itO, run_itR, run_slT, run_augA, run_augS,
  sk_num, sk_var, sk_add, sk_less_by, sk_times, sk_least, sk_most, sk_true, sk_is, sk_below, sk_not, sk_and, sk_or, sk_skip, sk_set, sk_draw, sk_choose, sk_see, sk_if, sk_while, sk_seq,
  ofString_inj, String.reduceEq, ↓reduceIte, Bool.false_eq_true, decide_true, decide_false, Bool.not_true, Bool.not_false, Bool.or_true, Bool.true_or, Bool.or_false, Bool.false_or, Bool.and_true, Bool.true_and, Bool.and_false, Bool.false_and, true_and, and_true, Int.cast_ofNat_Int, Int.reduceLT, Int.reduceLE, Int.reduceEq, Int.reduceSub, Int.reduceAdd, Int.reduceNeg, Nat.reduceEqDiff, Bool.not_eq_true, Int.ofNat_eq_natCast, Int.reduceGT, gt_iff_lt, ge_iff_le])
/-! ### judges -/
theorem T22 : txt.T 22 = some ⟨2, 2, b22⟩ := rfl
theorem T23 : txt.T 23 = some ⟨1, 1, b23⟩ := rfl
theorem T24 : txt.T 24 = some ⟨2, 1, b24⟩ := rfl
theorem T25 : txt.T 25 = some ⟨2, 1, b25⟩ := rfl
theorem T26 : txt.T 26 = some ⟨2, 1, b26⟩ := rfl
theorem T20 : txt.T 20 = some ⟨1, 1, b20⟩ := rfl
/-- so many calls more -/
theorem lv {P : Nat → Prop} {c l : Nat} (h : c ≤ l) (q : ∀ j, P (j + c)) : P l := by
  obtain ⟨j, rfl⟩ := Nat.exists_eq_add_of_le' h
  exact q j
theorem tupof_s {l : Nat} {ds : List D} {n : Int} {S : Sto} {R : RD} {E : Exn → Sto → Prop} (h : (ds.length : Int) = n) (q : R (.bl true) S) : SEM txt.T (l + 1) 22 [.tup ds, .int n] S R E := by
  refine sem_def T22 rfl ?_
  simp only [b22]
  walk_at "go"
  simp only [h, decide_true]
  exact q
theorem isexpr_le {names : List Str} (hn : ∀ x ∈ names, NameOk x) {e : Ex} {n n' l : Nat} (h : e.ok names n) (hle : n ≤ n') (hl : 3 + 2 * n' ≤ l) {S : Sto} {R : RD} {E : Exn → Sto → Prop} (q : ∀ S', Fr [] S S' → R (.bl true) S') : SEM txt.T l 18 [e.d, .int n'] S R E := by
  obtain ⟨j, rfl⟩ := Nat.exists_eq_add_of_le' hl
  rw [← Nat.add_assoc]
  exact isexpr_s hn e n' (h.ok_mono hle) q
theorem iscond_le {names : List Str} (hn : ∀ x ∈ names, NameOk x) {e : Co} {n n' l : Nat} (h : e.ok names n) (hle : n ≤ n') (hl : 6 + 2 * n' ≤ l) {S : Sto} {R : RD} {E : Exn → Sto → Prop} (q : ∀ S', Fr [] S S' → R (.bl true) S') : SEM txt.T l 19 [e.d, .int n'] S R E := by
  obtain ⟨j, rfl⟩ := Nat.exists_eq_add_of_le' hl
  rw [← Nat.add_assoc]
  exact iscond_s hn e n' (Co.ok_mono h hle) q
theorem pair_s {names : List Str} (hn : ∀ x ∈ names, NameOk x) {p : Ex × Int} (h : p.1.ok names 2 ∧ 1 ≤ p.2 ∧ p.2 ≤ 99) {l : Nat} (hl : 24 ≤ l) {S : Sto} {R : RD} {E : Exn → Sto → Prop} (q : ∀ S', Fr [] S S' → R (.bl true) S') : SEM txt.T l 23 [pairD p] S R E := by
  obtain ⟨j, rfl⟩ := Nat.exists_eq_add_of_le' hl
  refine sem_def T23 rfl ?_
  simp only [b23, pairD]
  walk_at "go"
  refine tupof_s rfl ?_
  walk_at "go"
  refine between_s ⟨h.2.1, h.2.2⟩ ?_
  walk_at "go"
  exact isexpr_le hn h.1 (n' := 10) (by decide) (by omega) q
/-- a list of Trues -/
theorem all_trues {S : Sto} {n m : Nat} {R : RD} (h : S[n]? = some (.lst (List.replicate m (.bl true)))) (q : R (.bl true) S) : oBi .all [.ref n] S R := by
  refine ⟨List.replicate m true, by rw [lst_of h]; simp, ?_⟩
  have : (List.replicate m true).all id = true := by simp
  rw [this]; exact q
theorem flat_true {α : Type} (xs : List α) : (xs.flatMap fun _ => [D.bl true]) = List.replicate xs.length (.bl true) := by
  induction xs with
  | nil => rfl
  | cons a r ih => simp [ih, List.replicate_succ]
theorem all_s {α : Type} {g : α → D} {bind : D → Ip.Env → Option Ip.Env} {ok : Sto → Prop} {ρ : Ip.Env} {turn : List D → Ip.Env → Sto → (List D → Sto → Prop) → Prop} {K : List D → Sto → Prop} {S0 : Sto} (xs : List α)
    (h : ∀ x ∈ xs, ∀ (acc : List D) S1 (K' : List D → Sto → Prop), acc.length < 4000 → (∀ S2, Fr [] S1 S2 → K' (acc ++ [.bl true]) S2) → ∃ ρ1, bind (g x) ρ = some ρ1 ∧ turn acc ρ1 S1 K')
    (hok : ∀ S', Fr [] S0 S' → ok S') (hl : xs.length ≤ 4000) (fin : ∀ S', Fr [] S0 S' → K (List.replicate xs.length (.bl true)) S') : loopC bind ok ρ turn K (xs.map g) [] S0 := by
  refine comp_flat (F := fun _ => [D.bl true]) (ex := []) xs [] (fun x hx acc S1 K' ha f1 nx => h x hx acc S1 K' (by simp only [List.length_cons, List.length_nil] at ha; omega) nx) hok ?_ ?_
  · rw [flat_true]; simpa using hl
  · rw [flat_true]; simpa using fin
theorem lt_sz {n : Nat} (h : n < 4000) : n < sizeLine := by rw [sizeLine_eq]; omega
theorem are_pairs_s {names : List Str} (hn : ∀ x ∈ names, NameOk x) {ps : List (Ex × Int)} (h : 1 ≤ ps.length ∧ ps.length ≤ 6 ∧ ∀ p ∈ ps, p.1.ok names 2 ∧ 1 ≤ p.2 ∧ p.2 ≤ 99) {l : Nat} (hl : 25 ≤ l) {S : Sto} {R : RD} {E : Exn → Sto → Prop} (q : ∀ S', Fr [] S S' → R (.bl true) S') : SEM txt.T l 24 [.tup (ps.map pairD)] S R E := by
  obtain ⟨j, rfl⟩ := Nat.exists_eq_add_of_le' hl
  obtain ⟨h1, h2, h3⟩ := h
  have z1 : (1 : Int) ≤ (ps.length : Int) := by omega
  have z2 : (ps.length : Int) ≤ 6 := by omega
  refine sem_def T24 rfl ?_
  simp only [b24]
  walk_at "go"
  simp only [z1, z2, decide_true, ↓reduceIte, Bool.not_true, Bool.false_eq_true]
  refine all_s ps (fun p hp acc S1 K' ha nx => ⟨_, rfl, ?_⟩) (fun _ _ => trivial) (by omega) fun S' f => ?_
  · walk_at "go"
    exact pair_s hn (h3 p hp) (by omega) fun S2 f2 => ⟨lt_sz ha, nx S2 f2⟩
  · exact all_trues at_push (q _ (f.trans .push))
theorem are_choices_s {names : List Str} (hn : ∀ x ∈ names, NameOk x) {ps : List Ex} (h : 1 ≤ ps.length ∧ ps.length ≤ 6 ∧ ∀ p ∈ ps, p.ok names 2) {l : Nat} (hl : 25 ≤ l) {S : Sto} {R : RD} {E : Exn → Sto → Prop} (q : ∀ S', Fr [] S S' → R (.bl true) S') : SEM txt.T l 25 [.tup (ps.map Ex.d)] S R E := by
  obtain ⟨j, rfl⟩ := Nat.exists_eq_add_of_le' hl
  obtain ⟨h1, h2, h3⟩ := h
  have z1 : (1 : Int) ≤ (ps.length : Int) := by omega
  have z2 : (ps.length : Int) ≤ 6 := by omega
  refine sem_def T25 rfl ?_
  simp only [b25]
  walk_at "go"
  simp only [z1, z2, decide_true, ↓reduceIte, Bool.not_true, Bool.false_eq_true]
  refine all_s ps (fun p hp acc S1 K' ha nx => ⟨_, rfl, ?_⟩) (fun _ _ => trivial) (by omega) fun S' f => ?_
  · walk_at "go"
    exact isexpr_le hn (h3 p hp) (n' := 10) (by decide) (by omega) fun S2 f2 => ⟨lt_sz ha, nx S2 f2⟩
  · exact all_trues at_push (q _ (f.trans .push))
theorem act_s {names : List Str} (hn : ∀ x ∈ names, NameOk x) {a : Act} (h : a.ok names) {l : Nat} (hl : 30 ≤ l) {S : Sto} {R : RD} {E : Exn → Sto → Prop} (q : ∀ S', Fr [] S S' → R (.bl true) S') : SEM txt.T l 26 [a.d] S R E := by
  obtain ⟨j, rfl⟩ := Nat.exists_eq_add_of_le' hl
  refine sem_def T26 rfl ?_
  simp only [b26]
  cases a with
  | skip =>
    simp only [Act.d]
    walk_at "go"
    exact q S .refl
  | set x e =>
    simp only [Act.d]
    walk_at "go"
    refine hn x h.1 fun S1 f1 => ?_
    walk_at "go"
    exact isexpr_le hn h.2 (n' := 10) (by decide) (by omega) fun S2 f2 => q S2 (f1.trans f2)
  | draw x ps =>
    simp only [Act.d]
    walk_at "go"
    refine hn x h.1 fun S1 f1 => ?_
    walk_at "go"
    exact are_pairs_s hn h.2 (by omega) fun S2 f2 => q S2 (f1.trans f2)
  | choose x ps =>
    simp only [Act.d]
    walk_at "go"
    refine hn x h.1 fun S1 f1 => ?_
    walk_at "go"
    exact are_choices_s hn h.2 (by omega) fun S2 f2 => q S2 (f1.trans f2)
  | see c =>
    simp only [Act.d]
    walk_at "go"
    exact iscond_le hn h (n' := 10) (by decide) (by omega) fun S2 f2 => q S2 f2
end K03

-- K03_C
set_option Elab.async false
set_option linter.all false
set_option maxRecDepth 100000
namespace K03
open PySem L2 PyProof.Rows
open Ip hiding start
local macro_rules | `(tactic| walk_at "run") => `(tactic| simp only [WSs, WS, Ip.WE, WA, WT, WO, WI, WF, Ip.start, List.length_cons, List.length_nil, List.map_cons, List.map_nil, List.cons_append, List.nil_append, List.replicate, Nat.zero_add, Nat.reduceAdd, Nat.reduceSub, List.getElem?_cons_zero, List.getElem?_cons_succ, List.set_cons_zero, List.set_cons_succ, bindT, bindA])
local macro_rules | `(tactic| walk_at "go") => `(tactic| try simp only [WSs, WS, Ip.WE, WA, WT, WO, WI, WF, Ip.start, wipeD, recv, List.length_cons, List.length_nil, List.length_map, List.map_cons, List.map_nil, List.cons_append, List.nil_append, List.replicate, Nat.zero_add, Nat.reduceAdd, Nat.reduceSub, List.getElem?_cons_zero, List.getElem?_cons_succ, List.set_cons_zero, List.set_cons_succ, bindT, bindA,
  Option.bind_some, run_exbl, run_exint, run_trbl, run_ix0, run_ix1, run_ix2, run_ix3, run_add, run_sub, run_lt, run_le, run_gt, run_ge, run_eqi, run_nei, run_eqs, run_nes, run_ins, run_nins, run_isnon, run_isnnon, run_len, run_min, run_max, run_int, run_any1, run_any0, run_all1, run_all0, run_eqF, run_isT1, run_isT2, run_isT3, run_isT4, run_isT5, run_isT6, run_fl1, run_nn1, run_nn2, run_s0, run_s1, run_s2, run_s3, run_s4, run_s5, run_s6, run_cut1, run_cut2, run_itT, run_itO, run_itR, run_slT, run_augA, run_augS,
  sk_num, sk_var, sk_add, sk_less_by, sk_times, sk_least, sk_most, sk_true, sk_is, sk_below, sk_not, sk_and, sk_or, sk_skip, sk_set, sk_draw, sk_choose, sk_see, sk_if, sk_while, sk_seq,
  ofString_inj, String.reduceEq, ↓reduceIte, Bool.false_eq_true, decide_true, decide_false, Bool.not_true, Bool.not_false, Bool.or_true, Bool.true_or, Bool.or_false, Bool.false_or, Bool.and_true, Bool.true_and, Bool.and_false, Bool.false_and, true_and, and_true, Int.cast_ofNat_Int, Int.reduceLT, Int.reduceLE, Int.reduceEq, Int.reduceSub, Int.reduceAdd, Int.reduceNeg, Nat.reduceEqDiff, Bool.not_eq_true, Int.ofNat_eq_natCast, Int.reduceGT, gt_iff_lt, ge_iff_le])
theorem T27 : txt.T 27 = some ⟨3, 3, b27⟩ := rfl
theorem T12 : txt.T 12 = some ⟨6, 3, b12⟩ := rfl
theorem T13 : txt.T 13 = some ⟨4, 3, b13⟩ := rfl
theorem T21 : txt.T 21 = some ⟨4, 3, b21⟩ := rfl
mutual
theorem St.ind {P : St → Prop} (act : ∀ a, P (.act a)) (hold : ∀ op c ss, (∀ s ∈ ss.list, P s) → P (.hold op c ss)) (seq : ∀ ss, (∀ s ∈ ss.list, P s) → P (.seq ss)) : ∀ s, P s
  | .act a => act a
  | .hold op c ss => hold op c ss (Sts.ind act hold seq ss)
  | .seq ss => seq ss (Sts.ind act hold seq ss)
theorem Sts.ind {P : St → Prop} (act : ∀ a, P (.act a)) (hold : ∀ op c ss, (∀ s ∈ ss.list, P s) → P (.hold op c ss)) (seq : ∀ ss, (∀ s ∈ ss.list, P s) → P (.seq ss)) : ∀ ss : Sts, ∀ s ∈ ss.list, P s
  | .nil => fun s h => by simp [Sts.list] at h
  | .cons s r => fun s' h => (List.mem_cons.mp h).elim (fun e => e ▸ St.ind act hold seq s) fun h => Sts.ind act hold seq r s' h
end
def St.word : St → Str
  | .act .skip => "skip" | .act (.set _ _) => "set" | .act (.draw _ _) => "draw" | .act (.choose _ _) => "choose" | .act (.see _) => "see"
  | .hold op _ _ => op | .seq _ => "seq"
def St.tail : St → List D
  | .act .skip => [] | .act (.set x e) => [.str x, e.d] | .act (.draw x ps) => [.str x, .tup (ps.map pairD)] | .act (.choose x es) => [.str x, .tup (es.map Ex.d)] | .act (.see c) => [c.d]
  | .hold _ c ss => c.d :: ss.ds | .seq ss => [.tup ss.ds]
theorem St.d_eq : ∀ s : St, s.d = .tup (.str s.word :: s.tail)
  | .act .skip => rfl | .act (.set _ _) => rfl | .act (.draw _ _) => rfl | .act (.choose _ _) => rfl | .act (.see _) => rfl
  | .hold _ _ _ => rfl | .seq _ => rfl
theorem St.word_ok {names : List Str} {n : Nat} : ∀ {s : St}, s.ok names n → PyData.strOk s.word = true ∧ (s.plain → (s.word = "seq") = False)
  | .act .skip, _ => ⟨sk_skip, fun _ => by simp only [St.word, ofString_inj, String.reduceEq]⟩
  | .act (.set _ _), _ => ⟨sk_set, fun _ => by simp only [St.word, ofString_inj, String.reduceEq]⟩
  | .act (.draw _ _), _ => ⟨sk_draw, fun _ => by simp only [St.word, ofString_inj, String.reduceEq]⟩
  | .act (.choose _ _), _ => ⟨sk_choose, fun _ => by simp only [St.word, ofString_inj, String.reduceEq]⟩
  | .act (.see _), _ => ⟨sk_see, fun _ => by simp only [St.word, ofString_inj, String.reduceEq]⟩
  | .hold op _ _, h => by
    obtain ⟨_, _, h, _⟩ := h
    rcases h with ⟨rfl, _⟩ | ⟨rfl, _⟩
    · exact ⟨sk_if, fun _ => by simp only [St.word, ofString_inj, String.reduceEq]⟩
    · exact ⟨sk_while, fun _ => by simp only [St.word, ofString_inj, String.reduceEq]⟩
  | .seq _, _ => ⟨sk_seq, fun h => h.elim⟩
def St.x : St → Nat
  | .seq _ => 3
  | _ => 0
theorem St.x_plain : ∀ {s : St}, s.plain → s.x = 0
  | .act _, _ => rfl
  | .hold _ _ _, _ => rfl
  | .seq _, h => h.elim
theorem St.x_le : ∀ {s : St}, s.x ≤ 3
  | .act _ => Nat.zero_le _
  | .hold _ _ _ => Nat.zero_le _
  | .seq _ => Nat.le_refl _
def CountSpec (names : List Str) (s : St) : Prop := ∀ {n deep most l : Nat} {S : Sto} {R : RD} {E : Exn → Sto → Prop}, s.ok names n → n ≤ deep → s.size ≤ most → 6 * n + 30 + s.x ≤ l → (∀ S', Fr [] S S' → R (.int s.size) S') → SEM txt.T l 27 [s.d, .int deep, .int most] S R E
theorem size_pos {names : List Str} : ∀ (s : St) {n : Nat}, s.ok names n → 0 < s.size := by
  refine St.ind (fun a n h => ?_) (fun op c ss ih n h => ?_) (fun ss ih n h => ?_)
  · simp [St.size]
  · simp [St.size]
  · obtain ⟨h1, _, h3⟩ := h
    simp only [St.size]
    cases ss with
    | nil => simp [Sts.len] at h1
    | cons s r =>
      simp only [Sts.size]
      have := ih s (by simp [Sts.list]) h3.1
      omega
theorem all_of {names : List Str} {ss : Sts} (ih : ∀ s ∈ ss.list, CountSpec names s) {n deep most l x : Nat} {S : Sto} {R : RD} {E : Exn → Sto → Prop} (h : ss.ok names n) (hd : n ≤ deep) (hm : ss.size ≤ most) (hx : ∀ s ∈ ss.list, s.x ≤ x) (hl : 6 * n + 31 + x ≤ l)
    (q : ∀ S', Fr [] S S' → R (.int ss.size) S') : SEM txt.T l 12 [.tup ss.ds, .int deep, .int most] S R E := by
  obtain ⟨j, rfl⟩ := Nat.exists_eq_add_of_le' hl
  rw [show j + (6 * n + 31 + x) = (j + 6 * n + 30 + x) + 1 by omega]
  refine sem_def T12 rfl ?_
  simp only [b12]
  walk_at "go"
  rw [Sts.ok_iff] at h
  rw [Sts.size_eq] at hm q
  refine loop_inv (I := fun ds ρ S1 => ∃ don rem y z, ss.list = don ++ rem ∧ ds = rem.map St.d ∧ ρ = [some (.tup ss.ds), some (.int deep), some (.int most), some (.int ((don.map St.size).sum : Nat)), y, z] ∧ Fr [] S S1) (fun d ds ρ S1 R' i nx ct hr => ?_) (fun _ _ _ _ => trivial) (fun ρ S1 i => ?_) _ _ _
    ⟨[], ss.list, none, none, rfl, Sts.ds_eq ss, rfl, .refl⟩
  · obtain ⟨don, rem, y, z, e1, e2, rfl, f⟩ := i
    cases rem with
    | nil => cases e2
    | cons s rem =>
      simp only [List.map_cons, List.cons.injEq] at e2
      obtain ⟨rfl, rfl⟩ := e2
      refine ⟨_, rfl, ?_⟩
      have hs : s ∈ ss.list := by rw [e1]; simp
      have hm' : (don.map St.size).sum + s.size ≤ most := by
        rw [e1] at hm
        simp only [List.map_append, List.map_cons, List.sum_append, List.sum_cons] at hm
        omega
      walk_at "go"
      rw [show (most : Int) - ((don.map St.size).sum : Nat) = ((most - (don.map St.size).sum : Nat) : Int) by omega]
      refine ih s hs (h s hs) hd (by omega) (by have := hx s hs; omega) fun S2 f2 => ?_
      walk_at "go"
      refine nx _ _ ⟨don ++ [s], rem, some s.d, some (.int s.size), by rw [e1]; simp, rfl, ?_, f.trans f2⟩
      simp only [List.map_append, List.map_cons, List.map_nil, List.sum_append, List.sum_cons, List.sum_nil, Nat.add_zero, Int.natCast_add]
  · obtain ⟨don, rem, y, z, e1, e2, rfl, f⟩ := i
    have : rem = [] := by cases rem with
      | nil => rfl
      | cons _ _ => cases e2
    subst this
    walk_at "go"
    rw [List.append_nil] at e1
    rw [← e1]
    exact q S1 f
theorem flat_one {α : Type} {f : α → D} : ∀ xs : List α, xs.flatMap (fun x => [f x]) = xs.map f
  | [] => rfl
  | a :: r => by rw [List.flatMap_cons, flat_one r]; rfl
theorem comp_map {α : Type} {g f : α → D} {bind : D → Ip.Env → Option Ip.Env} {ok : Sto → Prop} {ρ : Ip.Env} {turn : List D → Ip.Env → Sto → (List D → Sto → Prop) → Prop} {K : List D → Sto → Prop} {S0 : Sto} (xs : List α)
    (h : ∀ x ∈ xs, ∀ (acc : List D) S1 (K' : List D → Sto → Prop), acc.length < 4000 → Fr [] S0 S1 → (∀ S2, Fr [] S1 S2 → K' (acc ++ [f x]) S2) → ∃ ρ1, bind (g x) ρ = some ρ1 ∧ turn acc ρ1 S1 K')
    (hok : ∀ S', Fr [] S0 S' → ok S') (hl : xs.length ≤ 4000) (fin : ∀ S', Fr [] S0 S' → K (xs.map f) S') : loopC bind ok ρ turn K (xs.map g) [] S0 := by
  have e := flat_one (f := f) xs
  refine comp_flat (F := fun x => [f x]) (ex := []) xs [] (fun x hx acc S1 K' ha f1 nx => h x hx acc S1 K' (by simp only [List.length_cons, List.length_nil] at ha; omega) f1 nx) hok ?_ ?_
  · rw [e]; simpa using hl
  · rw [e]; simpa using fin
theorem any_bls {S : Sto} {n : Nat} {R : RD} {α : Type} {xs : List α} {f : α → Bool} (h : S[n]? = some (.lst (xs.map fun x => .bl (f x)))) (q : R (.bl (xs.any f)) S) : oBi .any [.ref n] S R := by
  refine ⟨xs.map f, by rw [lst_of h]; simp, ?_⟩
  have : (xs.map f).any id = xs.any f := by simp
  rw [this]; exact q
theorem seq_of {names : List Str} {ss : Sts} (ih : ∀ s ∈ ss.list, CountSpec names s) {n deep most l : Nat} {S : Sto} {R : RD} {E : Exn → Sto → Prop} (h2 : 2 ≤ ss.len) (hl4 : ss.len ≤ 4000) (hp : ss.plain) (h : ss.ok names n) (hd : n ≤ deep) (hm : ss.size ≤ most) (hl : 6 * n + 32 ≤ l)
    (q : ∀ S', Fr [] S S' → R (.int ss.size) S') : SEM txt.T l 13 [.tup [.str "seq", .tup ss.ds], .int deep, .int most] S R E := by
  obtain ⟨j, rfl⟩ := Nat.exists_eq_add_of_le' hl
  rw [show j + (6 * n + 32) = (j + 6 * n + 31) + 1 by omega]
  refine sem_def T13 rfl ?_
  simp only [b13]
  have z1 : ((ss.ds.length : Int) < 2) = False := by rw [Sts.ds_len]; simp only [eq_iff_iff, iff_false]; omega
  walk_at "go"
  simp only [z1, decide_false, Bool.false_eq_true, ↓reduceIte]
  rw [Sts.plain_iff] at hp
  have hk := Sts.ok_iff ss |>.mp h
  rw [Sts.ds_eq]
  refine comp_map (f := fun s : St => .bl false) ss.list (fun s hs acc S1 K' ha f1 nx => ⟨_, rfl, ?_⟩) (fun _ _ => trivial) (by rw [← Sts.len_eq]; exact hl4) fun S' f => ?_
  · obtain ⟨w1, w2⟩ := St.word_ok (hk s hs)
    rw [St.d_eq]
    walk_at "go"
    rw [show j + 6 * n + 31 = (j + 6 * n + 30) + 1 by omega]
    refine form_s ?_
    walk_at "go"
    simp only [run_eqs, w1, w2 (hp s hs), sk_seq, decide_false]
    exact ⟨lt_sz ha, nx _ .refl⟩
  · refine any_bls (xs := ss.list) (f := fun _ => false) at_push ?_
    have : ss.list.any (fun _ => false) = false := by simp
    rw [this]
    walk_at "go"
    rw [← Sts.ds_eq]
    exact all_of ih h hd hm (x := 0) (fun s hs => by rw [St.x_plain (hp s hs)]; exact Nat.le_refl 0) (by omega) fun S2 f2 => q S2 ((f.trans .push).trans f2)
theorem isholder_s {names : List Str} (hn : ∀ x ∈ names, NameOk x) {op : Str} {c : Co} {ss : Sts} (hc : c.ok names 5) (ho : op = "if" ∧ ss.len = 2 ∨ op = "while" ∧ ss.len = 1) {l : Nat} (hl : 27 ≤ l) {S : Sto} {R : RD} {E : Exn → Sto → Prop} (q : ∀ S', Fr [] S S' → R (.bl true) S') :
    SEM txt.T l 20 [.tup (.str op :: c.d :: ss.ds)] S R E := by
  obtain ⟨j, rfl⟩ := Nat.exists_eq_add_of_le' hl
  refine sem_def T20 rfl ?_
  simp only [b20]
  rcases ho with ⟨rfl, hs⟩ | ⟨rfl, hs⟩
  · have z : ((ss.ds.length + 1 + 1 : Nat) : Int) = 4 := by rw [Sts.ds_len, hs]; rfl
    walk_at "go"
    simp only [z, decide_true, ↓reduceIte]
    exact iscond_le hn hc (n' := 10) (by decide) (by omega) q
  · have z : ((ss.ds.length + 1 + 1 : Nat) : Int) = 3 := by rw [Sts.ds_len, hs]; rfl
    walk_at "go"
    simp only [z, decide_true, ↓reduceIte]
    exact iscond_le hn hc (n' := 10) (by decide) (by omega) q
theorem Sts.len_le {names : List Str} {n : Nat} : ∀ ss : Sts, ss.ok names n → ss.len ≤ ss.size
  | .nil, _ => Nat.le_refl _
  | .cons s r, h => by
    have := size_pos s h.1
    have := Sts.len_le r h.2
    simp only [Sts.len, Sts.size]
    omega
theorem count_s {names : List Str} (hn : ∀ x ∈ names, NameOk x) : ∀ s : St, s.size ≤ 4000 → CountSpec names s := by
  have sub : ∀ {ss : Sts} {s : St}, s ∈ ss.list → s.size ≤ ss.size := by
    intro ss s hs
    rw [Sts.size_eq]
    obtain ⟨a, b, e⟩ := List.append_of_mem hs
    rw [e]
    simp only [List.map_append, List.map_cons, List.sum_append, List.sum_cons]
    omega
  refine St.ind (fun a => ?_) (fun op c ss ih => ?_) (fun ss ih => ?_)
  · intro _ n deep most l S R E h hd hm hl q
    obtain ⟨j, rfl⟩ := Nat.exists_eq_add_of_le' hl
    simp only [St.x, Nat.add_zero]
    obtain ⟨h0, ha⟩ := h
    rw [show j + (6 * n + 30) = (j + 6 * n + 28 + 1) + 1 by omega]
    refine sem_def T27 rfl ?_
    have e1 : ((deep : Int) = 0) = False := by simp only [eq_iff_iff, iff_false]; omega
    have e2 : ((most : Int) = 0) = False := by simp only [eq_iff_iff, iff_false]; simp only [St.size] at hm; omega
    have act := fun (R : RD) (S : Sto) => act_s hn ha (l := j + 6 * n + 28 + 1) (by omega) (S := S) (R := R) (E := E)
    simp only [b27, St.d]
    simp only [St.size] at q
    cases a <;> simp only [Act.d] at act ⊢ <;> walk_at "go" <;> refine form_s ?_ <;> walk_at "go" <;> simp only [e1, e2, decide_false, Bool.false_eq_true, ↓reduceIte] <;> (refine act _ _ fun S1 f1 => ?_) <;> walk_at "go" <;> exact q S1 f1
  · intro hz n deep most l S R E h hd hm hl q
    obtain ⟨j, rfl⟩ := Nat.exists_eq_add_of_le' hl
    simp only [St.x, Nat.add_zero]
    obtain ⟨h0, hc, ho, hss⟩ := h
    simp only [St.size] at hz hm q
    rw [show j + (6 * n + 30) = (j + 6 * n + 28 + 1) + 1 by omega]
    refine sem_def T27 rfl ?_
    have e1 : ((deep : Int) = 0) = False := by simp only [eq_iff_iff, iff_false]; omega
    have e2 : ((most : Int) = 0) = False := by simp only [eq_iff_iff, iff_false]; omega
    have hold : SEM txt.T (j + 6 * n + 28 + 1) 21 [.tup (.str op :: c.d :: ss.ds), .int deep, .int most] S R E := by
      refine sem_def T21 rfl ?_
      simp only [b21]
      walk_at "go"
      refine isholder_s hn hc ho (by omega) fun S1 f1 => ?_
      walk_at "go"
      rw [show (deep : Int) - 1 = ((deep - 1 : Nat) : Int) by omega, show (most : Int) - 1 = ((most - 1 : Nat) : Int) by omega]
      refine all_of (fun s hs => ih s hs (by have := sub hs; omega)) hss (by omega) (by omega) (x := 3) (fun s hs => St.x_le) (by omega) fun S2 f2 => ?_
      walk_at "go"
      exact q S2 (f1.trans f2)
    simp only [b27, St.d]
    rcases ho with ⟨rfl, hs⟩ | ⟨rfl, hs⟩ <;> walk_at "go" <;> refine form_s ?_ <;> walk_at "go" <;> simp only [e1, e2, decide_false, Bool.false_eq_true, ↓reduceIte] <;> exact hold
  · intro hz n deep most l S R E h hd hm hl q
    obtain ⟨j, rfl⟩ := Nat.exists_eq_add_of_le' hl
    simp only [St.x]
    obtain ⟨h2, hp, hss⟩ := h
    simp only [St.size] at hz hm q
    have l4 : ss.len ≤ 4000 := by
      have := Sts.len_le ss hss
      omega
    rw [show j + (6 * n + 30 + 3) = (j + 6 * n + 31 + 1) + 1 by omega]
    refine sem_def T27 rfl ?_
    simp only [b27, St.d]
    walk_at "go"
    refine form_s ?_
    walk_at "go"
    exact seq_of (fun s hs => ih s hs (by have := sub hs; omega)) h2 l4 hp hss hd hm (by omega) q
end K03

-- K03_D
set_option Elab.async false
set_option linter.all false
set_option maxRecDepth 100000
namespace K03
open PySem L2 PyProof.Rows
open Ip hiding start
local macro_rules | `(tactic| walk_at "run") => `(tactic| simp only [WSs, WS, Ip.WE, WA, WT, WO, WI, WF, Ip.start, List.length_cons, List.length_nil, List.map_cons, List.map_nil, List.cons_append, List.nil_append, List.replicate, Nat.zero_add, Nat.reduceAdd, Nat.reduceSub, List.getElem?_cons_zero, List.getElem?_cons_succ, List.set_cons_zero, List.set_cons_succ, bindT, bindA])
local macro_rules | `(tactic| walk_at "go") => `(tactic| try simp only [WSs, WS, Ip.WE, WA, WT, WO, WI, WF, Ip.start, wipeD, recv, List.length_cons, List.length_nil, List.length_map, List.map_cons, List.map_nil, List.cons_append, List.nil_append, List.replicate, Nat.zero_add, Nat.reduceAdd, Nat.reduceSub, List.getElem?_cons_zero, List.getElem?_cons_succ, List.set_cons_zero, List.set_cons_succ, bindT, bindA,
  Option.bind_some, run_exbl, run_exint, run_trbl, run_ix0, run_ix1, run_ix2, run_ix3, run_add, run_sub, run_lt, run_le, run_gt, run_ge, run_eqi, run_nei, run_eqs, run_nes, run_ins, run_nins, run_isnon, run_isnnon, run_len, run_min, run_max, run_int, run_any1, run_any0, run_all1, run_all0, run_eqF, run_isT1, run_isT2, run_isT3, run_isT4, run_isT5, run_isT6, run_fl1, run_nn1, run_nn2, run_s0, run_s1, run_s2, run_s3, run_s4, run_s5, run_s6, run_cut1, run_cut2, run_itT, run_itO, run_itR, run_slT, run_augA, run_augS,
  sk_num, sk_var, sk_add, sk_less_by, sk_times, sk_least, sk_most, sk_true, sk_is, sk_below, sk_not, sk_and, sk_or, sk_skip, sk_set, sk_draw, sk_choose, sk_see, sk_if, sk_while, sk_seq,
  ofString_inj, String.reduceEq, ↓reduceIte, Bool.false_eq_true, decide_true, decide_false, Bool.not_true, Bool.not_false, Bool.or_true, Bool.true_or, Bool.or_false, Bool.false_or, Bool.and_true, Bool.true_and, Bool.and_false, Bool.false_and, true_and, and_true, Int.cast_ofNat_Int, Int.reduceLT, Int.reduceLE, Int.reduceEq, Int.reduceSub, Int.reduceAdd, Int.reduceNeg, Nat.reduceEqDiff, Bool.not_eq_true, Int.ofNat_eq_natCast, Int.reduceGT, gt_iff_lt, ge_iff_le])
theorem T28 : txt.T 28 = some ⟨1, 1, b28⟩ := rfl
theorem T29 : txt.T 29 = some ⟨4, 1, b29⟩ := rfl
theorem T30 : txt.T 30 = some ⟨2, 1, b30⟩ := rfl
theorem T31 : txt.T 31 = some ⟨3, 1, b31⟩ := rfl
theorem T32 : txt.T 32 = some ⟨3, 1, b32⟩ := rfl
theorem T33 : txt.T 33 = some ⟨5, 1, b33⟩ := rfl
theorem comp_copy {bind : D → Ip.Env → Option Ip.Env} {ok : Sto → Prop} {ρ : Ip.Env} {turn : List D → Ip.Env → Sto → (List D → Sto → Prop) → Prop} {K : List D → Sto → Prop} {S0 : Sto} (hok : ok S0) : ∀ (xs ini : List D),
    (∀ x ∈ xs, ∀ (acc : List D) (K' : List D → Sto → Prop), acc.length < 4000 → K' (acc ++ [x]) S0 → ∃ ρ1, bind x ρ = some ρ1 ∧ turn acc ρ1 S0 K') → ini.length + xs.length ≤ 4000 → K (ini ++ xs) S0 → loopC bind ok ρ turn K xs ini S0
  | [], ini, _, _, fin => by simpa [loopC] using fin
  | x :: xs, ini, h, hl, fin => by
    simp only [List.length_cons] at hl
    obtain ⟨ρ1, e, z⟩ := h x List.mem_cons_self ini (fun acc' S' => ok S' ∧ loopC bind ok ρ turn K xs acc' S') (by omega)
      ⟨hok, comp_copy hok xs (ini ++ [x]) (fun y hy => h y (List.mem_cons_of_mem _ hy)) (by simp; omega) (by simpa using fin)⟩
    simp only [loopC, e]
    exact z
theorem add_lst {S : Sto} {a b : Nat} {xs ys : List D} {R : RD} (h1 : S[a]? = some (.lst xs)) (h2 : S[b]? = some (.lst ys)) (hl : xs.length + ys.length ≤ 8000) (q : R (.ref S.length) (S ++ [.lst (xs ++ ys)])) : oBin .Add (.ref a) (.ref b) S R :=
  ⟨xs, ys, h1, h2, by rw [sizeLine_eq]; omega, q⟩
/-- a new list comes back -/
def Nw (S : Sto) (ds : List D) (R : RD) : Prop := ∀ S' r, Fr [] S S' → S.length ≤ r → S'[r]? = some (.lst ds) → R (.ref r) S'
theorem Nw.fr {S S1 : Sto} {ds : List D} {R : RD} (q : Nw S ds R) (f : Fr [] S S1) : Nw S1 ds R := fun S' r f' l e => q S' r (f.trans f') (Nat.le_trans f.len l) e
theorem Nw.push {S S1 : Sto} {ds : List D} {R : RD} (q : Nw S ds R) (f : Fr [] S S1) : R (.ref S1.length) (S1 ++ [.lst ds]) := q _ _ (f.trans .push) f.len at_push
/-! ### the names of trees -/
def Ex.names : Ex → List Str
  | .num _ => []
  | .var x => [x]
  | .two _ a b => a.names ++ b.names
def Co.names : Co → List Str
  | .tru => []
  | .cmp _ a b => a.names ++ b.names
  | .not c => c.names
  | .two _ a b => a.names ++ b.names
inductive Fm where
  | ex (e : Ex) | co (c : Co)
def Fm.d : Fm → D
  | .ex e => e.d
  | .co c => c.d
def Fm.names : Fm → List Str
  | .ex e => e.names
  | .co c => c.names
def Fm.ok (names : List Str) : Fm → Nat → Prop
  | .ex e, n => e.ok names n
  | .co c, n => c.ok names n
/-- the trees within -/
def Fm.parts : Fm → List Fm
  | .ex (.num _) => []
  | .ex (.var _) => []
  | .ex (.two _ a b) => [.ex a, .ex b]
  | .co .tru => []
  | .co (.cmp _ a b) => [.ex a, .ex b]
  | .co (.not c) => [.co c]
  | .co (.two _ a b) => [.co a, .co b]
theorem Fm.parts_ok {names : List Str} : ∀ {f : Fm} {n : Nat}, f.ok names (n + 1) → ∀ g ∈ f.parts, g.ok names n
  | .ex (.num _), _, _, g, h => by simp [Fm.parts] at h
  | .ex (.var _), _, _, g, h => by simp [Fm.parts] at h
  | .ex (.two _ a b), n, k, g, h => by
    simp only [Fm.parts, List.mem_cons, List.not_mem_nil, or_false] at h
    rcases h with rfl | rfl
    · exact k.2.1
    · exact k.2.2
  | .co .tru, _, _, g, h => by simp [Fm.parts] at h
  | .co (.cmp _ a b), n, k, g, h => by
    simp only [Fm.parts, List.mem_cons, List.not_mem_nil, or_false] at h
    rcases h with rfl | rfl
    · exact k.2.1
    · exact k.2.2
  | .co (.not c), n, k, g, h => by
    simp only [Fm.parts, List.mem_cons, List.not_mem_nil, or_false] at h
    subst h
    exact k
  | .co (.two _ a b), n, k, g, h => by
    simp only [Fm.parts, List.mem_cons, List.not_mem_nil, or_false] at h
    rcases h with rfl | rfl
    · exact k.2.1
    · exact k.2.2
theorem Fm.ok_pos {names : List Str} : ∀ {f : Fm} {n : Nat}, f.ok names n → ∃ m, n = m + 1
  | .ex e, 0, h => by cases e <;> exact h.elim
  | .co c, 0, h => by cases c <;> exact h.elim
  | _, m + 1, _ => ⟨m, rfl⟩
/-- a tree is a name, or has trees and others within -/
theorem Fm.shape {names : List Str} {f : Fm} {n : Nat} (h : f.ok names n) : (∃ x, f = .ex (.var x)) ∨ ∃ w r, f.d = .tup (.str w :: r) ∧ PyData.strOk w = true ∧ (w = "var") = False ∧ f.names = f.parts.flatMap Fm.names ∧ ((r = f.parts.map Fm.d) ∨ ∃ i, r = [.int i] ∧ f.parts = []) := by
  cases f with
  | ex e => cases e with
    | num i => exact .inr ⟨"num", [.int i], rfl, sk_num, by simp only [ofString_inj, String.reduceEq], rfl, .inr ⟨i, rfl, rfl⟩⟩
    | var x => exact .inl ⟨x, rfl⟩
    | two op a b =>
      obtain ⟨m, rfl⟩ := Fm.ok_pos h
      have h1 := h.1
      refine .inr ⟨op, [a.d, b.d], rfl, ?_, ?_, by simp [Fm.parts, Fm.names, Ex.names], .inl rfl⟩
      · simp only [ops, List.mem_cons, List.not_mem_nil, or_false] at h1
        rcases h1 with rfl | rfl | rfl | rfl | rfl <;> first | exact sk_add | exact sk_less_by | exact sk_times | exact sk_least | exact sk_most
      · simp only [ops, List.mem_cons, List.not_mem_nil, or_false] at h1
        rcases h1 with rfl | rfl | rfl | rfl | rfl <;> simp only [ofString_inj, String.reduceEq]
  | co c => cases c with
    | tru => exact .inr ⟨"true", [], rfl, sk_true, by simp only [ofString_inj, String.reduceEq], rfl, .inl rfl⟩
    | cmp op a b =>
      obtain ⟨m, rfl⟩ := Fm.ok_pos h
      have h1 := h.1
      refine .inr ⟨op, [a.d, b.d], rfl, ?_, ?_, by simp [Fm.parts, Fm.names, Co.names], .inl rfl⟩
      · rcases h1 with rfl | rfl <;> first | exact sk_is | exact sk_below
      · rcases h1 with rfl | rfl <;> simp only [ofString_inj, String.reduceEq]
    | not c => exact .inr ⟨"not", [c.d], rfl, sk_not, by simp only [ofString_inj, String.reduceEq], by simp [Fm.parts, Fm.names, Co.names], .inl rfl⟩
    | two op a b =>
      obtain ⟨m, rfl⟩ := Fm.ok_pos h
      have h1 := h.1
      refine .inr ⟨op, [a.d, b.d], rfl, ?_, ?_, by simp [Fm.parts, Fm.names, Co.names], .inl rfl⟩
      · rcases h1 with rfl | rfl <;> first | exact sk_and | exact sk_or
      · rcases h1 with rfl | rfl <;> simp only [ofString_inj, String.reduceEq]
theorem Fm.d_tup : ∀ f : Fm, ∃ ds, f.d = .tup ds
  | .ex (.num _) => ⟨_, rfl⟩
  | .ex (.var _) => ⟨_, rfl⟩
  | .ex (.two _ _ _) => ⟨_, rfl⟩
  | .co .tru => ⟨_, rfl⟩
  | .co (.cmp _ _ _) => ⟨_, rfl⟩
  | .co (.not _) => ⟨_, rfl⟩
  | .co (.two _ _ _) => ⟨_, rfl⟩
theorem readnames_s {names : List Str} : ∀ (n : Nat) (f : Fm) {l : Nat} {S : Sto} {R : RD} {E : Exn → Sto → Prop}, f.ok names n → f.names.length ≤ 4000 → n ≤ l → Nw S (f.names.map .str) R → SEM txt.T l 32 [f.d] S R E := by
  intro n
  induction n with
  | zero => intro f l S R E h _ _ _; obtain ⟨m, e⟩ := Fm.ok_pos h; cases e
  | succ n ih =>
    intro f l S R E h hn hl q
    obtain ⟨l, rfl⟩ := Nat.exists_eq_add_of_le' hl
    rw [← Nat.add_assoc]
    refine sem_def T32 rfl ?_
    simp only [b32]
    rcases Fm.shape h with ⟨x, rfl⟩ | ⟨w, r, e, w1, w2, e3, hr⟩
    · simp only [Fm.d, Ex.d]
      walk_at "go"
      exact q.push .refl
    · rw [e]
      walk_at "go"
      simp only [run_eqs, w1, sk_var, w2, decide_false]
      walk_at "go"
      rcases hr with rfl | ⟨i, rfl, e4⟩
      · refine comp_flat (g := Fm.d) (F := fun g : Fm => g.names.map .str) (ex := []) f.parts [] (fun g hg acc S1 K' ha f1 nx => ⟨_, rfl, ?_⟩) (fun _ _ => trivial) ?_ fun S' f' => ?_
        · obtain ⟨gs, eg⟩ := Fm.d_tup g
          rw [eg]
          walk_at "go"
          rw [← eg]
          simp only [List.length_map] at ha
          refine ih g (Fm.parts_ok h g hg) (by omega) (by omega) fun S2 r2 f2 l2 e2 => ?_
          refine ⟨g.names.map .str, lst_of e2, comp_copy (lst_of e2) _ _ (fun x hx acc K' ha hK => ⟨_, rfl, ?_⟩) (by simpa using ha) (nx _ f2)⟩
          walk_at "go"
          exact ⟨lt_sz ha, hK⟩
        · rw [← List.map_flatMap, ← e3]; simpa using hn
        · rw [← List.map_flatMap, ← e3]
          exact q.push f'
      · have e5 : f.names = [] := by rw [e3, e4]; rfl
        rw [e5] at q
        refine comp_flat (F := fun _ => []) (g := fun i : Int => D.int i) (ex := []) [i] [] (fun g hg acc S1 K' ha f1 nx => ⟨_, rfl, ?_⟩) (fun _ _ => trivial) (by simp) fun S' f' => ?_
        rotate_left
        · exact q.push f'
        walk_at "go"
        have := nx S1 .refl
        rw [List.append_nil] at this
        exact this
/-! ### the nodes of statements -/
mutual
def St.nodes : St → List St
  | .act a => [.act a]
  | .hold op c ss => .hold op c ss :: ss.nodes
  | .seq ss => ss.nodes
def Sts.nodes : Sts → List St
  | .nil => []
  | .cons s r => s.nodes ++ r.nodes
end
theorem Sts.nodes_eq : ∀ ss : Sts, ss.nodes = ss.list.flatMap St.nodes
  | .nil => rfl
  | .cons s r => by simp [Sts.nodes, Sts.list, Sts.nodes_eq r]
mutual
theorem St.nodes_len : ∀ s : St, s.nodes.length = s.size
  | .act _ => rfl
  | .hold _ _ ss => by simp [St.nodes, St.size, Sts.nodes_len ss]
  | .seq ss => by simp [St.nodes, St.size, Sts.nodes_len ss]
theorem Sts.nodes_len : ∀ s : Sts, s.nodes.length = s.size
  | .nil => rfl
  | .cons s r => by simp [Sts.nodes, Sts.size, St.nodes_len s, Sts.nodes_len r]
end
def St.parts : St → List St
  | .act _ => []
  | .hold _ _ ss => ss.list
  | .seq ss => ss.list
def St.own : St → List St
  | .seq _ => []
  | s => [s]
theorem St.nodes_eq : ∀ s : St, s.nodes = s.own ++ s.parts.flatMap St.nodes
  | .act _ => rfl
  | .hold _ _ ss => by simp [St.nodes, St.own, St.parts, Sts.nodes_eq]
  | .seq ss => by simp [St.nodes, St.own, St.parts, Sts.nodes_eq]
theorem parts_s {names : List Str} {s : St} {n l : Nat} {S : Sto} {R : RD} {E : Exn → Sto → Prop} (h : s.ok names n) (q : R (.tup (s.parts.map St.d)) S) : SEM txt.T (l + 1) 28 [s.d] S R E := by
  refine sem_def T28 rfl ?_
  simp only [b28]
  cases s with
  | act a => cases a <;> simp only [St.d, Act.d] <;> walk_at "go" <;> exact q
  | hold op c ss =>
    obtain ⟨_, _, h, _⟩ := h
    simp only [St.parts, ← Sts.ds_eq] at q
    rcases h with ⟨rfl, _⟩ | ⟨rfl, _⟩ <;> simp only [St.d] <;> walk_at "go" <;> exact q
  | seq ss =>
    simp only [St.parts, ← Sts.ds_eq] at q
    simp only [St.d]
    walk_at "go"
    exact q
theorem stin_s {names : List Str} : ∀ (s : St) {n l : Nat} {S : Sto} {R : RD} {E : Exn → Sto → Prop}, s.ok names n → s.size ≤ 4000 → 4 * n + 5 + s.x ≤ l → Nw S (s.nodes.map St.d) R → SEM txt.T l 29 [s.d] S R E := by
  have key : ∀ (s : St), (∀ t ∈ s.parts, ∀ {n l : Nat} {S : Sto} {R : RD} {E : Exn → Sto → Prop}, t.ok names n → t.size ≤ 4000 → 4 * n + 5 + t.x ≤ l → Nw S (t.nodes.map St.d) R → SEM txt.T l 29 [t.d] S R E) →
      ∀ {n l : Nat} {S : Sto} {R : RD} {E : Exn → Sto → Prop}, s.ok names n → s.size ≤ 4000 → 4 * n + 5 + s.x ≤ l → Nw S (s.nodes.map St.d) R → SEM txt.T l 29 [s.d] S R E := by
    intro s ih n l S R E h hz hl q
    obtain ⟨l, rfl⟩ : ∃ j, l = j + 1 + 1 := ⟨l - 2, by omega⟩
    refine sem_def T29 rfl ?_
    have hz' := hz
    rw [← St.nodes_len, St.nodes_eq, List.length_append] at hz
    have sub : ∀ t ∈ s.parts, t.size ≤ 4000 ∧ ∃ m, t.ok names m ∧ 4 * m + 5 + t.x ≤ l + 1 := by
      intro t ht
      refine ⟨?_, ?_⟩
      · have : t.nodes.length ≤ (s.parts.flatMap St.nodes).length := by
          obtain ⟨a, b, e⟩ := List.append_of_mem ht
          rw [e]
          simp only [List.flatMap_append, List.flatMap_cons, List.length_append]
          omega
        rw [St.nodes_len] at this
        omega
      · cases s with
        | act a => simp [St.parts] at ht
        | hold op c ss =>
          obtain ⟨h0, _, _, hss⟩ := h
          have x3 := @St.x_le t
          simp only [St.x] at hl
          exact ⟨n - 1, (Sts.ok_iff ss).mp hss t ht, by omega⟩
        | seq ss =>
          obtain ⟨_, hp, hss⟩ := h
          have x0 := St.x_plain ((Sts.plain_iff ss).mp hp t ht)
          simp only [St.x] at hl
          exact ⟨n, (Sts.ok_iff ss).mp hss t ht, by omega⟩
    rw [St.nodes_eq, List.map_append] at q
    have rest : ∀ (a : Nat) (S1 : Sto), Fr [] S S1 → S1[a]? = some (.lst (s.own.map St.d)) → WSs (SEM txt.T (l + 1)) (b29.drop 1) (EndR R) [some s.d, some (.ref a), none, none] S1 fun x _ S' => E x S' := by
      intro a S1 f1 ha
      simp only [b29, List.drop_succ_cons, List.drop_zero]
      walk_at "go"
      refine parts_s h ?_
      walk_at "go"
      refine comp_flat (g := St.d) (F := fun t : St => t.nodes.map St.d) (ex := []) s.parts [] (fun t ht acc S2 K' hacc f2 nx => ⟨_, rfl, ?_⟩) (fun _ _ => trivial) ?_ fun S2 f2 => ?_
      · walk_at "go"
        obtain ⟨tz, m, tm, tl⟩ := sub t ht
        refine ih t ht tm tz tl fun S3 r3 f3 l3 e3 => ?_
        refine ⟨t.nodes.map St.d, lst_of e3, comp_copy (lst_of e3) _ _ (fun x hx acc K' ha hK => ⟨_, rfl, ?_⟩) hacc (nx _ f3)⟩
        walk_at "go"
        exact ⟨lt_sz ha, hK⟩
      · rw [← List.map_flatMap]
        simp only [List.length_nil, List.length_map, Nat.zero_add]
        omega
      · rw [← List.map_flatMap]
        refine add_lst (xs := s.own.map St.d) (ys := (s.parts.flatMap St.nodes).map St.d) ((f2.trans .push).at ha (by simp)) at_push ?_ ?_
        · simp only [List.length_map]; omega
        · exact q.push (f1.trans (f2.trans .push))
    have hb : b29 = b29.getD 0 .pass :: b29.drop 1 := rfl
    rw [hb]
    generalize b29.drop 1 = tl at rest ⊢
    simp only [b29, List.getD_cons_zero]
    cases s with
    | act a => cases a <;> simp only [St.d, Act.d] at rest ⊢ <;> walk_at "go" <;> exact rest _ _ .push at_push
    | hold op c ss =>
      obtain ⟨_, _, h, _⟩ := h
      rcases h with ⟨rfl, _⟩ | ⟨rfl, _⟩ <;> simp only [St.d] at rest ⊢ <;> walk_at "go" <;> exact rest _ _ .push at_push
    | seq ss =>
      simp only [St.d] at rest ⊢
      walk_at "go"
      exact rest _ _ .push at_push
  exact St.ind (fun a => key _ fun t ht => by simp [St.parts] at ht) (fun op c ss ih => key (.hold op c ss) ih) (fun ss ih => key (.seq ss) ih)
end K03

-- K03_E
set_option Elab.async false
set_option linter.all false
set_option maxRecDepth 100000
namespace K03
open PySem L2 PyProof.Rows
open Ip hiding start
local macro_rules | `(tactic| walk_at "run") => `(tactic| simp only [WSs, WS, Ip.WE, WA, WT, WO, WI, WF, Ip.start, List.length_cons, List.length_nil, List.map_cons, List.map_nil, List.cons_append, List.nil_append, List.replicate, Nat.zero_add, Nat.reduceAdd, Nat.reduceSub, List.getElem?_cons_zero, List.getElem?_cons_succ, List.set_cons_zero, List.set_cons_succ, bindT, bindA])
local macro_rules | `(tactic| walk_at "go") => `(tactic| try simp only [WSs, WS, Ip.WE, WA, WT, WO, WI, WF, Ip.start, wipeD, recv, List.length_cons, List.length_nil, List.length_map, List.map_cons, List.map_nil, List.cons_append, List.nil_append, List.replicate, Nat.zero_add, Nat.reduceAdd, Nat.reduceSub, List.getElem?_cons_zero, List.getElem?_cons_succ, List.set_cons_zero, List.set_cons_succ, bindT, bindA,
  Option.bind_some, run_exbl, run_exint, run_trbl, run_ix0, run_ix1, run_ix2, run_ix3, run_add, run_sub, run_lt, run_le, run_gt, run_ge, run_eqi, run_nei, run_eqs, run_nes, run_ins, run_nins, run_isnon, run_isnnon, run_len, run_min, run_max, run_int, run_any1, run_any0, run_all1, run_all0, run_eqF, run_isT1, run_isT2, run_isT3, run_isT4, run_isT5, run_isT6, run_fl1, run_nn1, run_nn2, run_s0, run_s1, run_s2, run_s3, run_s4, run_s5, run_s6, run_cut1, run_cut2, run_itT, run_itO, run_itR, run_slT, run_augA, run_augS,
  sk_num, sk_var, sk_add, sk_less_by, sk_times, sk_least, sk_most, sk_true, sk_is, sk_below, sk_not, sk_and, sk_or, sk_skip, sk_set, sk_draw, sk_choose, sk_see, sk_if, sk_while, sk_seq,
  ofString_inj, String.reduceEq, ↓reduceIte, Bool.false_eq_true, decide_true, decide_false, Bool.not_true, Bool.not_false, Bool.or_true, Bool.true_or, Bool.or_false, Bool.false_or, Bool.and_true, Bool.true_and, Bool.and_false, Bool.false_and, true_and, and_true, Int.cast_ofNat_Int, Int.reduceLT, Int.reduceLE, Int.reduceEq, Int.reduceSub, Int.reduceAdd, Int.reduceNeg, Nat.reduceEqDiff, Bool.not_eq_true, Int.ofNat_eq_natCast, Int.reduceGT, gt_iff_lt, ge_iff_le])
theorem T10 : txt.T 10 = some ⟨5, 2, b10⟩ := rfl
theorem T34 : txt.T 34 = some ⟨2, 1, b34⟩ := rfl
theorem T35 : txt.T 35 = some ⟨4, 1, b35⟩ := rfl
theorem T36 : txt.T 36 = some ⟨1, 1, b36⟩ := rfl
theorem T37 : txt.T 37 = some ⟨4, 1, b37⟩ := rfl
theorem T38 : txt.T 38 = some ⟨1, 1, b38⟩ := rfl
theorem T39 : txt.T 39 = some ⟨1, 1, b39⟩ := rfl
/-! ### what a node changes and reads -/
def St.chg : St → List Str
  | .act (.set x _) => [x]
  | .act (.draw x _) => [x]
  | .act (.choose x _) => [x]
  | _ => []
def St.forms : St → List Fm
  | .act (.set _ e) => [.ex e]
  | .act (.draw _ ps) => ps.map fun p => .ex p.1
  | .act (.choose _ es) => es.map .ex
  | .act (.see c) => [.co c]
  | .act .skip => []
  | .hold _ c _ => [.co c]
  | .seq _ => []
def St.chgs (s : St) : List Str := s.nodes.flatMap St.chg
def St.fms (s : St) : List Fm := s.nodes.flatMap St.forms
def St.rds (s : St) : List Str := s.fms.flatMap Fm.names
/-- a node: no seq, good -/
def Nd (names : List Str) (t : St) : Prop := t.plain ∧ ∃ m, t.ok names m
mutual
theorem St.nodes_nd {names : List Str} : ∀ {s : St} {n : Nat}, s.ok names n → ∀ t ∈ s.nodes, Nd names t
  | .act a, n, h, t, ht => by
    simp only [St.nodes, List.mem_singleton] at ht
    subst ht
    exact ⟨trivial, n, h⟩
  | .hold op c ss, n, h, t, ht => by
    simp only [St.nodes, List.mem_cons] at ht
    rcases ht with rfl | ht
    · exact ⟨trivial, n, h⟩
    · exact Sts.nodes_nd h.2.2.2 t ht
  | .seq ss, n, h, t, ht => Sts.nodes_nd h.2.2 t ht
theorem Sts.nodes_nd {names : List Str} : ∀ {s : Sts} {n : Nat}, s.ok names n → ∀ t ∈ s.nodes, Nd names t
  | .nil, _, _, t, ht => by simp [Sts.nodes] at ht
  | .cons s r, n, h, t, ht => by
    simp only [Sts.nodes, List.mem_append] at ht
    rcases ht with ht | ht
    · exact St.nodes_nd h.1 t ht
    · exact Sts.nodes_nd h.2 t ht
end
theorem nd_hold {names : List Str} {op : Str} {c : Co} {ss : Sts} (h : Nd names (.hold op c ss)) : (op = "if" ∨ op = "while") ∧ c.ok names 5 := by
  obtain ⟨_, m, _, h1, h2, _⟩ := h
  exact ⟨h2.imp (·.1) (·.1), h1⟩
theorem nd_act {names : List Str} {a : Act} (h : Nd names (.act a)) : a.ok names := h.2.elim fun _ h => h.2
theorem Ex.names_len {names : List Str} : ∀ {e : Ex} {n : Nat}, e.ok names n → e.names.length ≤ 2 ^ n ∧ ∀ x ∈ e.names, x ∈ names
  | .num _, n, _ => ⟨Nat.zero_le _, fun _ h => (List.not_mem_nil h).elim⟩
  | .var x, n, h => ⟨Nat.one_le_two_pow, fun y hy => by
    simp only [Ex.names, List.mem_singleton] at hy
    subst hy
    cases n with
    | zero => exact h.elim
    | succ n => exact h⟩
  | .two op a b, 0, h => h.elim
  | .two op a b, n + 1, h => by
    obtain ⟨a1, a2⟩ := Ex.names_len h.2.1
    obtain ⟨b1, b2⟩ := Ex.names_len h.2.2
    refine ⟨?_, fun x hx => (List.mem_append.mp hx).elim (a2 x) (b2 x)⟩
    simp only [Ex.names, List.length_append, Nat.pow_succ]
    omega
theorem Co.names_len {names : List Str} : ∀ {e : Co} {n : Nat}, e.ok names n → e.names.length ≤ 2 ^ n ∧ ∀ x ∈ e.names, x ∈ names
  | .tru, n, _ => ⟨Nat.zero_le _, fun _ h => (List.not_mem_nil h).elim⟩
  | .cmp op a b, 0, h => h.elim
  | .cmp op a b, n + 1, h => by
    obtain ⟨a1, a2⟩ := Ex.names_len h.2.1
    obtain ⟨b1, b2⟩ := Ex.names_len h.2.2
    refine ⟨?_, fun x hx => (List.mem_append.mp hx).elim (a2 x) (b2 x)⟩
    simp only [Co.names, List.length_append, Nat.pow_succ]
    omega
  | .not c, 0, h => h.elim
  | .not c, n + 1, h => by
    obtain ⟨a1, a2⟩ := Co.names_len (e := c) (n := n) h
    refine ⟨?_, a2⟩
    simp only [Co.names, Nat.pow_succ]
    omega
  | .two op a b, 0, h => h.elim
  | .two op a b, n + 1, h => by
    obtain ⟨a1, a2⟩ := Co.names_len h.2.1
    obtain ⟨b1, b2⟩ := Co.names_len h.2.2
    refine ⟨?_, fun x hx => (List.mem_append.mp hx).elim (a2 x) (b2 x)⟩
    simp only [Co.names, List.length_append, Nat.pow_succ]
    omega
theorem nd_forms {names : List Str} {t : St} (h : Nd names t) : t.forms.length ≤ 6 ∧ ∀ f ∈ t.forms, f.ok names 5 := by
  cases t with
  | act a =>
    have ha := nd_act h
    cases a with
    | skip => exact ⟨by simp [St.forms], fun f hf => by simp [St.forms] at hf⟩
    | set x e => exact ⟨by simp [St.forms], fun f hf => by simp only [St.forms, List.mem_singleton] at hf; subst hf; exact ha.2.ok_mono (by decide)⟩
    | draw x ps =>
      refine ⟨by simpa [St.forms] using ha.2.2.1, fun f hf => ?_⟩
      obtain ⟨p, hp, rfl⟩ := List.mem_map.mp hf
      exact (ha.2.2.2 p hp).1.ok_mono (by decide)
    | choose x es =>
      refine ⟨by simpa [St.forms] using ha.2.2.1, fun f hf => ?_⟩
      obtain ⟨p, hp, rfl⟩ := List.mem_map.mp hf
      exact (ha.2.2.2 p hp).ok_mono (by decide)
    | see c => exact ⟨by simp [St.forms], fun f hf => by simp only [St.forms, List.mem_singleton] at hf; subst hf; exact Co.ok_mono (e := c) ha (by decide)⟩
  | hold op c ss => exact ⟨by simp [St.forms], fun f hf => by simp only [St.forms, List.mem_singleton] at hf; subst hf; exact (nd_hold h).2⟩
  | seq ss => exact h.1.elim
theorem nd_chg {names : List Str} {t : St} (h : Nd names t) : t.chg.length ≤ 1 ∧ ∀ x ∈ t.chg, x ∈ names := by
  cases t with
  | act a =>
    have ha := nd_act h
    cases a with
    | skip => exact ⟨by simp [St.chg], fun f hf => by simp [St.chg] at hf⟩
    | set x e => exact ⟨by simp [St.chg], fun f hf => by simp only [St.chg, List.mem_singleton] at hf; subst hf; exact ha.1⟩
    | draw x ps => exact ⟨by simp [St.chg], fun f hf => by simp only [St.chg, List.mem_singleton] at hf; subst hf; exact ha.1⟩
    | choose x es => exact ⟨by simp [St.chg], fun f hf => by simp only [St.chg, List.mem_singleton] at hf; subst hf; exact ha.1⟩
    | see c => exact ⟨by simp [St.chg], fun f hf => by simp [St.chg] at hf⟩
  | hold op c ss => exact ⟨by simp [St.chg], fun f hf => by simp [St.chg] at hf⟩
  | seq ss => exact h.1.elim
theorem flat_len {α β : Type} {f : α → List β} {c : Nat} : ∀ xs : List α, (∀ x ∈ xs, (f x).length ≤ c) → (xs.flatMap f).length ≤ c * xs.length
  | [], _ => by simp
  | x :: xs, h => by
    have h1 := h x (by simp)
    have h2 := flat_len xs fun y hy => h y (by simp [hy])
    simp only [List.flatMap_cons, List.length_append, List.length_cons, Nat.mul_add]
    omega
/-- what holds of the plan's statement -/
structure Whole (names : List Str) (s : St) : Prop where
  ok : s.ok names 12
  size : s.size ≤ 60
theorem Whole.nd {names : List Str} {s : St} (w : Whole names s) : ∀ t ∈ s.nodes, Nd names t := St.nodes_nd w.ok
theorem Whole.nlen {names : List Str} {s : St} (w : Whole names s) : s.nodes.length ≤ 60 := by rw [St.nodes_len]; exact w.size
theorem Whole.chgs {names : List Str} {s : St} (w : Whole names s) : s.chgs.length ≤ 60 ∧ ∀ x ∈ s.chgs, x ∈ names := by
  refine ⟨?_, fun x hx => ?_⟩
  · have := flat_len (f := St.chg) (c := 1) s.nodes fun t ht => (nd_chg (w.nd t ht)).1
    have := w.nlen
    unfold St.chgs
    omega
  · obtain ⟨t, ht, hx⟩ := List.mem_flatMap.mp hx
    exact (nd_chg (w.nd t ht)).2 x hx
theorem Whole.fms {names : List Str} {s : St} (w : Whole names s) : s.fms.length ≤ 360 ∧ ∀ f ∈ s.fms, f.ok names 5 := by
  refine ⟨?_, fun x hx => ?_⟩
  · have := flat_len (f := St.forms) (c := 6) s.nodes fun t ht => (nd_forms (w.nd t ht)).1
    have := w.nlen
    unfold St.fms
    omega
  · obtain ⟨t, ht, hx⟩ := List.mem_flatMap.mp hx
    exact (nd_forms (w.nd t ht)).2 x hx
theorem Fm.names_len {names : List Str} {f : Fm} {n : Nat} (h : f.ok names n) : f.names.length ≤ 2 ^ n ∧ ∀ x ∈ f.names, x ∈ names := by
  cases f with
  | ex e => exact Ex.names_len h
  | co c => exact Co.names_len h
theorem nd_rds {names : List Str} {t : St} (h : Nd names t) : (t.forms.flatMap Fm.names).length ≤ 32 ∧ ∀ x ∈ t.forms.flatMap Fm.names, x ∈ names := by
  refine ⟨?_, fun x hx => ?_⟩
  · cases t with
    | act a =>
      have ha := nd_act h
      cases a with
      | skip => simp [St.forms]
      | set x e =>
        have := (Ex.names_len ha.2).1
        simp only [St.forms, List.flatMap_cons, List.flatMap_nil, List.append_nil, Fm.names]
        omega
      | draw x ps =>
        have := flat_len (f := Fm.names) (c := 4) (St.act (.draw x ps)).forms fun f hf => by
          obtain ⟨p, hp, rfl⟩ := List.mem_map.mp hf
          exact (Ex.names_len (ha.2.2.2 p hp).1).1
        have l6 : (St.act (.draw x ps)).forms.length ≤ 6 := by simpa [St.forms] using ha.2.2.1
        omega
      | choose x es =>
        have := flat_len (f := Fm.names) (c := 4) (St.act (.choose x es)).forms fun f hf => by
          obtain ⟨p, hp, rfl⟩ := List.mem_map.mp hf
          exact (Ex.names_len (ha.2.2.2 p hp)).1
        have l6 : (St.act (.choose x es)).forms.length ≤ 6 := by simpa [St.forms] using ha.2.2.1
        omega
      | see c =>
        have := (Co.names_len (e := c) ha).1
        simp only [St.forms, List.flatMap_cons, List.flatMap_nil, List.append_nil, Fm.names]
        omega
    | hold op c ss =>
      have := (Co.names_len (nd_hold h).2).1
      simp only [St.forms, List.flatMap_cons, List.flatMap_nil, List.append_nil, Fm.names]
      omega
    | seq ss => exact h.1.elim
  · obtain ⟨f, hf, hx⟩ := List.mem_flatMap.mp hx
    exact (Fm.names_len ((nd_forms h).2 f hf)).2 x hx
theorem Whole.rds {names : List Str} {s : St} (w : Whole names s) : s.rds.length ≤ 1920 ∧ ∀ x ∈ s.rds, x ∈ names := by
  have e : s.rds = s.nodes.flatMap fun t => t.forms.flatMap Fm.names := by
    unfold St.rds St.fms
    rw [List.flatMap_assoc]
  rw [e]
  refine ⟨?_, fun x hx => ?_⟩
  · have := flat_len (f := fun t : St => t.forms.flatMap Fm.names) (c := 32) s.nodes fun t ht => (nd_rds (w.nd t ht)).1
    have := w.nlen
    omega
  · obtain ⟨t, ht, hx⟩ := List.mem_flatMap.mp hx
    exact (nd_rds (w.nd t ht)).2 x hx
end K03

-- K03_F
set_option Elab.async false
set_option linter.all false
set_option maxRecDepth 100000
namespace K03
open PySem L2 PyProof.Rows
open Ip hiding start
local macro_rules | `(tactic| walk_at "run") => `(tactic| simp only [WSs, WS, Ip.WE, WA, WT, WO, WI, WF, Ip.start, List.length_cons, List.length_nil, List.map_cons, List.map_nil, List.cons_append, List.nil_append, List.replicate, Nat.zero_add, Nat.reduceAdd, Nat.reduceSub, List.getElem?_cons_zero, List.getElem?_cons_succ, List.set_cons_zero, List.set_cons_succ, bindT, bindA])
local macro_rules | `(tactic| walk_at "go") => `(tactic| try simp only [WSs, WS, Ip.WE, WA, WT, WO, WI, WF, Ip.start, wipeD, recv, List.length_cons, List.length_nil, List.length_map, List.map_cons, List.map_nil, List.cons_append, List.nil_append, List.replicate, Nat.zero_add, Nat.reduceAdd, Nat.reduceSub, List.getElem?_cons_zero, List.getElem?_cons_succ, List.set_cons_zero, List.set_cons_succ, bindT, bindA,
  Option.bind_some, run_exbl, run_exint, run_trbl, run_ix0, run_ix1, run_ix2, run_ix3, run_add, run_sub, run_lt, run_le, run_gt, run_ge, run_eqi, run_nei, run_eqs, run_nes, run_ins, run_nins, run_isnon, run_isnnon, run_len, run_min, run_max, run_int, run_any1, run_any0, run_all1, run_all0, run_eqF, run_isT1, run_isT2, run_isT3, run_isT4, run_isT5, run_isT6, run_fl1, run_nn1, run_nn2, run_s0, run_s1, run_s2, run_s3, run_s4, run_s5, run_s6, run_cut1, run_cut2, run_itT, run_itO, run_itR, run_slT, run_augA, run_augS,
  sk_num, sk_var, sk_add, sk_less_by, sk_times, sk_least, sk_most, sk_true, sk_is, sk_below, sk_not, sk_and, sk_or, sk_skip, sk_set, sk_draw, sk_choose, sk_see, sk_if, sk_while, sk_seq,
  ofString_inj, String.reduceEq, ↓reduceIte, Bool.false_eq_true, decide_true, decide_false, Bool.not_true, Bool.not_false, Bool.or_true, Bool.true_or, Bool.or_false, Bool.false_or, Bool.and_true, Bool.true_and, Bool.and_false, Bool.false_and, true_and, and_true, Int.cast_ofNat_Int, Int.reduceLT, Int.reduceLE, Int.reduceEq, Int.reduceSub, Int.reduceAdd, Int.reduceNeg, Nat.reduceEqDiff, Bool.not_eq_true, Int.ofNat_eq_natCast, Int.reduceGT, gt_iff_lt, ge_iff_le])
/-! ### what is asked of the whole statement -/
theorem Fr.lst {S S' : Sto} {n : Nat} {ds : List D} (f : Fr [] S S') (h : S[n]? = some (.lst ds)) : lstOf S' n = some ds := lst_of (f.at h (by simp))
theorem stin_w {names : List Str} {s : St} (w : Whole names s) {l : Nat} (hl : 60 ≤ l) {S : Sto} {R : RD} {E : Exn → Sto → Prop} (q : Nw S (s.nodes.map St.d) R) : SEM txt.T l 29 [s.d] S R E :=
  stin_s s w.ok (by have := w.size; omega) (by have := @St.x_le s; omega) q
theorem changed_s {names : List Str} {s : St} (w : Whole names s) {l : Nat} (hl : 61 ≤ l) {S : Sto} {R : RD} {E : Exn → Sto → Prop} (q : Nw S (s.chgs.map .str) R) : SEM txt.T l 30 [s.d] S R E := by
  obtain ⟨l, rfl⟩ := Nat.exists_eq_add_of_le' hl
  refine sem_def T30 rfl ?_
  simp only [b30]
  walk_at "go"
  refine stin_w w (by omega) fun S1 r f1 l1 e1 => ?_
  walk_at "go"
  refine ⟨_, lst_of e1, comp_flat (g := St.d) (F := fun t : St => t.chg.map .str) (ex := []) s.nodes [] (fun t ht acc S2 K' ha f2 nx => ⟨_, rfl, ?_⟩) (fun S' f => f.lst e1) ?_ fun S2 f2 => ?_⟩
  · have nd := w.nd t ht
    have n0 := nx S2 .refl
    cases t with
    | act a => cases a <;> simp only [St.d, Act.d, St.chg, List.map_cons, List.map_nil, List.append_nil, List.length_cons, List.length_nil] at ha n0 ⊢ <;> walk_at "go" <;> first | exact n0 | exact ⟨lt_sz (by omega), n0⟩
    | hold op c ss =>
      simp only [St.chg, List.map_nil, List.append_nil] at n0
      rcases (nd_hold nd).1 with rfl | rfl <;> simp only [St.d] <;> walk_at "go" <;> exact n0
    | seq ss => exact nd.1.elim
  · rw [← List.map_flatMap]
    have := w.chgs.1
    unfold St.chgs at this
    simp only [List.length_nil, List.length_map, Nat.zero_add]
    omega
  · rw [← List.map_flatMap]
    exact q.push (f1.trans f2)
theorem forms_s {names : List Str} {t : St} (nd : Nd names t) {l : Nat} {S : Sto} {R : RD} {E : Exn → Sto → Prop} (q : Nw S (t.forms.map Fm.d) R) : SEM txt.T (l + 1) 31 [t.d] S R E := by
  refine sem_def T31 rfl ?_
  simp only [b31]
  cases t with
  | act a =>
    have ha := nd_act nd
    cases a with
    | skip => simp only [St.d, Act.d]; walk_at "go"; exact q.push .refl
    | set x e => simp only [St.d, Act.d]; walk_at "go"; exact q.push .refl
    | see c => simp only [St.d, Act.d]; walk_at "go"; exact q.push .refl
    | draw x ps =>
      have h6 := ha.2.2.1
      simp only [St.d, Act.d]
      walk_at "go"
      refine comp_map (g := pairD) (f := fun p : Ex × Int => p.1.d) ps (fun p hp acc S1 K' ha f1 nx => ⟨_, rfl, ?_⟩) (fun _ _ => trivial) (by omega) fun S1 f1 => ?_
      · walk_at "go"
        exact ⟨lt_sz ha, nx S1 .refl⟩
      · have e : (St.act (.draw x ps)).forms.map Fm.d = ps.map fun p => p.1.d := by simp [St.forms, Fm.d]
        rw [e] at q
        exact q.push f1
    | choose x es =>
      have h6 := ha.2.2.1
      have e : (St.act (.choose x es)).forms.map Fm.d = es.map Ex.d := by
        simp only [St.forms, List.map_map]
        exact List.map_congr_left fun a _ => rfl
      rw [e] at q
      simp only [St.d, Act.d]
      walk_at "go"
      exact ⟨len3 (by simp; omega), q.push .refl⟩
  | hold op c ss =>
    rcases (nd_hold nd).1 with rfl | rfl <;> simp only [St.d] <;> walk_at "go" <;> exact q.push .refl
  | seq ss => exact nd.1.elim
theorem names_s {names : List Str} {s : St} (w : Whole names s) {l : Nat} (hl : 62 ≤ l) {S : Sto} {R : RD} {E : Exn → Sto → Prop} (q : Nw S ((s.chgs ++ s.rds).map .str) R) : SEM txt.T l 33 [s.d] S R E := by
  obtain ⟨l, rfl⟩ := Nat.exists_eq_add_of_le' hl
  have c1 := w.chgs.1
  have c2 := w.rds.1
  have c3 := w.fms.1
  refine sem_def T33 rfl ?_
  simp only [b33]
  walk_at "go"
  refine stin_w w (by omega) fun S1 r f1 l1 e1 => ?_
  walk_at "go"
  refine ⟨_, lst_of e1, comp_flat (g := St.d) (F := fun t : St => t.forms.map Fm.d) (ex := []) s.nodes [] (fun t ht acc S2 K' ha f2 nx => ⟨_, rfl, ?_⟩) (fun S' f => f.lst e1) ?_ fun S2 f2 => ?_⟩
  · walk_at "go"
    refine forms_s (w.nd t ht) fun S3 r3 f3 l3 e3 => ?_
    refine ⟨_, lst_of e3, comp_copy (lst_of e3) _ _ (fun x hx acc K' ha hK => ⟨_, rfl, ?_⟩) ha (nx _ f3)⟩
    walk_at "go"
    exact ⟨lt_sz ha, hK⟩
  · rw [← List.map_flatMap]
    unfold St.fms at c3
    simp only [List.length_nil, List.length_map, Nat.zero_add]
    omega
  · rw [← List.map_flatMap]
    refine changed_s w (by omega) fun S3 r3 f3 l3 e3 => ?_
    have e4 : S3[S2.length]? = some (.lst (s.fms.map Fm.d)) := f3.at at_push (by simp)
    walk_at "go"
    refine ⟨_, lst_of e4, comp_flat (g := Fm.d) (F := fun f : Fm => f.names.map .str) (ex := []) s.fms [] (fun f hf acc S4 K' ha f4 nx => ⟨_, rfl, ?_⟩) (fun S' f => f.lst e4) ?_ fun S5 f5 => ?_⟩
    · have fo := w.fms.2 f hf
      walk_at "go"
      simp only [List.length_map] at ha
      refine readnames_s 5 f fo (by omega) (by omega) fun S5 r5 f5 l5 e5 => ?_
      refine ⟨_, lst_of e5, comp_copy (lst_of e5) _ _ (fun x hx acc K' ha hK => ⟨_, rfl, ?_⟩) (by simpa using ha) (nx _ f5)⟩
      walk_at "go"
      exact ⟨lt_sz ha, hK⟩
    · rw [← List.map_flatMap]
      unfold St.rds at c2
      simp only [List.length_nil, List.length_map, Nat.zero_add]
      omega
    · rw [← List.map_flatMap]
      rw [List.map_append] at q
      refine add_lst (xs := s.chgs.map .str) (ys := (s.fms.flatMap Fm.names).map .str) ((f5.trans .push).at e3 (by simp)) at_push ?_ ?_
      · unfold St.rds at c2
        simp only [List.length_map]
        omega
      · exact q.push (f1.trans (f2.trans (Fr.push.trans (f3.trans (f5.trans .push)))))
end K03

-- K03_G
set_option Elab.async false
set_option linter.all false
set_option maxRecDepth 100000
namespace K03
open PySem L2 PyProof.Rows
open Ip hiding start
local macro_rules | `(tactic| walk_at "run") => `(tactic| simp only [WSs, WS, Ip.WE, WA, WT, WO, WI, WF, Ip.start, List.length_cons, List.length_nil, List.map_cons, List.map_nil, List.cons_append, List.nil_append, List.replicate, Nat.zero_add, Nat.reduceAdd, Nat.reduceSub, List.getElem?_cons_zero, List.getElem?_cons_succ, List.set_cons_zero, List.set_cons_succ, bindT, bindA])
local macro_rules | `(tactic| walk_at "go") => `(tactic| try simp only [WSs, WS, Ip.WE, WA, WT, WO, WI, WF, Ip.start, wipeD, recv, List.length_cons, List.length_nil, List.length_map, List.map_cons, List.map_nil, List.cons_append, List.nil_append, List.replicate, Nat.zero_add, Nat.reduceAdd, Nat.reduceSub, List.getElem?_cons_zero, List.getElem?_cons_succ, List.set_cons_zero, List.set_cons_succ, bindT, bindA,
  Option.bind_some, run_exbl, run_exint, run_trbl, run_ix0, run_ix1, run_ix2, run_ix3, run_add, run_sub, run_lt, run_le, run_gt, run_ge, run_eqi, run_nei, run_eqs, run_nes, run_ins, run_nins, run_isnon, run_isnnon, run_len, run_min, run_max, run_int, run_any1, run_any0, run_all1, run_all0, run_eqF, run_isT1, run_isT2, run_isT3, run_isT4, run_isT5, run_isT6, run_fl1, run_nn1, run_nn2, run_s0, run_s1, run_s2, run_s3, run_s4, run_s5, run_s6, run_cut1, run_cut2, run_itT, run_itO, run_itR, run_slT, run_augA, run_augS,
  sk_num, sk_var, sk_add, sk_less_by, sk_times, sk_least, sk_most, sk_true, sk_is, sk_below, sk_not, sk_and, sk_or, sk_skip, sk_set, sk_draw, sk_choose, sk_see, sk_if, sk_while, sk_seq,
  ofString_inj, String.reduceEq, ↓reduceIte, Bool.false_eq_true, decide_true, decide_false, Bool.not_true, Bool.not_false, Bool.or_true, Bool.true_or, Bool.or_false, Bool.false_or, Bool.and_true, Bool.true_and, Bool.and_false, Bool.false_and, true_and, and_true, Int.cast_ofNat_Int, Int.reduceLT, Int.reduceLE, Int.reduceEq, Int.reduceSub, Int.reduceAdd, Int.reduceNeg, Nat.reduceEqDiff, Bool.not_eq_true, Int.ofNat_eq_natCast, Int.reduceGT, gt_iff_lt, ge_iff_le])
theorem T40 : txt.T 40 = some ⟨1, 1, b40⟩ := rfl
theorem T41 : txt.T 41 = some ⟨1, 1, b41⟩ := rfl
theorem T42 : txt.T 42 = some ⟨1, 1, b42⟩ := rfl
theorem T43 : txt.T 43 = some ⟨2, 1, b43⟩ := rfl
theorem T44 : txt.T 44 = some ⟨2, 1, b44⟩ := rfl
/-! ### variables -/
def varD (v : Str × Int) : D := .tup [.str v.1, .int v.2]
structure VarsOk (vs : List (Str × Int)) : Prop where
  n0 : 1 ≤ vs.length
  n4 : vs.length ≤ 4
  name : ∀ v ∈ vs, NameOk v.1
  sok : ∀ v ∈ vs, PyData.strOk v.1 = true
  size : ∀ v ∈ vs, 2 ≤ v.2 ∧ v.2 ≤ 6
  nd : (vs.map (·.1)).Nodup
  prod : (vs.map (·.2)).prod ≤ 24
theorem cIn_dct {S : Sto} {n : Nat} {x : Str} {ks : List (L2.Key × D)} {R : RD} (h : S[n]? = some (.dct ks)) (q : R (.bl (ks.any fun p => decide (p.1 = .inr x))) S) : oCmp .In (.str x) (.ref n) S R :=
  .inr ⟨ks, .inr x, h, rfl, q⟩
theorem all_bls {S : Sto} {n : Nat} {R : RD} {α : Type} {xs : List α} {f : α → Bool} (h : S[n]? = some (.lst (xs.map fun x => .bl (f x)))) (q : R (.bl (xs.all f)) S) : oBi .all [.ref n] S R := by
  refine ⟨xs.map f, by rw [lst_of h]; simp, ?_⟩
  have : (xs.map f).all id = xs.all f := by simp
  rw [this]; exact q
theorem stand_s {vs : List (Str × Int)} (hv : vs.length ≤ 4) {xs : List Str} (hx : ∀ x ∈ xs, x ∈ vs.map (·.1)) (hl : xs.length ≤ 4000) {r l : Nat} {S : Sto} {R : RD} {E : Exn → Sto → Prop} (e : S[r]? = some (.lst (xs.map .str))) (q : ∀ S', Fr [] S S' → R (.bl true) S') : SEM txt.T (l + 1) 10 [.ref r, .tup (vs.map varD)] S R E := by
  refine sem_def T10 rfl ?_
  simp only [b10]
  walk_at "go"
  refine comp_inv (I := fun ds (acc : List (L2.Key × D)) S1 => ∃ don rem, vs = don ++ rem ∧ ds = rem.map varD ∧ acc.length ≤ don.length ∧ (∀ v ∈ don, (acc.any fun p => decide (p.1 = .inr v.1)) = true) ∧ Fr [] S S1) (fun d ds acc S1 K' i nx => ?_) (fun _ _ _ _ => trivial) (fun acc S1 i => ?_) _ _ _
    ⟨[], vs, rfl, rfl, Nat.le_refl _, fun v h => (List.not_mem_nil h).elim, .refl⟩
  · obtain ⟨don, rem, e1, e2, al, hd, f⟩ := i
    cases rem with
    | nil => cases e2
    | cons v rem =>
      simp only [List.map_cons, List.cons.injEq] at e2
      obtain ⟨rfl, rfl⟩ := e2
      have dl : don.length ≤ 4 := by rw [e1] at hv; simp at hv; omega
      refine ⟨_, rfl, ?_⟩
      walk_at "go"
      refine ⟨.inr v.1, rfl, lt_sz (by omega), nx _ _ ⟨don ++ [v], rem, by rw [e1]; simp, rfl, ?_, fun w hw => ?_, f⟩⟩
      · have := putD_length (ks := acc) (k := .inr v.1) (d := .bl true)
        simp only [List.length_append, List.length_cons, List.length_nil]
        omega
      · rcases List.mem_append.mp hw with hw | hw
        · exact putD_keeps (hd w hw)
        · simp only [List.mem_singleton] at hw
          subst hw
          exact putD_has
  · obtain ⟨don, rem, e1, e2, al, hd, f⟩ := i
    have : rem = [] := by cases rem with
      | nil => rfl
      | cons _ _ => cases e2
    subst this
    rw [List.append_nil] at e1
    subst e1
    have er := (f.trans (.push (c := .dct acc))).at e (by simp)
    walk_at "go"
    refine ⟨_, lst_of er, comp_map (g := .str) (f := fun _ => .bl true) xs (fun x hxs acc' S2 K' ha f2 nx => ⟨_, rfl, ?_⟩) (fun S' f' => f'.lst er) hl fun S2 f2 => ?_⟩
    · walk_at "go"
      refine cIn_dct (f2.at at_push (by simp)) ?_
      obtain ⟨v, hv, rfl⟩ := List.mem_map.mp (hx x hxs)
      rw [hd v hv]
      exact ⟨lt_sz ha, nx S2 .refl⟩
    · refine all_bls (xs := xs) (f := fun _ => true) at_push ?_
      have : xs.all (fun _ => true) = true := by simp
      rw [this]
      exact q _ (f.trans (Fr.push.trans (f2.trans .push)))
theorem arenames_s {xs : List Str} (hn : ∀ x ∈ xs, NameOk x) (nd : xs.Nodup) (hl : xs.length ≤ 4000) {l : Nat} {S : Sto} {R : RD} {E : Exn → Sto → Prop} (q : ∀ S', Fr [] S S' → R (.bl true) S') : SEM txt.T (l + 3) 34 [.tup (xs.map .str)] S R E := by
  refine sem_def T34 rfl ?_
  simp only [b34]
  walk_at "go"
  refine all_s (g := .str) xs (fun x hx acc S1 K' ha nx => ⟨_, rfl, ?_⟩) (fun _ _ => trivial) hl fun S1 f1 => ?_
  · walk_at "go"
    exact hn x hx fun S2 f2 => ⟨lt_sz ha, nx S2 f2⟩
  · refine all_trues at_push ?_
    walk_at "go"
    refine ⟨xs, xs, rfl, hl, nd, fun k => Iff.rfl, ?_⟩
    walk_at "go"
    exact q _ (f1.trans .push)
theorem count_states_s {vs : List (Str × Int)} (h : VarsOk vs) {l : Nat} {S : Sto} {R : RD} {E : Exn → Sto → Prop} (q : R (.int (vs.map (·.2)).prod) S) : SEM txt.T (l + 1) 35 [.tup (vs.map varD)] S R E := by
  refine sem_def T35 rfl ?_
  simp only [b35]
  walk_at "go"
  refine loop_inv (I := fun ds ρ S1 => ∃ don rem y z, vs = don ++ rem ∧ ds = rem.map varD ∧ ρ = [some (.tup (vs.map varD)), some (.int (don.map (·.2)).prod), y, z] ∧ S1 = S ∧ Sz (don.map (·.2)).prod (3 * don.length + 1)) (fun d ds ρ S1 R' i nx ct hr => ?_) (fun _ _ _ _ => trivial) (fun ρ S1 i => ?_) _ _ _
    ⟨[], vs, none, none, rfl, rfl, rfl, rfl, by decide⟩
  · obtain ⟨don, rem, y, z, e1, e2, rfl, rfl, sz⟩ := i
    cases rem with
    | nil => cases e2
    | cons v rem =>
      simp only [List.map_cons, List.cons.injEq] at e2
      obtain ⟨rfl, rfl⟩ := e2
      have hv := h.size v (by rw [e1]; simp)
      have s3 : Sz v.2 3 := by unfold Sz; show v.2.natAbs < 8; omega
      have dl : don.length ≤ 4 := by have := h.n4; rw [e1] at this; simp at this; omega
      refine ⟨_, rfl, ?_⟩
      walk_at "go"
      refine ⟨mulW sz s3 (by omega), nx _ _ ⟨don ++ [v], rem, some (.str v.1), some (.int v.2), by rw [e1]; simp, rfl, by simp [List.prod_append], rfl, ?_⟩⟩
      have := sz.mul s3
      simp only [List.map_append, List.map_cons, List.map_nil, List.prod_append, List.prod_cons, List.prod_nil, Int.mul_one, List.length_append, List.length_cons, List.length_nil]
      exact this.mono (by omega)
  · obtain ⟨don, rem, y, z, e1, e2, rfl, rfl, sz⟩ := i
    have : rem = [] := by cases rem with
      | nil => rfl
      | cons _ _ => cases e2
    subst this
    rw [List.append_nil] at e1
    subst e1
    walk_at "go"
    exact q
theorem sized_s {v : Str × Int} (hn : NameOk v.1) (hs : 2 ≤ v.2 ∧ v.2 ≤ 6) {l : Nat} {S : Sto} {R : RD} {E : Exn → Sto → Prop} (q : ∀ S', Fr [] S S' → R (.bl true) S') : SEM txt.T (l + 3) 36 [varD v] S R E := by
  refine sem_def T36 rfl ?_
  simp only [b36, varD]
  walk_at "go"
  refine tupof_s rfl ?_
  walk_at "go"
  refine hn fun S1 f1 => ?_
  walk_at "go"
  exact between_s hs (q S1 f1)
theorem vars_s {vs : List (Str × Int)} (h : VarsOk vs) {l : Nat} {S : Sto} {R : RD} {E : Exn → Sto → Prop} (q : ∀ S', Fr [] S S' → R (.bl true) S') : SEM txt.T (l + 4) 37 [.tup (vs.map varD)] S R E := by
  refine sem_def T37 rfl ?_
  simp only [b37]
  have z1 : (1 : Int) ≤ (vs.length : Int) := by have := h.n0; omega
  have z2 : (vs.length : Int) ≤ 4 := by have := h.n4; omega
  have n4 := h.n4
  walk_at "go"
  simp only [z1, z2, decide_true, ↓reduceIte, Bool.not_true, Bool.false_eq_true]
  refine all_s (g := varD) vs (fun v hv acc S1 K' ha nx => ⟨_, rfl, ?_⟩) (fun _ _ => trivial) (by omega) fun S1 f1 => ?_
  · walk_at "go"
    exact sized_s (h.name v hv) (h.size v hv) fun S2 f2 => ⟨lt_sz ha, nx S2 f2⟩
  · refine all_trues at_push ?_
    walk_at "go"
    refine comp_map (g := varD) (f := fun v : Str × Int => .str v.1) vs (fun v hv acc S1 K' ha f1 nx => ⟨_, rfl, ?_⟩) (fun _ _ => trivial) (by omega) fun S2 f2 => ?_
    · walk_at "go"
      exact ⟨lt_sz ha, nx S1 .refl⟩
    · refine ⟨_, lst_of at_push, ?_⟩
      have e : (vs.map fun v => D.str v.1) = (vs.map (·.1)).map .str := by simp
      rw [e]
      refine arenames_s (fun x hx => ?_) h.nd (by simp; omega) fun S3 f3 => ?_
      · obtain ⟨v, hv, rfl⟩ := List.mem_map.mp hx
        exact h.name v hv
      · walk_at "go"
        refine count_states_s h ?_
        walk_at "go"
        have := h.prod
        simp only [this, decide_true]
        exact q _ (f1.trans (Fr.push.trans (f2.trans (Fr.push.trans f3))))
def planD (vs : List (Str × Int)) (s : St) : D := .tup [.tup (vs.map varD), s.d]
structure Plan (vs : List (Str × Int)) (s : St) : Prop where
  vars : VarsOk vs
  whole : Whole (vs.map (·.1)) s
theorem Plan.names {vs : List (Str × Int)} {s : St} (p : Plan vs s) : ∀ x ∈ vs.map (·.1), NameOk x := fun x hx => by
  obtain ⟨v, hv, rfl⟩ := List.mem_map.mp hx
  exact p.vars.name v hv
theorem program_s {vs : List (Str × Int)} {s : St} (p : Plan vs s) {l : Nat} (hl : 110 ≤ l) {S : Sto} {R : RD} {E : Exn → Sto → Prop} (q : ∀ S', Fr [] S S' → R (.bl true) S') : SEM txt.T l 38 [planD vs s] S R E := by
  obtain ⟨l, rfl⟩ := Nat.exists_eq_add_of_le' hl
  refine sem_def T38 rfl ?_
  simp only [b38, planD]
  walk_at "go"
  refine tupof_s rfl ?_
  walk_at "go"
  refine vars_s p.vars fun S1 f1 => ?_
  walk_at "go"
  have sz := p.whole.size
  refine count_s p.names s (by omega) (deep := 12) (most := 60) p.whole.ok (by decide) sz (by have := @St.x_le s; omega) fun S2 f2 => ?_
  walk_at "go"
  refine names_s p.whole (by omega) fun S3 r f3 l3 e3 => ?_
  have c1 := p.whole.chgs
  have c2 := p.whole.rds
  refine stand_s p.vars.n4 (fun x hx => (List.mem_append.mp hx).elim (c1.2 x) (c2.2 x)) (by rw [List.length_append]; omega) e3 fun S4 f4 => q _ (f1.trans (f2.trans (f3.trans f4)))
theorem need_s {vs : List (Str × Int)} {s : St} (p : Plan vs s) {l : Nat} (hl : 111 ≤ l) {S : Sto} {R : RD} {E : Exn → Sto → Prop} (q : ∀ S', Fr [] S S' → R .non S') : SEM txt.T l 39 [planD vs s] S R E := by
  obtain ⟨l, rfl⟩ := Nat.exists_eq_add_of_le' hl
  refine sem_def T39 rfl ?_
  simp only [b39]
  walk_at "go"
  refine program_s p (by omega) fun S1 f1 => ?_
  walk_at "go"
  exact q S1 f1
end K03

-- K03_H
set_option Elab.async false
set_option linter.all false
set_option maxRecDepth 100000
namespace K03
open PySem L2 PyProof.Rows
open Ip hiding start
local macro_rules | `(tactic| walk_at "run") => `(tactic| simp only [WSs, WS, Ip.WE, WA, WT, WO, WI, WF, Ip.start, List.length_cons, List.length_nil, List.map_cons, List.map_nil, List.cons_append, List.nil_append, List.replicate, Nat.zero_add, Nat.reduceAdd, Nat.reduceSub, List.getElem?_cons_zero, List.getElem?_cons_succ, List.set_cons_zero, List.set_cons_succ, bindT, bindA])
local macro_rules | `(tactic| walk_at "go") => `(tactic| try simp only [WSs, WS, Ip.WE, WA, WT, WO, WI, WF, Ip.start, wipeD, recv, List.length_cons, List.length_nil, List.length_map, List.map_cons, List.map_nil, List.cons_append, List.nil_append, List.replicate, Nat.zero_add, Nat.reduceAdd, Nat.reduceSub, List.getElem?_cons_zero, List.getElem?_cons_succ, List.set_cons_zero, List.set_cons_succ, bindT, bindA,
  Option.bind_some, run_exbl, run_exint, run_trbl, run_ix0, run_ix1, run_ix2, run_ix3, run_add, run_sub, run_lt, run_le, run_gt, run_ge, run_eqi, run_nei, run_eqs, run_nes, run_ins, run_nins, run_isnon, run_isnnon, run_len, run_min, run_max, run_int, run_any1, run_any0, run_all1, run_all0, run_eqF, run_isT1, run_isT2, run_isT3, run_isT4, run_isT5, run_isT6, run_fl1, run_nn1, run_nn2, run_s0, run_s1, run_s2, run_s3, run_s4, run_s5, run_s6, run_cut1, run_cut2, run_itT, run_itO, run_itR, run_slT, run_augA, run_augS,
  sk_num, sk_var, sk_add, sk_less_by, sk_times, sk_least, sk_most, sk_true, sk_is, sk_below, sk_not, sk_and, sk_or, sk_skip, sk_set, sk_draw, sk_choose, sk_see, sk_if, sk_while, sk_seq,
  ofString_inj, String.reduceEq, ↓reduceIte, Bool.false_eq_true, decide_true, decide_false, Bool.not_true, Bool.not_false, Bool.or_true, Bool.true_or, Bool.or_false, Bool.false_or, Bool.and_true, Bool.true_and, Bool.and_false, Bool.false_and, true_and, and_true, Int.cast_ofNat_Int, Int.reduceLT, Int.reduceLE, Int.reduceEq, Int.reduceSub, Int.reduceAdd, Int.reduceNeg, Nat.reduceEqDiff, Bool.not_eq_true, Int.ofNat_eq_natCast, Int.reduceGT, gt_iff_lt, ge_iff_le])
theorem T8 : txt.T 8 = some ⟨3, 1, b8⟩ := rfl
theorem T9 : txt.T 9 = some ⟨6, 2, b9⟩ := rfl
theorem len3' {n : Nat} (h : n ≤ 4000) : n ≤ sizeLine := by rw [sizeLine_eq]; omega
theorem Fr.setNew {ex : List Nat} {S S' : Sto} {n : Nat} {c : Cell} (f : Fr ex S S') (h : S.length ≤ n) : Fr ex S (S'.set n c) := ⟨by simpa using f.len, fun i hi hn => by
  have : n ≠ i := by omega
  rw [List.getElem?_set_ne this]
  exact f.eq i hi hn⟩
theorem extend_ok {S : Sto} {n k : Nat} {ds es : List D} {R : RD} (h1 : S[n]? = some (.lst ds)) (h2 : S[k]? = some (.lst es)) (hl : ds.length + es.length ≤ 4000) (q : R .non (S.set n (.lst (ds ++ es)))) : oMe .extend (.ref n) [.ref k] S R :=
  ⟨ds, es, h1, h2, len3' hl, q⟩
theorem append_ok {S : Sto} {n : Nat} {ds : List D} {d : D} {R : RD} (h1 : S[n]? = some (.lst ds)) (hl : ds.length < 4000) (q : R .non (S.set n (.lst (ds ++ [d])))) : oMe .append (.ref n) [d] S R :=
  ⟨ds, h1, lt_sz hl, q⟩
theorem named_s {names : List Str} : ∀ (n : Nat) (f : Fm) {l : Nat} {S : Sto} {R : RD} {E : Exn → Sto → Prop}, f.ok names n → f.names.length ≤ 4000 → n ≤ l → Nw S (f.names.map .str) R → SEM txt.T l 8 [f.d] S R E := by
  intro n
  induction n with
  | zero => intro f l S R E h _ _ _; obtain ⟨m, e⟩ := Fm.ok_pos h; cases e
  | succ n ih =>
    intro f l S R E h hn hl q
    obtain ⟨l, rfl⟩ := Nat.exists_eq_add_of_le' hl
    rw [← Nat.add_assoc]
    refine sem_def T8 rfl ?_
    simp only [b8]
    rcases Fm.shape h with ⟨x, rfl⟩ | ⟨w, r, e, w1, w2, e3, hr⟩
    · simp only [Fm.d, Ex.d]
      walk_at "go"
      exact q.push .refl
    · rw [e]
      walk_at "go"
      simp only [run_eqs, w1, sk_var, w2, decide_false]
      walk_at "go"
      rcases hr with rfl | ⟨i, rfl, e4⟩
      · rw [e3, List.map_flatMap] at q
        rw [e3] at hn
        refine loop_inv (I := fun ds ρ S1 => ∃ don rem y, f.parts = don ++ rem ∧ ds = rem.map Fm.d ∧ ρ = [some (.tup (.str w :: f.parts.map Fm.d)), some (.ref S.length), y] ∧ Fr [] S S1 ∧ S1[S.length]? = some (.lst (don.flatMap fun g => g.names.map .str))) (fun d ds ρ S1 R' i nx ct hr => ?_) (fun _ _ _ _ => trivial) (fun ρ S1 i => ?_) _ _ _
          ⟨[], f.parts, none, rfl, rfl, rfl, .push, at_push⟩
        · obtain ⟨don, rem, y, e1, e2, rfl, f1, hc⟩ := i
          cases rem with
          | nil => cases e2
          | cons g rem =>
            simp only [List.map_cons, List.cons.injEq] at e2
            obtain ⟨rfl, rfl⟩ := e2
            obtain ⟨gs, eg⟩ := Fm.d_tup g
            refine ⟨_, rfl, ?_⟩
            rw [eg]
            walk_at "go"
            rw [← eg]
            have hl2 : (don.flatMap Fm.names).length + g.names.length ≤ 4000 := by
              rw [e1] at hn
              simp only [List.flatMap_append, List.flatMap_cons, List.length_append] at hn
              omega
            refine ⟨⟨S.length, _, rfl, lst_of hc⟩, ih g (Fm.parts_ok h g (by rw [e1]; simp)) (by omega) (by omega) fun S2 r2 f2 l2 e4 => ?_⟩
            have hc2 := f2.at hc (by simp)
            refine extend_ok hc2 e4 (by rw [← List.map_flatMap]; simpa using hl2) ?_
            refine nx _ _ ⟨don ++ [g], rem, some g.d, by rw [e1]; simp, rfl, rfl, (f1.trans f2).setNew (Nat.le_refl _), ?_⟩
            rw [set_at (lt_at hc2)]
            simp
        · obtain ⟨don, rem, y, e1, e2, rfl, f1, hc⟩ := i
          have : rem = [] := by cases rem with
            | nil => rfl
            | cons _ _ => cases e2
          subst this
          rw [List.append_nil] at e1
          subst e1
          walk_at "go"
          exact q S1 _ f1 (Nat.le_refl _) hc
      · have e5 : f.names = [] := by rw [e3, e4]; rfl
        rw [e5] at q
        simp only [loopF]
        refine ⟨trivial, ?_⟩
        exact q.push .refl
/-! ### the law's walk -/
structure Cells (r a b c : Nat) (A B C : List D) (S : Sto) : Prop where
  hr : S[r]? = some (.lst [.ref a, .ref b, .ref c])
  ha : S[a]? = some (.lst A)
  hb : S[b]? = some (.lst B)
  hc : S[c]? = some (.lst C)
structure Dst (r a b c : Nat) : Prop where
  ra : r ≠ a
  rb : r ≠ b
  rc : r ≠ c
  ab : a ≠ b
  ac : a ≠ c
  bc : b ≠ c
section
variable {r a b c : Nat} {A B C : List D} {S S' : Sto} (z : Dst r a b c)
theorem Cells.fr (k : Cells r a b c A B C S) (f : Fr [] S S') : Cells r a b c A B C S' := ⟨f.at k.hr (by simp), f.at k.ha (by simp), f.at k.hb (by simp), f.at k.hc (by simp)⟩
include z in
theorem Cells.setA (k : Cells r a b c A B C S) {A' : List D} : Cells r a b c A' B C (S.set a (.lst A')) :=
  ⟨by rw [List.getElem?_set_ne z.ra.symm]; exact k.hr, set_at (lt_at k.ha), by rw [List.getElem?_set_ne z.ab]; exact k.hb, by rw [List.getElem?_set_ne z.ac]; exact k.hc⟩
include z in
theorem Cells.setB (k : Cells r a b c A B C S) {B' : List D} : Cells r a b c A B' C (S.set b (.lst B')) :=
  ⟨by rw [List.getElem?_set_ne z.rb.symm]; exact k.hr, by rw [List.getElem?_set_ne z.ab.symm]; exact k.ha, set_at (lt_at k.hb), by rw [List.getElem?_set_ne z.bc]; exact k.hc⟩
include z in
theorem Cells.setC (k : Cells r a b c A B C S) {C' : List D} : Cells r a b c A B C' (S.set c (.lst C')) :=
  ⟨by rw [List.getElem?_set_ne z.rc.symm]; exact k.hr, by rw [List.getElem?_set_ne z.ac.symm]; exact k.ha, by rw [List.getElem?_set_ne z.bc.symm]; exact k.hb, set_at (lt_at k.hc)⟩
theorem Cells.ix0 (k : Cells r a b c A B C S) {R : RD} (q : R (.ref a) S) : oIx (.ref r) (.int 0) S R := ix_lst k.hr (j := 0) rfl rfl q
theorem Cells.ix1 (k : Cells r a b c A B C S) {R : RD} (q : R (.ref b) S) : oIx (.ref r) (.int 1) S R := ix_lst k.hr (j := 1) rfl rfl q
theorem Cells.ix2 (k : Cells r a b c A B C S) {R : RD} (q : R (.ref c) S) : oIx (.ref r) (.int 2) S R := ix_lst k.hr (j := 2) rfl rfl q
end
def St.wds (s : St) : List Str := s.nodes.map St.word
/-- behind the walk -/
def WalkQ (r a b c : Nat) (A B C : List D) (s : St) (S : Sto) (P : Sto → Prop) : Prop := ∀ S', Cells r a b c (A ++ s.rds.map .str) (B ++ s.chgs.map .str) (C ++ s.wds.map .str) S' → Fr [a, b, c] S S' → P S'
theorem walk_loop {bind : D → Ip.Env → Option Ip.Env} {body : TSD} {R : EndsD} {E : XD} {mk : Option D → Ip.Env} {r a b c : Nat} {A B C : List D} {S : Sto} (ss : List St)
    (turn : ∀ t ∈ ss, ∀ (A B C : List D) S1 y (R' : EndsD), Cells r a b c A B C S1 → A.length + t.rds.length ≤ 4000 → B.length + t.chgs.length ≤ 4000 → C.length + t.wds.length ≤ 4000 → (∀ y, WalkQ r a b c A B C t S1 (R'.nx (mk y))) → ∃ ρ1, bind t.d (mk y) = some ρ1 ∧ body R' ρ1 S1 E)
    (k : Cells r a b c A B C S) (hA : A.length + (ss.flatMap St.rds).length ≤ 4000) (hB : B.length + (ss.flatMap St.chgs).length ≤ 4000) (hC : C.length + (ss.flatMap St.wds).length ≤ 4000)
    (fin : ∀ y S', Cells r a b c (A ++ (ss.flatMap St.rds).map .str) (B ++ (ss.flatMap St.chgs).map .str) (C ++ (ss.flatMap St.wds).map .str) S' → Fr [a, b, c] S S' → R.nx (mk y) S') (y : Option D) : loopF bind (fun _ => True) body R E (ss.map St.d) (mk y) S := by
  refine loop_inv (I := fun ds ρ S1 => ∃ don rem y, ss = don ++ rem ∧ ds = rem.map St.d ∧ ρ = mk y ∧ Cells r a b c (A ++ (don.flatMap St.rds).map .str) (B ++ (don.flatMap St.chgs).map .str) (C ++ (don.flatMap St.wds).map .str) S1 ∧ Fr [a, b, c] S S1)
    (fun d ds ρ S1 R' i nx ct hr => ?_) (fun _ _ _ _ => trivial) (fun ρ S1 i => ?_) _ _ _ ⟨[], ss, y, rfl, rfl, rfl, by simpa using k, .refl⟩
  · obtain ⟨don, rem, y, e1, e2, rfl, k1, f⟩ := i
    cases rem with
    | nil => cases e2
    | cons t rem =>
      simp only [List.map_cons, List.cons.injEq] at e2
      obtain ⟨rfl, rfl⟩ := e2
      rw [e1] at hA hB hC
      simp only [List.flatMap_append, List.flatMap_cons, List.length_append] at hA hB hC
      refine turn t (by rw [e1]; simp) _ _ _ S1 y R' k1 (by simp only [List.length_append, List.length_map]; omega) (by simp only [List.length_append, List.length_map]; omega) (by simp only [List.length_append, List.length_map]; omega) fun y S2 k2 f2 => nx _ _ ⟨don ++ [t], rem, y, by rw [e1]; simp, rfl, rfl, ?_, f.trans f2⟩
      simpa [List.append_assoc] using k2
  · obtain ⟨don, rem, y, e1, e2, rfl, k1, f⟩ := i
    have : rem = [] := by cases rem with
      | nil => rfl
      | cons _ _ => cases e2
    subst this
    rw [List.append_nil] at e1
    subst e1
    exact fin y S1 k1 f
end K03

-- K03_I
set_option Elab.async false
set_option linter.all false
set_option maxRecDepth 100000
namespace K03
open PySem L2 PyProof.Rows
open Ip hiding start
local macro_rules | `(tactic| walk_at "run") => `(tactic| simp only [WSs, WS, Ip.WE, WA, WT, WO, WI, WF, Ip.start, List.length_cons, List.length_nil, List.map_cons, List.map_nil, List.cons_append, List.nil_append, List.replicate, Nat.zero_add, Nat.reduceAdd, Nat.reduceSub, List.getElem?_cons_zero, List.getElem?_cons_succ, List.set_cons_zero, List.set_cons_succ, bindT, bindA])
local macro_rules | `(tactic| walk_at "go") => `(tactic| try simp only [WSs, WS, Ip.WE, WA, WT, WO, WI, WF, Ip.start, wipeD, recv, List.length_cons, List.length_nil, List.length_map, List.map_cons, List.map_nil, List.cons_append, List.nil_append, List.replicate, Nat.zero_add, Nat.reduceAdd, Nat.reduceSub, List.getElem?_cons_zero, List.getElem?_cons_succ, List.set_cons_zero, List.set_cons_succ, bindT, bindA,
  Option.bind_some, run_exbl, run_exint, run_trbl, run_ix0, run_ix1, run_ix2, run_ix3, run_add, run_sub, run_lt, run_le, run_gt, run_ge, run_eqi, run_nei, run_eqs, run_nes, run_ins, run_nins, run_isnon, run_isnnon, run_len, run_min, run_max, run_int, run_any1, run_any0, run_all1, run_all0, run_eqF, run_isT1, run_isT2, run_isT3, run_isT4, run_isT5, run_isT6, run_fl1, run_nn1, run_nn2, run_s0, run_s1, run_s2, run_s3, run_s4, run_s5, run_s6, run_cut1, run_cut2, run_itT, run_itO, run_itR, run_slT, run_augA, run_augS,
  sk_num, sk_var, sk_add, sk_less_by, sk_times, sk_least, sk_most, sk_true, sk_is, sk_below, sk_not, sk_and, sk_or, sk_skip, sk_set, sk_draw, sk_choose, sk_see, sk_if, sk_while, sk_seq,
  ofString_inj, String.reduceEq, ↓reduceIte, Bool.false_eq_true, decide_true, decide_false, Bool.not_true, Bool.not_false, Bool.or_true, Bool.true_or, Bool.or_false, Bool.false_or, Bool.and_true, Bool.true_and, Bool.and_false, Bool.false_and, true_and, and_true, Int.cast_ofNat_Int, Int.reduceLT, Int.reduceLE, Int.reduceEq, Int.reduceSub, Int.reduceAdd, Int.reduceNeg, Nat.reduceEqDiff, Bool.not_eq_true, Int.ofNat_eq_natCast, Int.reduceGT, gt_iff_lt, ge_iff_le])
theorem ext_loop {α : Type} {g : α → D} {F : α → List Str} {bind : D → Ip.Env → Option Ip.Env} {body : TSD} {R : EndsD} {E : XD} {mk : Option D → Option D → Ip.Env} {r a b c : Nat} {A B C : List D} {S : Sto} (xs : List α)
    (turn : ∀ x ∈ xs, ∀ (A : List D) S1 u v (R' : EndsD), Cells r a b c A B C S1 → A.length + (F x).length ≤ 4000 → (∀ u v S2, Cells r a b c (A ++ (F x).map .str) B C S2 → Fr [a, b, c] S1 S2 → R'.nx (mk u v) S2) → ∃ ρ1, bind (g x) (mk u v) = some ρ1 ∧ body R' ρ1 S1 E)
    (k : Cells r a b c A B C S) (hA : A.length + (xs.flatMap F).length ≤ 4000)
    (fin : ∀ u v S', Cells r a b c (A ++ (xs.flatMap F).map .str) B C S' → Fr [a, b, c] S S' → R.nx (mk u v) S') (u v : Option D) : loopF bind (fun _ => True) body R E (xs.map g) (mk u v) S := by
  refine loop_inv (I := fun ds ρ S1 => ∃ don rem u v, xs = don ++ rem ∧ ds = rem.map g ∧ ρ = mk u v ∧ Cells r a b c (A ++ (don.flatMap F).map .str) B C S1 ∧ Fr [a, b, c] S S1)
    (fun d ds ρ S1 R' i nx ct hr => ?_) (fun _ _ _ _ => trivial) (fun ρ S1 i => ?_) _ _ _ ⟨[], xs, u, v, rfl, rfl, rfl, by simpa using k, .refl⟩
  · obtain ⟨don, rem, u, v, e1, e2, rfl, k1, f⟩ := i
    cases rem with
    | nil => cases e2
    | cons t rem =>
      simp only [List.map_cons, List.cons.injEq] at e2
      obtain ⟨rfl, rfl⟩ := e2
      rw [e1] at hA
      simp only [List.flatMap_append, List.flatMap_cons, List.length_append] at hA
      refine turn t (by rw [e1]; simp) _ S1 u v R' k1 (by simp only [List.length_append, List.length_map]; omega) fun u v S2 k2 f2 => nx _ _ ⟨don ++ [t], rem, u, v, by rw [e1]; simp, rfl, rfl, ?_, f.trans f2⟩
      simpa [List.append_assoc] using k2
  · obtain ⟨don, rem, u, v, e1, e2, rfl, k1, f⟩ := i
    have : rem = [] := by cases rem with
      | nil => rfl
      | cons _ _ => cases e2
    subst this
    rw [List.append_nil] at e1
    subst e1
    exact fin u v S1 k1 f
theorem St.act_rds (a : Act) : (St.act a).rds = (St.act a).forms.flatMap Fm.names ∧ (St.act a).chgs = (St.act a).chg ∧ (St.act a).wds = [(St.act a).word] := by
  refine ⟨?_, ?_, rfl⟩
  · simp [St.rds, St.fms, St.nodes]
  · simp [St.chgs, St.nodes]
theorem St.rds_eq (s : St) : s.rds = s.nodes.flatMap fun t => t.forms.flatMap Fm.names := by
  unfold St.rds St.fms
  rw [List.flatMap_assoc]
theorem rds_flat (l : List St) : (l.flatMap St.nodes).flatMap (fun t => t.forms.flatMap Fm.names) = l.flatMap St.rds := by
  rw [List.flatMap_assoc]
  exact congrArg (fun f => l.flatMap f) (funext fun x => (St.rds_eq x).symm)
theorem chgs_flat (l : List St) : (l.flatMap St.nodes).flatMap St.chg = l.flatMap St.chgs := by
  rw [List.flatMap_assoc]
  rfl
theorem wds_flat (l : List St) : (l.flatMap St.nodes).map St.word = l.flatMap St.wds := by
  rw [List.map_flatMap]
  rfl
theorem St.hold_rds (op : Str) (c : Co) (ss : Sts) : (St.hold op c ss).rds = c.names ++ ss.list.flatMap St.rds ∧ (St.hold op c ss).chgs = ss.list.flatMap St.chgs ∧ (St.hold op c ss).wds = op :: ss.list.flatMap St.wds := by
  refine ⟨?_, ?_, ?_⟩
  · rw [St.rds_eq, St.nodes, List.flatMap_cons, Sts.nodes_eq, rds_flat]
    simp [St.forms, Fm.names]
  · unfold St.chgs
    rw [St.nodes, List.flatMap_cons, Sts.nodes_eq, chgs_flat]
    rfl
  · unfold St.wds
    rw [St.nodes, List.map_cons, Sts.nodes_eq, wds_flat]
    rfl
theorem St.seq_rds (ss : Sts) : (St.seq ss).rds = ss.list.flatMap St.rds ∧ (St.seq ss).chgs = ss.list.flatMap St.chgs ∧ (St.seq ss).wds = ss.list.flatMap St.wds := by
  refine ⟨?_, ?_, ?_⟩
  · rw [St.rds_eq, St.nodes, Sts.nodes_eq, rds_flat]
  · unfold St.chgs
    rw [St.nodes, Sts.nodes_eq, chgs_flat]
    rfl
  · unfold St.wds
    rw [St.nodes, Sts.nodes_eq, wds_flat]
    rfl
theorem Fr.weak {ex : List Nat} {S S' : Sto} (f : Fr [] S S') : Fr ex S S' := f.mono (by simp)
theorem walk_act {names : List Str} {t : Act} (ha : t.ok names) {l r a b c : Nat} {A B C : List D} {S : Sto} {R : RD} {E : Exn → Sto → Prop} (z : Dst r a b c) (k : Cells r a b c A B C S) (hA : A.length + (St.act t).rds.length ≤ 4000) (hB : B.length + (St.act t).chgs.length ≤ 4000) (hC : C.length + (St.act t).wds.length ≤ 4000)
    (hl : 6 ≤ l) (q : WalkQ r a b c A B C (.act t) S (R .non)) : SEM txt.T l 9 [(St.act t).d, .ref r] S R E := by
  obtain ⟨l, rfl⟩ := Nat.exists_eq_add_of_le' hl
  refine sem_def T9 rfl ?_
  simp only [b9]
  obtain ⟨r1, r2, r3⟩ := St.act_rds t
  unfold WalkQ at q
  rw [r1, r2, r3] at q
  rw [r1] at hA
  rw [r2] at hB
  rw [r3] at hC
  simp only [List.length_cons, List.length_nil] at hC
  have fa : ∀ {S : Sto} {c' : Cell}, Fr [a, b, c] S (S.set a c') := fun {S c'} => Fr.set (by simp)
  have fb : ∀ {S : Sto} {c' : Cell}, Fr [a, b, c] S (S.set b c') := fun {S c'} => Fr.set (by simp)
  have fc : ∀ {S : Sto} {c' : Cell}, Fr [a, b, c] S (S.set c c') := fun {S c'} => Fr.set (by simp)
  cases t with
  | skip =>
    simp only [St.d, Act.d]
    walk_at "go"
    refine k.ix2 ⟨⟨c, _, rfl, lst_of k.hc⟩, append_ok k.hc (by omega) ?_⟩
    have k1 := k.setC z (C' := C ++ [.str "skip"])
    exact q _ (by simpa [St.forms, St.chg, St.word] using k1) fc
  | set x e =>
    simp only [St.d, Act.d]
    walk_at "go"
    refine k.ix2 ⟨⟨c, _, rfl, lst_of k.hc⟩, append_ok k.hc (by omega) ?_⟩
    have k1 := k.setC z (C' := C ++ [.str "set"])
    refine k1.ix1 ⟨⟨b, _, rfl, lst_of k1.hb⟩, append_ok k1.hb (by simp only [St.chg, List.length_cons, List.length_nil] at hB; omega) ?_⟩
    have k2 := k1.setB z (B' := B ++ [.str x])
    have he : (St.act (.set x e)).forms.flatMap Fm.names = e.names := by simp [St.forms, Fm.names]
    rw [he] at hA q
    refine k2.ix0 ⟨⟨a, _, rfl, lst_of k2.ha⟩, named_s 3 (.ex e) ha.2 (by show e.names.length ≤ 4000; omega) (by omega) fun S3 r3 f3 l3 e3 => ?_⟩
    have k3 := k2.fr f3
    refine extend_ok k3.ha e3 (by simpa [Fm.names] using hA) ?_
    have k4 := k3.setA z (A' := A ++ e.names.map .str)
    exact q _ k4 (fc.trans (fb.trans (f3.weak.trans fa)))
  | draw x ps =>
    simp only [St.d, Act.d]
    walk_at "go"
    refine k.ix2 ⟨⟨c, _, rfl, lst_of k.hc⟩, append_ok k.hc (by omega) ?_⟩
    have k1 := k.setC z (C' := C ++ [.str "draw"])
    refine k1.ix1 ⟨⟨b, _, rfl, lst_of k1.hb⟩, append_ok k1.hb (by simp only [St.chg, List.length_cons, List.length_nil] at hB; omega) ?_⟩
    have k2 := k1.setB z (B' := B ++ [.str x])
    have he : (St.act (.draw x ps)).forms.flatMap Fm.names = ps.flatMap fun p => p.1.names := by simp [St.forms, Fm.names, List.flatMap_map]
    rw [he] at hA q
    refine ext_loop (g := pairD) (F := fun p : Ex × Int => p.1.names) (mk := fun u v => [some (.tup [.str "draw", .str x, .tup (ps.map pairD)]), some (.ref r), some (.str "draw"), none, u, v]) ps (fun p hp A1 S2 u v R' k2 hA1 nx => ⟨_, rfl, ?_⟩) k2 hA (fun u v S2 k2 f2 => ?_) none none
    · walk_at "go"
      refine k2.ix0 ⟨⟨a, _, rfl, lst_of k2.ha⟩, named_s 2 (.ex p.1) (ha.2.2.2 p hp).1 (by show p.1.names.length ≤ 4000; omega) (by omega) fun S3 r3 f3 l3 e3 => ?_⟩
      have k3 := k2.fr f3
      refine extend_ok k3.ha e3 (by simpa [Fm.names] using hA1) ?_
      have k4 := k3.setA z (A' := A1 ++ p.1.names.map .str)
      exact nx _ _ _ k4 (f3.weak.trans fa)
    · walk_at "go"
      exact q _ k2 (fc.trans (fb.trans f2))
  | choose x ps =>
    simp only [St.d, Act.d]
    walk_at "go"
    refine k.ix2 ⟨⟨c, _, rfl, lst_of k.hc⟩, append_ok k.hc (by omega) ?_⟩
    have k1 := k.setC z (C' := C ++ [.str "choose"])
    refine k1.ix1 ⟨⟨b, _, rfl, lst_of k1.hb⟩, append_ok k1.hb (by simp only [St.chg, List.length_cons, List.length_nil] at hB; omega) ?_⟩
    have k2 := k1.setB z (B' := B ++ [.str x])
    have he : (St.act (.choose x ps)).forms.flatMap Fm.names = ps.flatMap fun p => p.names := by simp [St.forms, Fm.names, List.flatMap_map]
    rw [he] at hA q
    refine ext_loop (g := Ex.d) (F := fun p : Ex => p.names) (mk := fun u v => [some (.tup [.str "choose", .str x, .tup (ps.map Ex.d)]), some (.ref r), some (.str "choose"), none, u, v]) ps (fun p hp A1 S2 u v R' k2 hA1 nx => ⟨_, rfl, ?_⟩) k2 hA (fun u v S2 k2 f2 => ?_) none none
    · walk_at "go"
      refine k2.ix0 ⟨⟨a, _, rfl, lst_of k2.ha⟩, named_s 2 (.ex p) (ha.2.2.2 p hp) (by show p.names.length ≤ 4000; omega) (by omega) fun S3 r3 f3 l3 e3 => ?_⟩
      have k3 := k2.fr f3
      refine extend_ok k3.ha e3 (by simpa [Fm.names] using hA1) ?_
      have k4 := k3.setA z (A' := A1 ++ p.names.map .str)
      exact nx _ _ _ k4 (f3.weak.trans fa)
    · walk_at "go"
      exact q _ k2 (fc.trans (fb.trans f2))
  | see e =>
    simp only [St.d, Act.d]
    walk_at "go"
    refine k.ix2 ⟨⟨c, _, rfl, lst_of k.hc⟩, append_ok k.hc (by omega) ?_⟩
    have k2 := k.setC z (C' := C ++ [.str "see"])
    have he : (St.act (.see e)).forms.flatMap Fm.names = e.names := by simp [St.forms, Fm.names]
    rw [he] at hA q
    refine k2.ix0 ⟨⟨a, _, rfl, lst_of k2.ha⟩, named_s 4 (.co e) ha (by show e.names.length ≤ 4000; omega) (by omega) fun S3 r3 f3 l3 e3 => ?_⟩
    have k3 := k2.fr f3
    refine extend_ok k3.ha e3 (by simpa [Fm.names] using hA) ?_
    have k4 := k3.setA z (A' := A ++ e.names.map .str)
    exact q _ (by simpa [St.chg, St.word, Fm.names] using k4) (fc.trans (f3.weak.trans fa))
theorem St.x_hold (op : Str) (c : Co) (ss : Sts) : (St.hold op c ss).x = 0 := rfl
theorem St.x_seq (ss : Sts) : (St.seq ss).x = 3 := rfl
theorem parts_levels {names : List Str} {s : St} {n : Nat} (h : s.ok names n) : ∀ t ∈ s.parts, ∃ m, t.ok names m ∧ 4 * m + t.x + 1 ≤ 4 * n + s.x := by
  intro t ht
  cases s with
  | act a => simp [St.parts] at ht
  | hold op c ss =>
    obtain ⟨h0, _, _, hss⟩ := h
    have x3 := @St.x_le t
    exact ⟨n - 1, (Sts.ok_iff ss).mp hss t ht, by simp only [St.x_hold, St.x_seq]; omega⟩
  | seq ss =>
    obtain ⟨_, hp, hss⟩ := h
    have x0 := St.x_plain ((Sts.plain_iff ss).mp hp t ht)
    exact ⟨n, (Sts.ok_iff ss).mp hss t ht, by simp only [St.x_hold, St.x_seq]; omega⟩
def WalkSpec (names : List Str) (s : St) : Prop := ∀ {n l r a b c : Nat} {A B C : List D} {S : Sto} {R : RD} {E : Exn → Sto → Prop}, s.ok names n → Dst r a b c → Cells r a b c A B C S → A.length + s.rds.length ≤ 4000 → B.length + s.chgs.length ≤ 4000 → C.length + s.wds.length ≤ 4000 → 4 * n + 6 + s.x ≤ l →
  WalkQ r a b c A B C s S (R .non) → SEM txt.T l 9 [s.d, .ref r] S R E
theorem walk_s {names : List Str} : ∀ s : St, WalkSpec names s := by
  refine St.ind (fun t => ?_) (fun op e ss ih => ?_) (fun ss ih => ?_)
  · intro n l r a b c A B C S R E h z k hA hB hC hl q
    exact walk_act h.2 z k hA hB hC (by omega) q
  · intro n l r a b c A B C S R E h z k hA hB hC hl q
    obtain ⟨l, rfl⟩ : ∃ j, l = j + 1 := ⟨l - 1, by omega⟩
    have lv := parts_levels h
    obtain ⟨h0, hc, ho, hss⟩ := h
    obtain ⟨r1, r2, r3⟩ := St.hold_rds op e ss
    unfold WalkQ at q
    rw [r1, r2, r3] at q
    rw [r1, List.length_append] at hA
    rw [r2] at hB
    rw [r3, List.length_cons] at hC
    refine sem_def T9 rfl ?_
    simp only [b9]
    have fa : ∀ {S : Sto} {c' : Cell}, Fr [a, b, c] S (S.set a c') := fun {S c'} => Fr.set (by simp)
    have fc : ∀ {S : Sto} {c' : Cell}, Fr [a, b, c] S (S.set c c') := fun {S c'} => Fr.set (by simp)
    have k2 := k.setC z (C' := C ++ [.str op])
    rcases ho with ⟨rfl, hs⟩ | ⟨rfl, hs⟩
    all_goals
      simp only [St.d]
      walk_at "go"
      refine k.ix2 ⟨⟨c, _, rfl, lst_of k.hc⟩, append_ok k.hc (by omega) ?_⟩
      refine k2.ix0 ⟨⟨a, _, rfl, lst_of k2.ha⟩, named_s 5 (.co e) hc (by show e.names.length ≤ 4000; omega) (by omega) fun S3 r3 f3 l3 e3 => ?_⟩
      have k3 := k2.fr f3
      refine extend_ok k3.ha e3 (by simp only [Fm.names, List.length_map]; omega) ?_
      have k4 := k3.setA z (A' := A ++ e.names.map .str)
      rw [Sts.ds_eq]
      refine walk_loop (mk := fun y => [some (.tup (.str _ :: e.d :: ss.list.map St.d)), some (.ref r), some (.str _), y, none, none]) ss.list (fun t ht A1 B1 C1 S5 y R' k5 a5 b5 c5 nx => ⟨_, rfl, ?_⟩) k4 (by simp only [List.length_append, List.length_map]; omega) (by omega) (by simp only [List.length_append, List.length_cons, List.length_nil]; omega) (fun y S5 k5 f5 => ?_) none
      · walk_at "go"
        obtain ⟨m, tm, tl⟩ := lv t ht
        simp only [St.x_hold, St.x_seq] at tl hl
        exact ih t ht tm z k5 a5 b5 c5 (by omega) fun S6 k6 f6 => nx _ S6 k6 f6
      · walk_at "go"
        refine q _ ?_ (fc.trans (f3.weak.trans (fa.trans f5)))
        simpa [List.append_assoc] using k5
  · intro n l r a b c A B C S R E h z k hA hB hC hl q
    obtain ⟨l, rfl⟩ : ∃ j, l = j + 1 := ⟨l - 1, by omega⟩
    have lv := parts_levels h
    obtain ⟨r1, r2, r3⟩ := St.seq_rds ss
    unfold WalkQ at q
    rw [r1, r2, r3] at q
    rw [r1] at hA
    rw [r2] at hB
    rw [r3] at hC
    refine sem_def T9 rfl ?_
    simp only [b9, St.d]
    walk_at "go"
    rw [Sts.ds_eq]
    refine walk_loop (mk := fun y => [some (.tup [.str "seq", .tup (ss.list.map St.d)]), some (.ref r), some (.str "seq"), y, none, none]) ss.list (fun t ht A1 B1 C1 S5 y R' k5 a5 b5 c5 nx => ⟨_, rfl, ?_⟩) k hA hB hC (fun y S5 k5 f5 => ?_) none
    · walk_at "go"
      obtain ⟨m, tm, tl⟩ := lv t ht
      simp only [St.x_hold, St.x_seq] at tl hl
      exact ih t ht tm z k5 a5 b5 c5 (by omega) fun S6 k6 f6 => nx _ S6 k6 f6
    · exact q _ k5 f5
end K03

-- K03_J
set_option Elab.async false
set_option linter.all false
set_option maxRecDepth 100000
namespace K03
open PySem L2 PyProof.Rows
open Ip hiding start
local macro_rules | `(tactic| walk_at "run") => `(tactic| simp only [WSs, WS, Ip.WE, WA, WT, WO, WI, WF, Ip.start, List.length_cons, List.length_nil, List.map_cons, List.map_nil, List.cons_append, List.nil_append, List.replicate, Nat.zero_add, Nat.reduceAdd, Nat.reduceSub, List.getElem?_cons_zero, List.getElem?_cons_succ, List.set_cons_zero, List.set_cons_succ, bindT, bindA])
local macro_rules | `(tactic| walk_at "go") => `(tactic| try simp only [WSs, WS, Ip.WE, WA, WT, WO, WI, WF, Ip.start, wipeD, recv, List.length_cons, List.length_nil, List.length_map, List.map_cons, List.map_nil, List.cons_append, List.nil_append, List.replicate, Nat.zero_add, Nat.reduceAdd, Nat.reduceSub, List.getElem?_cons_zero, List.getElem?_cons_succ, List.set_cons_zero, List.set_cons_succ, bindT, bindA,
  Option.bind_some, run_exbl, run_exint, run_trbl, run_ix0, run_ix1, run_ix2, run_ix3, run_add, run_sub, run_lt, run_le, run_gt, run_ge, run_eqi, run_nei, run_eqs, run_nes, run_ins, run_nins, run_isnon, run_isnnon, run_len, run_min, run_max, run_int, run_any1, run_any0, run_all1, run_all0, run_eqF, run_isT1, run_isT2, run_isT3, run_isT4, run_isT5, run_isT6, run_fl1, run_nn1, run_nn2, run_s0, run_s1, run_s2, run_s3, run_s4, run_s5, run_s6, run_cut1, run_cut2, run_itT, run_itO, run_itR, run_slT, run_augA, run_augS,
  sk_num, sk_var, sk_add, sk_less_by, sk_times, sk_least, sk_most, sk_true, sk_is, sk_below, sk_not, sk_and, sk_or, sk_skip, sk_set, sk_draw, sk_choose, sk_see, sk_if, sk_while, sk_seq,
  ofString_inj, String.reduceEq, ↓reduceIte, Bool.false_eq_true, decide_true, decide_false, Bool.not_true, Bool.not_false, Bool.or_true, Bool.true_or, Bool.or_false, Bool.false_or, Bool.and_true, Bool.true_and, Bool.and_false, Bool.false_and, true_and, and_true, Int.cast_ofNat_Int, Int.reduceLT, Int.reduceLE, Int.reduceEq, Int.reduceSub, Int.reduceAdd, Int.reduceNeg, Nat.reduceEqDiff, Bool.not_eq_true, Int.ofNat_eq_natCast, Int.reduceGT, gt_iff_lt, ge_iff_le])
/-! ### what the program tells -/
structure Srt (names xs ys : List Str) : Prop where
  perm : ys.Perm (names.filter fun k => decide (k ∈ xs))
  sorted : sortedS ys = true
theorem Srt.one {names xs xs' ys zs : List Str} (h : Srt names xs ys) (h' : Srt names xs' zs) (e : ∀ k, k ∈ xs ↔ k ∈ xs') : ys = zs := by
  have : (names.filter fun k => decide (k ∈ xs)) = names.filter fun k => decide (k ∈ xs') := List.filter_congr fun k _ => by simp [e k]
  exact sorted_one (h.perm.trans (this ▸ h'.perm.symm)) h.sorted h'.sorted
/-- a new sorted list comes back -/
def Nws (S : Sto) (names xs : List Str) (R : RD) : Prop := ∀ ys S' r, Srt names xs ys → Fr [] S S' → S.length ≤ r → S'[r]? = some (.lst (ys.map .str)) → R (.ref r) S'
theorem sort_set {names xs : List Str} (nd : names.Nodup) (n4 : names.length ≤ 4) (hx : ∀ x ∈ xs, x ∈ names) (hl : xs.length ≤ 4000) {S S1 : Sto} {d : D} {R : RD} (e : seqOf S1 d = some (xs.map .str)) (f : Fr [] S S1) (q : Nws S names xs R) :
    ∃ xs' L : List Str, seqOf S1 d = some (xs'.map .str) ∧ xs'.length ≤ 4000 ∧ L.Nodup ∧ (∀ k, k ∈ L ↔ k ∈ xs') ∧ L.length < 64 ∧ ∀ ys : List Str, ys.Perm L → sortedS ys = true → R (.ref S1.length) (S1 ++ [.lst (ys.map .str)]) := by
  refine ⟨xs, names.filter fun k => decide (k ∈ xs), e, hl, nd.filter _, fun k => ?_, ?_, fun ys p s => q ys _ _ ⟨p, s⟩ (f.trans .push) f.len at_push⟩
  · simp only [List.mem_filter, decide_eq_true_eq]
    exact ⟨fun h => h.2, fun h => ⟨hx k h, h⟩⟩
  · have := List.length_filter_le (fun k => decide (k ∈ xs)) names
    omega
def namesOf (vs : List (Str × Int)) : List Str := vs.map (·.1)
theorem Plan.n4 {vs : List (Str × Int)} {s : St} (p : Plan vs s) : (namesOf vs).length ≤ 4 := by
  have := p.vars.n4
  unfold namesOf
  simpa using this
theorem namesin_s {vs : List (Str × Int)} {s : St} (p : Plan vs s) {l : Nat} (hl : 112 ≤ l) {S : Sto} {R : RD} {E : Exn → Sto → Prop} (q : Nws S (namesOf vs) (s.chgs ++ s.rds) R) : SEM txt.T l 41 [planD vs s] S R E := by
  obtain ⟨l, rfl⟩ := Nat.exists_eq_add_of_le' hl
  refine sem_def T41 rfl ?_
  simp only [b41]
  walk_at "go"
  refine need_s p (by omega) fun S1 f1 => ?_
  simp only [planD]
  walk_at "go"
  refine names_s p.whole (by omega) fun S2 r f2 l2 e2 => ?_
  have c1 := p.whole.chgs
  have c2 := p.whole.rds
  exact sort_set p.vars.nd p.n4 (fun x hx => (List.mem_append.mp hx).elim (c1.2 x) (c2.2 x)) (by rw [List.length_append]; omega) (by simp only [seqOf]; exact lst_of e2) (f1.trans f2) q
theorem namesset_s {vs : List (Str × Int)} {s : St} (p : Plan vs s) {l : Nat} (hl : 112 ≤ l) {S : Sto} {R : RD} {E : Exn → Sto → Prop} (q : Nws S (namesOf vs) s.chgs R) : SEM txt.T l 42 [planD vs s] S R E := by
  obtain ⟨l, rfl⟩ := Nat.exists_eq_add_of_le' hl
  refine sem_def T42 rfl ?_
  simp only [b42]
  walk_at "go"
  refine need_s p (by omega) fun S1 f1 => ?_
  simp only [planD]
  walk_at "go"
  refine changed_s p.whole (by omega) fun S2 r f2 l2 e2 => ?_
  have c1 := p.whole.chgs
  exact sort_set p.vars.nd p.n4 c1.2 (by omega) (by simp only [seqOf]; exact lst_of e2) (f1.trans f2) q
theorem sizeof_s {vs : List (Str × Int)} {s : St} (p : Plan vs s) {l : Nat} (hl : 112 ≤ l) {S : Sto} {R : RD} {E : Exn → Sto → Prop} (q : ∀ S', Fr [] S S' → R (.int s.size) S') : SEM txt.T l 40 [planD vs s] S R E := by
  obtain ⟨l, rfl⟩ := Nat.exists_eq_add_of_le' hl
  refine sem_def T40 rfl ?_
  simp only [b40]
  walk_at "go"
  refine need_s p (by omega) fun S1 f1 => ?_
  simp only [planD]
  walk_at "go"
  refine stin_w p.whole (by omega) fun S2 r f2 l2 e2 => ?_
  refine .inl ⟨_, lst_of e2, ?_⟩
  rw [List.length_map, St.nodes_len]
  exact q S2 (f1.trans f2)
theorem nd_word {names : List Str} {t : St} (nd : Nd names t) (x : Str) (hx : PyData.strOk x = true) {S : Sto} {R : RD} (q : R (.bl (decide (t.word = x))) S) : oIx t.d (.int 0) S fun y S1 => oCmp .Eq y (.str x) S1 R := by
  obtain ⟨_, m, h⟩ := nd
  rw [St.d_eq, run_ix0, run_eqs _ _ _ _ (St.word_ok h).1 hx]
  exact q
theorem loops_s {vs : List (Str × Int)} {s : St} (p : Plan vs s) {l : Nat} (hl : 112 ≤ l) {S : Sto} {R : RD} {E : Exn → Sto → Prop} (q : ∀ S', Fr [] S S' → R (.bl (s.nodes.any fun t => decide (t.word = "while"))) S') : SEM txt.T l 43 [planD vs s] S R E := by
  obtain ⟨l, rfl⟩ := Nat.exists_eq_add_of_le' hl
  refine sem_def T43 rfl ?_
  simp only [b43]
  walk_at "go"
  refine need_s p (by omega) fun S1 f1 => ?_
  simp only [planD]
  walk_at "go"
  refine stin_w p.whole (by omega) fun S2 r f2 l2 e2 => ?_
  walk_at "go"
  refine ⟨_, lst_of e2, comp_map (g := St.d) (f := fun t : St => .bl (decide (t.word = "while"))) s.nodes (fun t ht acc S3 K' ha f3 nx => ⟨_, rfl, ?_⟩) (fun S' f' => f'.lst e2) (by have := p.whole.nlen; omega) fun S3 f3 => ?_⟩
  · walk_at "go"
    exact nd_word (p.whole.nd t ht) "while" sk_while ⟨lt_sz ha, nx S3 .refl⟩
  · exact any_bls (f := fun t : St => decide (t.word = "while")) at_push (q _ (f1.trans (f2.trans (f3.trans .push))))
theorem choices_s {vs : List (Str × Int)} {s : St} (p : Plan vs s) {l : Nat} (hl : 112 ≤ l) {S : Sto} {R : RD} {E : Exn → Sto → Prop} (q : ∀ S', Fr [] S S' → R (.bl (s.nodes.any fun t => decide (t.word = "choose"))) S') : SEM txt.T l 44 [planD vs s] S R E := by
  obtain ⟨l, rfl⟩ := Nat.exists_eq_add_of_le' hl
  refine sem_def T44 rfl ?_
  simp only [b44]
  walk_at "go"
  refine need_s p (by omega) fun S1 f1 => ?_
  simp only [planD]
  walk_at "go"
  refine stin_w p.whole (by omega) fun S2 r f2 l2 e2 => ?_
  walk_at "go"
  refine ⟨_, lst_of e2, comp_map (g := St.d) (f := fun t : St => .bl (decide (t.word = "choose"))) s.nodes (fun t ht acc S3 K' ha f3 nx => ⟨_, rfl, ?_⟩) (fun S' f' => f'.lst e2) (by have := p.whole.nlen; omega) fun S3 f3 => ?_⟩
  · walk_at "go"
    exact nd_word (p.whole.nd t ht) "choose" sk_choose ⟨lt_sz ha, nx S3 .refl⟩
  · exact any_bls (f := fun t : St => decide (t.word = "choose")) at_push (q _ (f1.trans (f2.trans (f3.trans .push))))
end K03

-- K03_K
set_option Elab.async false
set_option linter.all false
set_option maxRecDepth 100000
namespace K03
open PySem L2 PyProof.Rows
open Ip hiding start
local macro_rules | `(tactic| walk_at "run") => `(tactic| simp only [WSs, WS, Ip.WE, WA, WT, WO, WI, WF, Ip.start, List.length_cons, List.length_nil, List.map_cons, List.map_nil, List.cons_append, List.nil_append, List.replicate, Nat.zero_add, Nat.reduceAdd, Nat.reduceSub, List.getElem?_cons_zero, List.getElem?_cons_succ, List.set_cons_zero, List.set_cons_succ, bindT, bindA])
local macro_rules | `(tactic| walk_at "go") => `(tactic| try simp only [WSs, WS, Ip.WE, WA, WT, WO, WI, WF, Ip.start, wipeD, recv, List.length_cons, List.length_nil, List.length_map, List.map_cons, List.map_nil, List.cons_append, List.nil_append, List.replicate, Nat.zero_add, Nat.reduceAdd, Nat.reduceSub, List.getElem?_cons_zero, List.getElem?_cons_succ, List.set_cons_zero, List.set_cons_succ, bindT, bindA,
  Option.bind_some, run_exbl, run_exint, run_trbl, run_ix0, run_ix1, run_ix2, run_ix3, run_add, run_sub, run_lt, run_le, run_gt, run_ge, run_eqi, run_nei, run_eqs, run_nes, run_ins, run_nins, run_isnon, run_isnnon, run_len, run_min, run_max, run_int, run_any1, run_any0, run_all1, run_all0, run_eqF, run_isT1, run_isT2, run_isT3, run_isT4, run_isT5, run_isT6, run_fl1, run_nn1, run_nn2, run_s0, run_s1, run_s2, run_s3, run_s4, run_s5, run_s6, run_cut1, run_cut2, run_itT, run_itO, run_itR, run_slT, run_augA, run_augS,
  sk_num, sk_var, sk_add, sk_less_by, sk_times, sk_least, sk_most, sk_true, sk_is, sk_below, sk_not, sk_and, sk_or, sk_skip, sk_set, sk_draw, sk_choose, sk_see, sk_if, sk_while, sk_seq,
  ofString_inj, String.reduceEq, ↓reduceIte, Bool.false_eq_true, decide_true, decide_false, Bool.not_true, Bool.not_false, Bool.or_true, Bool.true_or, Bool.or_false, Bool.false_or, Bool.and_true, Bool.true_and, Bool.and_false, Bool.false_and, true_and, and_true, Int.cast_ofNat_Int, Int.reduceLT, Int.reduceLE, Int.reduceEq, Int.reduceSub, Int.reduceAdd, Int.reduceNeg, Nat.reduceEqDiff, Bool.not_eq_true, Int.ofNat_eq_natCast, Int.reduceGT, gt_iff_lt, ge_iff_le])
theorem T5 : txt.T 5 = some ⟨13, 5, b5⟩ := rfl
theorem T6 : txt.T 6 = some ⟨7, 5, b6⟩ := rfl
/-! ### statements drawn -/
def costS : Nat → Nat
  | 0 => 1000
  | d + 1 => 8 * costS d + 2000
theorem costS_ge : ∀ d : Nat, 1000 ≤ costS d
  | 0 => Nat.le_refl _
  | d + 1 => by have := costS_ge d; simp only [costS]; omega
structure Env2 (names : List Str) (n r m u : Nat) (S : Sto) (t : Nat) (v : Int) : Prop where
  e1 : Env1 names n r m S t
  lef : S[u]? = some (.lst [.int v])
structure Ds (n r m u : Nat) : Prop where
  h1 : r ≠ n
  h2 : m ≠ n
  h3 : m ≠ r
  h4 : u ≠ n
  h5 : u ≠ m
  h6 : u ≠ r
section
variable {names : List Str} {n r m u t t' : Nat} {S S' : Sto} {v : Int}
theorem Env2.le (e : Env2 names n r m u S t v) (h : t ≤ t') : Env2 names n r m u S t' v := ⟨e.e1.le h, e.lef⟩
theorem Env2.fr (e : Env2 names n r m u S t v) (z : Ds n r m u) (b : Bag S' n t') (f : Fr [n] S S') : Env2 names n r m u S' t' v := ⟨e.e1.fr z.h1 z.h2 b f, f.at e.lef (by simp [z.h4])⟩
theorem Env2.to (e : Env2 names n r m u S t v) (z : Ds n r m u) (e1 : Env1 names n r m S' t') (f : Fr [n, m] S S') : Env2 names n r m u S' t' v := ⟨e1, f.at e.lef (by simp [z.h4, z.h5])⟩
theorem Env2.push {c : Cell} (e : Env2 names n r m u S t v) : Env2 names n r m u (S ++ [c]) t v := ⟨e.e1.push, (List.getElem?_append_left (lt_at e.lef)).trans e.lef⟩
end
/-- one statement, or some of a seq, is drawn -/
def StQ (names : List Str) (n r m u d : Nat) (pl : Prop) (t c : Nat) (v : Int) (S : Sto) (R : RD) : Prop := ∀ (s : St) S' (v' : Int), s.ok names (d + 1) → (pl → s.plain) → Env2 names n r m u S' (t + c) v' → v' + s.size = v → (v - 1 ≤ v' ∨ -(d + 1 : Int) ≤ v') → Fr [n, m, u] S S' → R s.d S'
def StSpec (names : List Str) (n r m u d l : Nat) : Prop := ∀ {t : Nat} {v : Int} {S : Sto} {R : RD} {E : Exn → Sto → Prop}, Env2 names n r m u S t v → t + costS d ≤ T0' → StQ names n r m u d True t (costS d) v S R → SEM txt.T l 5 [.ref n, .ref r, .ref m, .ref u, .int (d + 1 : Nat)] S R E
def SsSpec (names : List Str) (n r m u d l : Nat) : Prop := ∀ {t : Nat} {v : Int} {S : Sto} {R : RD} {E : Exn → Sto → Prop}, Env2 names n r m u S t v → t + (4 * costS d + 1) ≤ T0' → StQ names n r m u d False t (4 * costS d + 1) v S R → SEM txt.T l 6 [.ref n, .ref r, .ref m, .ref u, .int (d + 1 : Nat)] S R E
theorem pick_int {k n t : Nat} {S : Sto} {is : List Int} {R : RD} {E : Exn → Sto → Prop} (hB : Bag S n t) (ht : t ≤ T0') (h0 : 0 < is.length) (h1 : is.length < 1000) (q : ∀ (i : Int) S', i ∈ is → Bag S' n (t + 1) → Fr [n] S S' → R (.int i) S') :
    SEM txt.T (k + 2) 1 [.ref n, .ref S.length] (S ++ [.lst (is.map .int)]) R E := by
  refine pick_s (r := S.length) hB.push ht at_push (by have := hB.lt; omega) (by simpa using h0) (by simpa using h1) fun x S1 hx B1 F1 => ?_
  obtain ⟨i, hi, rfl⟩ := List.mem_map.mp hx
  exact q i S1 hi B1 (Fr.push.trans F1)
theorem fr1 {n m u : Nat} {S S' : Sto} (f : Fr [n] S S') : Fr [n, m, u] S S' := f.mono (by simp)
theorem fr2 {n m u : Nat} {S S' : Sto} (f : Fr [n, m] S S') : Fr [n, m, u] S S' := f.mono fun i hi => by
  simp only [List.mem_cons, List.not_mem_nil, or_false] at hi ⊢
  rcases hi with h | h
  · exact .inl h
  · exact .inr (.inl h)
/-- a comprehension that draws -/
theorem comp_draw {α : Type} {f : α → D} {P : D → α → Prop} {Inv : Nat → Sto → Prop} {c t : Nat} {bind : D → Ip.Env → Option Ip.Env} {ok : Sto → Prop} {ρ : Ip.Env} {turn : List D → Ip.Env → Sto → (List D → Sto → Prop) → Prop} {K : List D → Sto → Prop} {S : Sto} (ds : List D) (hl : ds.length ≤ 1000)
    (h : ∀ d ∈ ds, ∀ (acc : List D) S1 (K' : List D → Sto → Prop) t1, acc.length < 4000 → Inv t1 S1 → t1 + c ≤ t + c * ds.length → (∀ a S2, P d a → Inv (t1 + c) S2 → K' (acc ++ [f a]) S2) → ∃ ρ1, bind d ρ = some ρ1 ∧ turn acc ρ1 S1 K')
    (hok : ∀ t1 S1, Inv t1 S1 → ok S1) (hi : Inv t S) (fin : ∀ (as : List α) S', as.length = ds.length → (∀ a ∈ as, ∃ d ∈ ds, P d a) → Inv (t + c * ds.length) S' → K (as.map f) S') : loopC bind ok ρ turn K ds [] S := by
  refine comp_inv (I := fun rem (acc : List D) S1 => ∃ (don : List D) (as : List α), ds = don ++ rem ∧ acc = as.map f ∧ as.length = don.length ∧ (∀ a ∈ as, ∃ d ∈ ds, P d a) ∧ Inv (t + c * don.length) S1) (fun d rem acc S1 K' i nx => ?_) (fun _ _ S1 i => ?_) (fun acc S1 i => ?_) _ _ _
    ⟨[], [], rfl, rfl, rfl, fun a ha => (List.not_mem_nil ha).elim, hi⟩
  · obtain ⟨don, as, e1, rfl, hlen, hP, iv⟩ := i
    have hl' := hl
    rw [e1] at hl'
    simp only [List.length_append, List.length_cons] at hl'
    refine h d (by rw [e1]; simp) _ S1 K' _ (by rw [List.length_map]; omega) iv ?_ fun a S2 pa iv2 => nx _ _ ⟨don ++ [d], as ++ [a], by rw [e1]; simp, by simp, by simp [hlen], fun b hb => ?_, ?_⟩
    · rw [e1]
      simp only [List.length_append, List.length_cons, Nat.mul_add, Nat.mul_one]
      omega
    · rcases List.mem_append.mp hb with hb | hb
      · exact hP b hb
      · simp only [List.mem_singleton] at hb
        subst hb
        exact ⟨d, by rw [e1]; simp, pa⟩
    · have e : t + c * (don ++ [d]).length = t + c * don.length + c := by simp [Nat.mul_add, Nat.add_assoc]
      rw [e]
      exact iv2
  · obtain ⟨_, _, _, _, _, _, iv⟩ := i
    exact hok _ _ iv
  · obtain ⟨don, as, e1, rfl, hlen, hP, iv⟩ := i
    rw [List.append_nil] at e1
    subst e1
    exact fin as S1 hlen hP iv
theorem expr2 {names : List Str} {n r m u d l : Nat} (h : ExprSpec names n r m d l) (z : Ds n r m u) {t : Nat} {v : Int} {S : Sto} {R : RD} {E : Exn → Sto → Prop} (e : Env2 names n r m u S t v) (ht : t + costE d ≤ T0') (q : ∀ (x : Ex) S', x.ok names (d + 1) → Env2 names n r m u S' (t + costE d) v → Fr [n, m] S S' → R x.d S') :
    SEM txt.T l 3 [.ref n, .ref r, .int (d + 1 : Nat), .ref m] S R E := h e.e1 ht fun x S' ok e' f => q x S' ok (e.to z e' f) f
theorem cond2 {names : List Str} {n r m u d l : Nat} (h : CondSpec names n r m d l) (z : Ds n r m u) {t : Nat} {v : Int} {S : Sto} {R : RD} {E : Exn → Sto → Prop} (e : Env2 names n r m u S t v) (ht : t + costC d ≤ T0') (q : ∀ (x : Co) S', x.ok names (d + 2) → Env2 names n r m u S' (t + costC d) v → Fr [n, m] S S' → R x.d S') :
    SEM txt.T l 4 [.ref n, .ref r, .int (d + 2 : Nat), .ref m] S R E := h e.e1 ht fun x S' ok e' f => q x S' ok (e.to z e' f) f
theorem stat_tail {names : List Str} (n0 : 0 < names.length) (n1 : names.length < 1000) {n r m u : Nat} (z : Ds n r m u) {d l t : Nat} {v w : Int} {nm : Str} {S : Sto} {R : RD} {E : Exn → Sto → Prop}
    (ex : ∀ d', d' ≤ 2 → ExprSpec names n r m d' (l + 3)) (co : ∀ d', d' ≤ 2 → CondSpec names n r m d' (l + 3)) (rec : ∀ d', d = d' + 1 → SsSpec names n r m u d' (l + 3))
    (w0 : 0 ≤ w) (w1 : w < 7 ∨ (w < 11 ∧ 2 < v ∧ ∃ d', d = d' + 1)) (hn : nm ∈ names) (e : Env2 names n r m u S (t + 2) v) (ht : t + costS d ≤ T0') (q : StQ names n r m u d True t (costS d) (v + 1) S R) :
    WSs (SEM txt.T (l + 3)) (b5.drop 3) (EndR R) [some (.ref n), some (.ref r), some (.ref m), some (.ref u), some (.int (d + 1 : Nat)), some (.int w), some (.str nm), none, none, none, none, none, none] S fun x _ S' => E x S' := by
  have c1000 := costS_ge d
  have leaf : ∀ {a : Act} {S' : Sto}, a.ok names → Env2 names n r m u S' (t + costS d) v → Fr [n, m, u] S S' → R (St.act a).d S' := fun {a S'} ha e' f =>
    q (.act a) S' v ⟨by omega, ha⟩ (fun _ => trivial) e' (by simp only [St.size]; omega) (.inl (by omega)) f
  simp only [b5, List.drop_succ_cons, List.drop_zero]
  walk_at "go"
  refine ex_ite (fun c => ?_) fun c => ?_
  · exact leaf (a := .skip) trivial (e.le (by omega)) .refl
  refine ex_ite (fun c3 => ?_) fun c3 => ?_
  · refine expr2 (d := 2) (ex 2 (by decide)) z e (by simp only [costE]; omega) fun x S1 hx e1 f1 => ?_
    walk_at "go"
    simp only [costE] at e1
    exact leaf (a := .set nm x) ⟨hn, hx⟩ (e1.le (by omega)) (fr2 f1)
  refine ex_ite (fun c5 => ?_) fun c5 => ?_
  · refine pick_int (is := [2, 3, 6]) e.e1.bag (by omega) (by simp) (by simp) fun i S1 hi B1 F1 => ?_
    have i6 : 2 ≤ i ∧ i ≤ 6 := by
      simp only [List.mem_cons, List.not_mem_nil, or_false] at hi
      omega
    refine take_s B1 (by omega) (by omega) (by omega) fun k S2 k0 k1 B2 F2 => ?_
    have e2 := e.fr z B2 (F1.trans F2)
    walk_at "go"
    refine ⟨by omega, by omega, ?_⟩
    have el : (((List.range (1 + k).toNat).map fun (k : Nat) => D.int k)).length = (1 + k).toNat := by simp
    refine comp_draw (f := fun w : Int => .int w) (P := fun _ w => 1 ≤ w ∧ w ≤ 99) (Inv := fun t1 S1 => Bag S1 n t1 ∧ Fr [n] S2 S1) (c := 2) (t := t + 2 + 1 + 1) _ (by rw [el]; omega) (fun d hd acc S3 K' t1 ha iv ht1 nx => ⟨_, rfl, ?_⟩) (fun _ _ _ => trivial) ⟨B2, .refl⟩ fun ws S3 hws hw iv => ?_
    · rw [el] at ht1
      walk_at "go"
      refine pick_int (is := [3, 9, 99]) iv.1 (by omega) (by simp) (by simp) fun i S4 hi B4 F4 => ?_
      have i9 : 3 ≤ i ∧ i ≤ 99 := by
        simp only [List.mem_cons, List.not_mem_nil, or_false] at hi
        omega
      refine take_s B4 (by omega) (by omega) (by omega) fun k S5 k0 k1 B5 F5 => ?_
      exact ⟨lt_sz ha, nx (1 + k) S5 ⟨by omega, by omega⟩ ⟨B5, iv.2.trans (F4.trans F5)⟩⟩
    · rw [el] at iv hws
      have e3 := (e2.fr z iv.1 iv.2).push (c := .lst (ws.map fun w : Int => .int w))
      walk_at "go"
      refine ⟨_, lst_of at_push, comp_draw (f := pairD) (P := fun d p => d = .int p.2 ∧ p.1.ok names 2) (Inv := fun t1 S1 => Env2 names n r m u S1 t1 v ∧ Fr [n, m] (S3 ++ [.lst (ws.map fun w : Int => .int w)]) S1) (c := costE 1) (t := t + 2 + 1 + 1 + 2 * (1 + k).toNat) _ (by rw [List.length_map]; omega) (fun d hd acc S4 K' t1 ha iv ht1 nx => ⟨_, rfl, ?_⟩) (fun _ _ iv2 => ?_) ⟨e3, .refl⟩ fun ps S4 hps hp iv2 => ?_⟩
      · obtain ⟨w', hw', rfl⟩ := List.mem_map.mp hd
        obtain ⟨_, _, w1, w2⟩ := hw w' hw'
        rw [List.length_map, hws] at ht1
        simp only [costE] at ht1
        walk_at "go"
        refine expr2 (d := 1) (ex 1 (by decide)) z iv.1 (by simp only [costE]; omega) fun x S5 hx e5 f5 => ?_
        walk_at "go"
        exact ⟨lt_sz ha, nx (x, w') S5 ⟨rfl, hx⟩ ⟨e5, iv.2.trans f5⟩⟩
      · refine lst_of (iv2.2.at at_push ?_)
        have h1 := (e2.fr z iv.1 iv.2).e1
        have h2 := h1.bag.lt
        have h3 := h1.room.elim fun _ h => lt_at h
        simp only [List.mem_cons, List.not_mem_nil, or_false]
        omega
      · have hlen : ps.length = (1 + k).toNat := by rw [hps, List.length_map, hws]
        refine ⟨_, lst_of at_push, ?_⟩
        rw [List.length_map, hws] at iv2
        simp only [costE] at iv2
        refine leaf (a := .draw nm ps) ⟨hn, by omega, by omega, fun p hpm => ?_⟩ (iv2.1.push.le (by omega)) ?_
        · obtain ⟨d, hd, rfl, ok⟩ := hp p hpm
          obtain ⟨w', hw', e'⟩ := List.mem_map.mp hd
          cases e'
          obtain ⟨_, _, b1, b2⟩ := hw _ hw'
          exact ⟨ok, b1, b2⟩
        · exact (fr1 (F1.trans (F2.trans iv.2))).trans ((Fr.push.trans (fr2 iv2.2)).trans .push)
  refine ex_ite (fun c6 => ?_) fun c6 => ?_
  · refine take_s e.e1.bag (by omega) (by decide) (by decide) fun k S2 k0 k1 B2 F2 => ?_
    have e2 := e.fr z B2 F2
    have el : (((List.range (1 + k).toNat).map fun (k : Nat) => D.int k)).length = (1 + k).toNat := by simp
    walk_at "go"
    refine ⟨by omega, by omega, ?_⟩
    refine comp_draw (f := Ex.d) (P := fun _ x => x.ok names 2) (Inv := fun t1 S1 => Env2 names n r m u S1 t1 v ∧ Fr [n, m] S2 S1) (c := costE 1) (t := t + 2 + 1) _ (by rw [el]; omega) (fun d hd acc S3 K' t1 ha iv ht1 nx => ⟨_, rfl, ?_⟩) (fun _ _ _ => trivial) ⟨e2, .refl⟩ fun es S3 hes hw iv => ?_
    · rw [el] at ht1
      simp only [costE] at ht1
      walk_at "go"
      refine expr2 (d := 1) (ex 1 (by decide)) z iv.1 (by simp only [costE]; omega) fun x S5 hx e5 f5 => ?_
      exact ⟨lt_sz ha, nx x S5 hx ⟨e5, iv.2.trans f5⟩⟩
    · rw [el] at iv hes
      simp only [costE] at iv
      refine ⟨_, lst_of at_push, ?_⟩
      walk_at "go"
      refine leaf (a := .choose nm es) ⟨hn, by omega, by omega, fun x hx => (hw x hx).elim fun _ h => h.2⟩ (iv.1.push.le (by omega)) ?_
      exact (fr1 F2).trans ((fr2 iv.2).trans .push)
  refine ex_ite (fun c7 => ?_) fun c7 => ?_
  · refine cond2 (d := 2) (co 2 (by decide)) z e (by simp only [costC]; omega) fun x S1 hx e1 f1 => ?_
    walk_at "go"
    simp only [costC] at e1
    exact leaf (a := .see x) hx (e1.le (by omega)) (fr2 f1)
  have w7 : ¬ w < 7 := by
    have := of_decide_eq_false c
    have := of_decide_eq_false c5
    have := of_decide_eq_false c6
    have := of_decide_eq_false c7
    omega
  obtain ⟨w11, v2, d, rfl⟩ := w1.resolve_left w7
  simp only [costS] at ht q c1000
  have ed : ((d + 1 + 1 : Nat) : Int) - 1 = ((d + 1 : Nat) : Int) := by omega
  refine cond2 (d := 2) (co 2 (by decide)) z e (by simp only [costC]; omega) fun x S1 hx e1 f1 => ?_
  simp only [costC] at e1
  walk_at "go"
  rw [ed]
  refine rec d rfl e1 (by omega) fun s1 S2 v1 ok1 _ e2 sz1 lo1 f2 => ?_
  walk_at "go"
  refine ex_ite (fun c8 => ?_) fun c8 => ?_
  · refine q (.hold "while" x (.cons s1 .nil)) S2 v1 ⟨by omega, Co.ok_mono hx (by decide), .inr ⟨rfl, rfl⟩, ok1, trivial⟩ (fun _ => trivial) (e2.le (by omega)) ?_ (.inr (by omega)) ((fr2 f1).trans f2)
    simp only [St.size, Sts.size]
    omega
  · refine rec d rfl e2 (by omega) fun s2 S3 v2' ok2 _ e3 sz2 lo2 f3 => ?_
    walk_at "go"
    refine q (.hold "if" x (.cons s1 (.cons s2 .nil))) S3 v2' ⟨by omega, Co.ok_mono hx (by decide), .inl ⟨rfl, rfl⟩, ok1, ok2, trivial⟩ (fun _ => trivial) (e3.le (by omega)) ?_ (.inr (by omega)) ((fr2 f1).trans (f2.trans f3))
    simp only [St.size, Sts.size]
    omega
end K03

-- K03_L
set_option Elab.async false
set_option linter.all false
set_option maxRecDepth 100000
namespace K03
open PySem L2 PyProof.Rows
open Ip hiding start
local macro_rules | `(tactic| walk_at "run") => `(tactic| simp only [WSs, WS, Ip.WE, WA, WT, WO, WI, WF, Ip.start, List.length_cons, List.length_nil, List.map_cons, List.map_nil, List.cons_append, List.nil_append, List.replicate, Nat.zero_add, Nat.reduceAdd, Nat.reduceSub, List.getElem?_cons_zero, List.getElem?_cons_succ, List.set_cons_zero, List.set_cons_succ, bindT, bindA])
local macro_rules | `(tactic| walk_at "go") => `(tactic| try simp only [WSs, WS, Ip.WE, WA, WT, WO, WI, WF, Ip.start, wipeD, recv, List.length_cons, List.length_nil, List.length_map, List.map_cons, List.map_nil, List.cons_append, List.nil_append, List.replicate, Nat.zero_add, Nat.reduceAdd, Nat.reduceSub, List.getElem?_cons_zero, List.getElem?_cons_succ, List.set_cons_zero, List.set_cons_succ, bindT, bindA,
  Option.bind_some, run_exbl, run_exint, run_trbl, run_ix0, run_ix1, run_ix2, run_ix3, run_add, run_sub, run_lt, run_le, run_gt, run_ge, run_eqi, run_nei, run_eqs, run_nes, run_ins, run_nins, run_isnon, run_isnnon, run_len, run_min, run_max, run_int, run_any1, run_any0, run_all1, run_all0, run_eqF, run_isT1, run_isT2, run_isT3, run_isT4, run_isT5, run_isT6, run_fl1, run_nn1, run_nn2, run_s0, run_s1, run_s2, run_s3, run_s4, run_s5, run_s6, run_cut1, run_cut2, run_itT, run_itO, run_itR, run_slT, run_augA, run_augS,
  sk_num, sk_var, sk_add, sk_less_by, sk_times, sk_least, sk_most, sk_true, sk_is, sk_below, sk_not, sk_and, sk_or, sk_skip, sk_set, sk_draw, sk_choose, sk_see, sk_if, sk_while, sk_seq,
  ofString_inj, String.reduceEq, ↓reduceIte, Bool.false_eq_true, decide_true, decide_false, Bool.not_true, Bool.not_false, Bool.or_true, Bool.true_or, Bool.or_false, Bool.false_or, Bool.and_true, Bool.true_and, Bool.and_false, Bool.false_and, true_and, and_true, Int.cast_ofNat_Int, Int.reduceLT, Int.reduceLE, Int.reduceEq, Int.reduceSub, Int.reduceAdd, Int.reduceNeg, Nat.reduceEqDiff, Bool.not_eq_true, Int.ofNat_eq_natCast, Int.reduceGT, gt_iff_lt, ge_iff_le])
theorem stat_head {names : List Str} (n0 : 0 < names.length) (n1 : names.length < 1000) {n r m u : Nat} (z : Ds n r m u) {d l : Nat}
    (ex : ∀ d', d' ≤ 2 → ExprSpec names n r m d' (l + 3)) (co : ∀ d', d' ≤ 2 → CondSpec names n r m d' (l + 3)) (rec : ∀ d', d = d' + 1 → SsSpec names n r m u d' (l + 3)) : StSpec names n r m u d (l + 4) := by
  intro t v S R E e ht q
  refine sem_def T5 rfl ?_
  have hb : b5 = b5.getD 0 .pass :: b5.getD 1 .pass :: b5.getD 2 .pass :: b5.drop 3 := rfl
  rw [hb]
  have tail := fun (w : Int) (nm : Str) (S2 : Sto) w0 w1 hn e2 => stat_tail (l := l) (R := R) (E := E) (v := v - 1) (w := w) (nm := nm) n0 n1 z (d := d) (S := S2) (t := t) ex co rec w0 w1 hn e2 ht
  generalize b5.drop 3 = rest at tail ⊢
  simp only [b5, List.getD_cons_zero, List.getD_cons_succ]
  have c1000 := costS_ge d
  walk_at "go"
  refine ix_lst e.lef (j := 0) rfl rfl (sub_int (put_lst e.lef (j := 0) rfl (Nat.zero_lt_succ _) ?_))
  have hS1 := set_at (c := .lst [.int (v - 1)]) (lt_at e.lef)
  have fS : ∀ {ex : List Nat} {c : Cell}, u ∈ ex → Fr ex S (S.set u c) := fun h => Fr.set h
  have eS : Env2 names n r m u (S.set u (.lst [.int (v - 1)])) t (v - 1) := by
    refine ⟨⟨e.e1.bag.fr (.set (ex := [u]) (by simp)) (by have := z.h4; simp; omega), (Fr.set (ex := [u]) (by simp)).at e.e1.nam (by have := z.h6; simp; omega), ?_⟩, hS1⟩
    obtain ⟨y, hy⟩ := e.e1.room
    exact ⟨y, (Fr.set (ex := [u]) (by simp)).at hy (by have := z.h5; simp; omega)⟩
  have way : ∀ (many : Int), 0 < many → many < 1000 → (∀ w : Int, w < many → w < 7 ∨ (w < 11 ∧ 2 < v - 1 ∧ ∃ d', d = d' + 1)) → SEM txt.T (l + 3) 0 [.ref n, .int many] (S.set u (.lst [.int (v - 1)]))
      (fun x S1 => SEM txt.T (l + 3) 1 [.ref n, .ref r] S1 (fun y S2 => WSs (SEM txt.T (l + 3)) rest (EndR R) [some (.ref n), some (.ref r), some (.ref m), some (.ref u), some (.int (d + 1 : Nat)), some x, some y, none, none, none, none, none, none] S2 fun x _ S' => E x S') fun x S2 => E x S2) fun x S2 => E x S2 := fun many m0 m1 hw => by
    refine take_s eS.e1.bag (by omega) m0 m1 fun w S2 w0 w1 B F => ?_
    have e2 := eS.fr z B F
    refine pick_s e2.e1.bag (by omega) e2.e1.nam z.h1 (by simpa using n0) (by simpa using n1) fun y S3 hy B3 F3 => ?_
    obtain ⟨nm, hn, rfl⟩ := str_of hy
    refine tail w nm S3 w0 (hw w w1) hn (e2.fr z B3 F3) fun s S' v' ok pl e' sz lo f => q s S' v' ok pl e' (by omega) (by omega) (((fS (by simp)).trans ((fr1 F).trans (fr1 F3))).trans f)
  refine ex_ite (fun c => ?_) fun c => ?_
  · refine ix_lst hS1 (j := 0) rfl rfl ?_
    have hd : ∃ d', d = d' + 1 := by
      have := of_decide_eq_true c
      exact ⟨d - 1, by omega⟩
    walk_at "go"
    refine ex_ite (fun c2 => ?_) fun c2 => ?_
    · have := of_decide_eq_true c2
      exact way 11 (by decide) (by decide) fun w hw => .inr ⟨hw, this, hd⟩
    · exact way 7 (by decide) (by decide) fun w hw => .inl hw
  · walk_at "go"
    exact way 7 (by decide) (by decide) fun w hw => .inl hw
theorem sts_of {names : List Str} {n r m u : Nat} (z : Ds n r m u) {d l : Nat} (st : StSpec names n r m u d (l + 1)) : SsSpec names n r m u d (l + 2) := by
  intro t v S R E e ht q
  have c1000 := costS_ge d
  refine sem_def T6 rfl ?_
  simp only [b6]
  walk_at "go"
  refine st e (by omega) fun s1 S1 v1 ok1 pl1 e1 sz1 lo1 f1 => ?_
  refine take_s e1.push.e1.bag (by omega) (by decide) (by decide) fun k S2 k0 k1 B2 F2 => ?_
  have e2 := e1.push.fr z B2 F2
  have ne : S1.length ∉ [n, m, u] := by
    have h1 := e1.e1.bag.lt
    have h2 := e1.e1.room.elim fun _ h => lt_at h
    have h3 := lt_at e1.lef
    simp only [List.mem_cons, List.not_mem_nil, or_false]
    omega
  have hf : S2[S1.length]? = some (.lst [s1.d]) := F2.at at_push (by simp only [List.mem_cons, List.not_mem_nil, or_false] at ne ⊢; omega)
  walk_at "go"
  refine ⟨by omega, by omega, ?_⟩
  have el : ((List.range k.toNat).map fun (k : Nat) => D.int k).length = k.toNat := by simp
  refine loop_inv (I := fun ds ρ S3 => ∃ (ss : List St) (v3 : Int) (x : Option D), ρ = [some (.ref n), some (.ref r), some (.ref m), some (.ref u), some (.int (d + 1 : Nat)), some (.ref S1.length), x] ∧ ss ≠ [] ∧ ss.length + ds.length ≤ 1 + k.toNat ∧ S3[S1.length]? = some (.lst (ss.map St.d)) ∧
      (∀ s ∈ ss, s.ok names (d + 1) ∧ s.plain) ∧ Env2 names n r m u S3 (t + costS d * ss.length + 1) v3 ∧ v3 + ((ss.map St.size).sum : Nat) = v ∧ (v - 1 ≤ v3 ∨ -(d + 1 : Int) ≤ v3) ∧ Fr [n, m, u] S S3 ∧ S1.length < S3.length)
    (fun y ds ρ S3 R' i nx ct hr => ?_) (fun _ _ _ _ => trivial) (fun ρ S3 i => ?_) _ _ _ ⟨[s1], v1, none, rfl, by simp, by rw [el]; simp only [List.length_cons, List.length_nil]; omega, hf, ?_, ?_, by simpa using sz1, lo1, f1.trans (Fr.push.trans (fr1 F2)), lt_at hf⟩
  · obtain ⟨ss, v3, x, rfl, hne, hlen, hc, hok, e3, sz3, lo3, f3, lt3⟩ := i
    simp only [List.length_cons] at hlen
    have l4 : ss.length ≤ 3 := by omega
    refine ⟨_, rfl, ?_⟩
    walk_at "go"
    refine ix_lst e3.lef (j := 0) rfl rfl ?_
    walk_at "go"
    refine ex_ite (fun c => ?_) fun c => ?_
    · have v0 := of_decide_eq_true c
      refine ⟨⟨S1.length, _, rfl, lst_of hc⟩, ?_⟩
      have cm : costS d * ss.length ≤ costS d * 3 := Nat.mul_le_mul_left _ l4
      refine st e3 (by omega) fun s4 S4 v4 ok4 pl4 e4 sz4 lo4 f4 => ?_
      have hc4 := f4.at hc ne
      refine append_ok hc4 (by rw [List.length_map]; omega) ?_
      refine nx _ _ ⟨ss ++ [s4], v4, some y, rfl, by simp, by simp only [List.length_append, List.length_cons, List.length_nil]; omega, by rw [set_at (lt_at hc4)]; simp, fun s hs => ?_, ?_, ?_, ?_, ?_, ?_⟩
      · rcases List.mem_append.mp hs with hs | hs
        · exact hok s hs
        · simp only [List.mem_singleton] at hs
          subst hs
          exact ⟨ok4, pl4 trivial⟩
      · have ec : t + costS d * (ss ++ [s4]).length + 1 = t + costS d * ss.length + 1 + costS d := by
          simp only [List.length_append, List.length_cons, List.length_nil, Nat.zero_add, Nat.mul_add, Nat.mul_one]
          omega
        rw [ec]
        have fs : Fr [S1.length] S4 (S4.set S1.length (.lst (ss.map St.d ++ [s4.d]))) := .set (by simp)
        simp only [List.mem_cons, List.not_mem_nil, or_false] at ne
        have hrn : r ≠ S1.length := by have := lt_at e1.e1.nam; omega
        refine ⟨⟨e4.e1.bag.fr fs (by simp; omega), fs.at e4.e1.nam (by simp; omega), ?_⟩, fs.at e4.lef (by simp; omega)⟩
        obtain ⟨y, hy⟩ := e4.e1.room
        exact ⟨y, fs.at hy (by simp; omega)⟩
      · simp only [List.map_append, List.map_cons, List.map_nil, List.sum_append, List.sum_cons, List.sum_nil]
        omega
      · omega
      · have := (f3.trans f4)
        refine this.setNew ?_
        exact Nat.le_trans f1.len (by omega)
      · have := f4.len
        rw [List.length_set]
        omega
    · exact nx _ _ ⟨ss, v3, some y, rfl, hne, by omega, hc, hok, e3, sz3, lo3, f3, lt3⟩
  · obtain ⟨ss, v3, x, rfl, hne, hlen, hc, hok, e3, sz3, lo3, f3, lt3⟩ := i
    simp only [List.length_nil] at hlen
    have l4 : ss.length ≤ 4 := by omega
    have cm : costS d * ss.length ≤ costS d * 4 := Nat.mul_le_mul_left _ l4
    have e4 := e3.le (t' := t + (4 * costS d + 1)) (by omega)
    walk_at "go"
    refine .inl ⟨_, lst_of hc, ?_⟩
    walk_at "go"
    match ss, hne with
    | [s], _ =>
      walk_at "go"
      refine ix_lst hc (j := 0) rfl rfl ?_
      simp only [List.map_cons, List.map_nil, List.sum_cons, List.sum_nil, Nat.add_zero] at sz3
      exact q s S3 v3 (hok s (by simp)).1 (fun h => h.elim) e4 sz3 lo3 f3
    | s :: s' :: r', _ =>
      have z1 : (((r'.length + 1 + 1 : Nat) : Int) = 1) = False := by simp only [eq_iff_iff, iff_false]; omega
      simp only [List.length_cons, z1, decide_false, Bool.false_eq_true, ↓reduceIte]
      refine ⟨_, lst_of hc, ?_⟩
      walk_at "go"
      have eq := Sts.list_of (s :: s' :: r')
      have ed : (St.seq (Sts.of (s :: s' :: r'))).d = .tup [.str "seq", .tup (s.d :: s'.d :: r'.map St.d)] := by
        simp only [St.d]
        rw [Sts.ds_eq, eq]
        rfl
      rw [← ed]
      refine q _ S3 v3 ⟨?_, ?_, ?_⟩ (fun h => h.elim) e4 ?_ lo3 f3
      · rw [Sts.len_eq, eq]; simp
      · rw [Sts.plain_iff, eq]; exact fun s hs => (hok s hs).2
      · rw [Sts.ok_iff, eq]; exact fun s hs => (hok s hs).1
      · simp only [St.size]
        rw [Sts.size_eq, eq]
        exact sz3
  · intro s hs
    simp only [List.mem_singleton] at hs
    subst hs
    exact ⟨ok1, pl1 trivial⟩
  · simpa [Nat.add_assoc] using e2
end K03

-- K03_M
set_option Elab.async false
set_option linter.all false
set_option maxRecDepth 100000
namespace K03
open PySem L2 PyProof.Rows
open Ip hiding start
local macro_rules | `(tactic| walk_at "run") => `(tactic| simp only [WSs, WS, Ip.WE, WA, WT, WO, WI, WF, Ip.start, List.length_cons, List.length_nil, List.map_cons, List.map_nil, List.cons_append, List.nil_append, List.replicate, Nat.zero_add, Nat.reduceAdd, Nat.reduceSub, List.getElem?_cons_zero, List.getElem?_cons_succ, List.set_cons_zero, List.set_cons_succ, bindT, bindA])
local macro_rules | `(tactic| walk_at "go") => `(tactic| try simp only [WSs, WS, Ip.WE, WA, WT, WO, WI, WF, Ip.start, wipeD, recv, List.length_cons, List.length_nil, List.length_map, List.map_cons, List.map_nil, List.cons_append, List.nil_append, List.replicate, Nat.zero_add, Nat.reduceAdd, Nat.reduceSub, List.getElem?_cons_zero, List.getElem?_cons_succ, List.set_cons_zero, List.set_cons_succ, bindT, bindA,
  Option.bind_some, run_exbl, run_exint, run_trbl, run_ix0, run_ix1, run_ix2, run_ix3, run_add, run_sub, run_lt, run_le, run_gt, run_ge, run_eqi, run_nei, run_eqs, run_nes, run_ins, run_nins, run_isnon, run_isnnon, run_len, run_min, run_max, run_int, run_any1, run_any0, run_all1, run_all0, run_eqF, run_isT1, run_isT2, run_isT3, run_isT4, run_isT5, run_isT6, run_fl1, run_nn1, run_nn2, run_s0, run_s1, run_s2, run_s3, run_s4, run_s5, run_s6, run_cut1, run_cut2, run_itT, run_itO, run_itR, run_slT, run_augA, run_augS,
  sk_num, sk_var, sk_add, sk_less_by, sk_times, sk_least, sk_most, sk_true, sk_is, sk_below, sk_not, sk_and, sk_or, sk_skip, sk_set, sk_draw, sk_choose, sk_see, sk_if, sk_while, sk_seq,
  ofString_inj, String.reduceEq, ↓reduceIte, Bool.false_eq_true, decide_true, decide_false, Bool.not_true, Bool.not_false, Bool.or_true, Bool.true_or, Bool.or_false, Bool.false_or, Bool.and_true, Bool.true_and, Bool.and_false, Bool.false_and, true_and, and_true, Int.cast_ofNat_Int, Int.reduceLT, Int.reduceLE, Int.reduceEq, Int.reduceSub, Int.reduceAdd, Int.reduceNeg, Nat.reduceEqDiff, Bool.not_eq_true, Int.ofNat_eq_natCast, Int.reduceGT, gt_iff_lt, ge_iff_le])
theorem T2 : txt.T 2 = some ⟨5, 1, b2⟩ := rfl
theorem T7 : txt.T 7 = some ⟨6, 1, b7⟩ := rfl
theorem stat_s {names : List Str} (n0 : 0 < names.length) (n1 : names.length < 1000) {n r m u : Nat} (z : Ds n r m u) : ∀ d l : Nat, 2 * d + 14 ≤ l → StSpec names n r m u d l := by
  have ex : ∀ l : Nat, 5 ≤ l → ∀ d', d' ≤ 2 → ExprSpec names n r m d' l := fun l hl d' h => by
    obtain ⟨j, rfl⟩ : ∃ j, l = j + d' + 3 := ⟨l - d' - 3, by omega⟩
    exact @expr_s names n0 n1 n r m z.h1 z.h2 z.h3 d' j
  have co : ∀ l : Nat, 9 ≤ l → ∀ d', d' ≤ 2 → CondSpec names n r m d' l := fun l hl d' h => by
    obtain ⟨j, rfl⟩ : ∃ j, l = j + d' + 7 := ⟨l - d' - 7, by omega⟩
    exact @cond_s names n0 n1 n r m z.h1 z.h2 z.h3 d' j
  intro d
  induction d with
  | zero =>
    intro l hl
    obtain ⟨l, rfl⟩ : ∃ j, l = j + 4 := ⟨l - 4, by omega⟩
    exact stat_head n0 n1 z (ex _ (by omega)) (co _ (by omega)) fun d' e => by cases e
  | succ d ih =>
    intro l hl
    obtain ⟨l, rfl⟩ : ∃ j, l = j + 4 := ⟨l - 4, by omega⟩
    refine stat_head n0 n1 z (ex _ (by omega)) (co _ (by omega)) fun d' e => ?_
    cases e
    obtain ⟨j, rfl⟩ : ∃ j, l = j + 1 := ⟨l - 1, by omega⟩
    exact sts_of (l := j + 2) z (ih (j + 3) (by omega))
theorem stats_s {names : List Str} (n0 : 0 < names.length) (n1 : names.length < 1000) {n r m u : Nat} (z : Ds n r m u) (d l : Nat) (hl : 2 * d + 15 ≤ l) : SsSpec names n r m u d l := by
  obtain ⟨j, rfl⟩ : ∃ j, l = j + 2 := ⟨l - 2, by omega⟩
  exact sts_of z (stat_s n0 n1 z d (j + 1) (by omega))
/-! ### variables drawn -/
def sizesL : List (List Int) := [[2], [3], [6], [2, 2], [2, 3], [3, 2], [4, 6], [2, 2, 2], [2, 2, 6], [2, 2, 2, 3], [4], [5], [3, 2, 2, 2], [2, 4, 3]]
theorem sizesL_ok : ∀ is ∈ sizesL, 1 ≤ is.length ∧ is.length ≤ 4 ∧ (∀ i ∈ is, 2 ≤ i ∧ i ≤ 6) ∧ is.prod ≤ 24 := by decide
def poolAt (i : Nat) : Str := pool.getD i "x"
def varsOf (f : Nat) (is : List Int) : List (Str × Int) := (List.range is.length).map fun k => (poolAt ((f + 3 * k) % 11), is.getD k 2)
theorem pool_nd : ∀ f, f < 11 → ∀ j, j < 5 → ((List.range j).map fun k => poolAt ((f + 3 * k) % 11)).Nodup := by decide +kernel
theorem range_getD (is : List Int) : (List.range is.length).map (fun k => is.getD k 2) = is := by
  apply List.ext_getElem
  · simp
  · intro i h1 h2
    simp [h2]
theorem varsOf_ok {f : Nat} (hf : f < 11) {is : List Int} (h : is ∈ sizesL) : VarsOk (varsOf f is) := by
  obtain ⟨h1, h2, h3, h4⟩ := sizesL_ok is h
  have e1 : (varsOf f is).map (·.1) = (List.range is.length).map fun k => poolAt ((f + 3 * k) % 11) := by simp [varsOf, Function.comp_def]
  have e2 : (varsOf f is).map (·.2) = is := by
    have := range_getD is
    unfold varsOf
    rw [List.map_map]
    exact this
  have so : ∀ x ∈ pool, PyData.strOk x = true := by
    have : pool.all PyData.strOk = true := by decide +kernel
    exact fun x hx => List.all_eq_true.mp this x hx
  refine ⟨by simpa [varsOf] using h1, by simpa [varsOf] using h2, fun v hv => ?_, fun v hv => ?_, fun v hv => ?_, ?_, ?_⟩
  · obtain ⟨k, hk, rfl⟩ := List.mem_map.mp hv
    have lt : (f + 3 * k) % 11 < pool.length := Nat.mod_lt _ (by decide)
    show NameOk (poolAt _)
    unfold poolAt
    rw [List.getD_eq_getElem?_getD, List.getElem?_eq_getElem lt]
    exact pool_ok _ (List.getElem_mem lt)
  · obtain ⟨k, hk, rfl⟩ := List.mem_map.mp hv
    have lt : (f + 3 * k) % 11 < pool.length := Nat.mod_lt _ (by decide)
    show PyData.strOk (poolAt _) = true
    unfold poolAt
    rw [List.getD_eq_getElem?_getD, List.getElem?_eq_getElem lt]
    exact so _ (List.getElem_mem lt)
  · have : v.2 ∈ (varsOf f is).map (·.2) := List.mem_map_of_mem hv
    rw [e2] at this
    exact h3 _ this
  · rw [e1]
    exact pool_nd f hf _ (by omega)
  · rw [e2]
    exact h4
theorem variables_s {n t l : Nat} {S : Sto} {R : RD} {E : Exn → Sto → Prop} (hB : Bag S n t) (ht : t + 2 ≤ T0') (q : ∀ f is S', f < 11 → is ∈ sizesL → Bag S' n (t + 2) → Fr [n] S S' → R (.tup ((varsOf f is).map varD)) S') : SEM txt.T (l + 3) 2 [.ref n] S R E := by
  refine sem_def T2 rfl ?_
  simp only [b2]
  walk_at "go"
  refine ⟨len3 (by decide), pick_s (r := S.length) hB.push (by omega) at_push (by have := hB.lt; omega) (by simp) (by simp) fun x S1 hx B1 F1 => ?_⟩
  obtain ⟨is, his, rfl⟩ : ∃ is ∈ sizesL, x = .tup (is.map .int) := by
    have : x ∈ sizesL.map fun is => D.tup (is.map .int) := hx
    obtain ⟨is, h1, h2⟩ := List.mem_map.mp this
    exact ⟨is, h1, h2.symm⟩
  obtain ⟨h1, h2, h3, h4⟩ := sizesL_ok is his
  walk_at "go"
  refine ⟨len3 (by decide), ?_⟩
  refine take_s B1.push (by omega) (by decide) (by decide) fun fi S2 f0 f11 B2 F2 => ?_
  obtain ⟨f, rfl⟩ := Int.eq_ofNat_of_zero_le f0
  have hp : S2[S1.length]? = some (.lst (pool.map .str)) := F2.at at_push (by have := B1.lt; simp; omega)
  walk_at "go"
  refine ⟨by omega, by omega, ?_⟩
  refine comp_map (g := fun k : Nat => D.int k) (f := fun k : Nat => varD (poolAt ((f + 3 * k) % 11), is.getD k 2)) (List.range ((is.length : Int)).toNat) (fun k hk acc S3 K' ha f3 nx => ⟨_, rfl, ?_⟩) (fun _ _ => trivial) (by simp; omega) fun S3 f3 => ?_
  · have hk' : k < is.length := by simpa using hk
    walk_at "go"
    refine mul_int (mulW (p := 2) (q := 3) (by decide) (by unfold Sz; show (k : Int).natAbs < 8; omega) (by decide)) ?_
    walk_at "go"
    refine mod_int (by decide) ?_
    have em : (((f : Int) + 3 * (k : Int)) % 11) = (((f + 3 * k) % 11 : Nat) : Int) := by omega
    rw [em]
    have lt : (f + 3 * k) % 11 < pool.length := Nat.mod_lt _ (by decide)
    refine ix_lst (f3.at hp (by simp)) (j := (f + 3 * k) % 11) (d := .str (poolAt ((f + 3 * k) % 11))) ?_ ?_ ?_
    · rw [ixN_ok (by omega) (by rw [List.length_map]; omega), Int.toNat_natCast]
    · unfold poolAt
      rw [List.getElem?_map, List.getD_eq_getElem?_getD, List.getElem?_eq_getElem lt]
      rfl
    · refine ix_tup (j := k) (d := .int (is.getD k 2)) ?_ ?_ ?_
      · rw [ixN_ok (by omega) (by rw [List.length_map]; omega), Int.toNat_natCast]
      · rw [List.getElem?_map, List.getD_eq_getElem?_getD, List.getElem?_eq_getElem hk']
        rfl
      · walk_at "go"
        exact ⟨lt_sz ha, nx S3 .refl⟩
  · refine ⟨_, lst_of at_push, ?_⟩
    have e : ((List.range ((is.length : Int)).toNat).map fun k : Nat => varD (poolAt ((f + 3 * k) % 11), is.getD k 2)) = (varsOf f is).map varD := by
      simp [varsOf, Function.comp_def]
    rw [e]
    refine q f is _ (by omega) his ((B2.fr (f3.weak (ex := [])) (by simp)).push) ?_
    exact (Fr.push.trans F1).trans ((Fr.push.trans F2).trans (f3.weak.trans .push))
/-! ### a program drawn -/
theorem Fr.drop {n : Nat} {ex : List Nat} {S S1 S' : Sto} (a : Fr [n] S S1) (b : Fr ex S1 S') (h : ∀ j ∈ ex, j = n ∨ S.length ≤ j) : Fr [n] S S' :=
  ⟨Nat.le_trans a.len b.len, fun i hi hn => (b.eq i (Nat.lt_of_lt_of_le hi a.len) fun hj => by
    rcases h i hj with e | e
    · exact hn (by simp [e])
    · omega).trans (a.eq i hi hn)⟩
set_option exponentiation.threshold 20000
theorem T0_big : 2 ^ 60 ≤ T0' := Nat.pow_le_pow_right (by decide) (by decide)
theorem program_draw {n l : Nat} (hl : 40 ≤ l) {S : Sto} {R : RD} {E : Exn → Sto → Prop} (hB : Bag S n 100000) (q : ∀ vs s S', Plan vs s → Fr [n] S S' → R (planD vs s) S') : SEM txt.T l 7 [.ref n] S R E := by
  obtain ⟨l, rfl⟩ := Nat.exists_eq_add_of_le' hl
  have tb := T0_big
  refine sem_def T7 rfl ?_
  simp only [b7]
  walk_at "go"
  refine variables_s hB (by omega) fun f is S1 hf his B1 F1 => ?_
  have vo := varsOf_ok hf his
  generalize varsOf f is = vs at vo
  have n4 := vo.n4
  have nz := vo.n0
  walk_at "go"
  refine comp_map (g := varD) (f := fun v : Str × Int => .str v.1) vs (fun v hv acc S2 K' ha f2 nx => ⟨_, rfl, ?_⟩) (fun _ _ => trivial) (by omega) fun S2 f2 => ?_
  · walk_at "go"
    exact ⟨lt_sz ha, nx S2 .refl⟩
  have e : (vs.map fun v => D.str v.1) = (vs.map (·.1)).map .str := by simp
  rw [e]
  have B2 : Bag (S2 ++ [.lst ((vs.map (·.1)).map .str)]) n 100002 := (B1.fr f2 (by simp)).push
  refine pick_int (is := [1, 4, 12, 30]) B2 (by omega) (by simp) (by simp) fun v S3 hv B3 F3 => ?_
  have hn3 : S3[S2.length]? = some (.lst ((vs.map (·.1)).map .str)) := F3.at at_push (by have := B1.lt; have := f2.len; simp only [List.mem_cons, List.not_mem_nil, or_false]; omega)
  walk_at "go"
  refine pick_int (is := [3, 5, 11]) (B3.push.push) (by omega) (by simp) (by simp) fun dp S4 hd B4 F4 => ?_
  have lb := B3.lt
  have len12 := f2.len
  have len23 := F3.len
  have lt2 := lt_at hn3
  rw [List.length_append, List.length_cons, List.length_nil] at len23
  have hn4 : S4[S2.length]? = some (.lst ((vs.map (·.1)).map .str)) := F4.at (((Fr.push (ex := [])).trans .push).at hn3 (by simp)) (by have := B1.lt; simp only [List.mem_cons, List.not_mem_nil, or_false]; omega)
  have hu4 : S4[S3.length]? = some (.lst [.int v]) := F4.at ((Fr.push (ex := [])).at at_push (by simp)) (by simp only [List.mem_cons, List.not_mem_nil, or_false]; omega)
  have hm4 : S4[S3.length + 1]? = some (.lst [.int 90]) := F4.at (by have := at_push (S := S3 ++ [.lst [.int v]]) (c := .lst [.int 90]); simpa using this) (by simp only [List.mem_cons, List.not_mem_nil, or_false]; omega)
  have z : Ds n S2.length (S3.length + 1) S3.length := ⟨by have := B1.lt; omega, by omega, by omega, by omega, by omega, by omega⟩
  have env : Env2 (vs.map (·.1)) n S2.length (S3.length + 1) S3.length S4 (100002 + 1 + 1) v := ⟨⟨B4, hn4, 90, hm4⟩, hu4⟩
  have big : ∃ d : Nat, dp = ((d + 1 : Nat) : Int) ∧ d ≤ 10 ∧ 4 * costS d + 1 ≤ 2 ^ 50 := by
    simp only [List.mem_cons, List.not_mem_nil, or_false] at hd
    rcases hd with rfl | rfl | rfl
    · exact ⟨2, rfl, by decide, by decide⟩
    · exact ⟨4, rfl, by decide, by decide⟩
    · exact ⟨10, rfl, by decide, by decide⟩
  obtain ⟨d, rfl, d10, cb⟩ := big
  have v30 : v ≤ 30 := by
    simp only [List.mem_cons, List.not_mem_nil, or_false] at hv
    omega
  have el : (S3 ++ [Cell.lst [D.int v]]).length = S3.length + 1 := by simp
  simp only [el]
  refine stats_s (by rw [List.length_map]; omega) (by rw [List.length_map]; omega) z d _ (by omega) env (by omega) fun s S5 v' ok _ e5 sz lo f5 => ?_
  walk_at "go"
  refine q vs s S5 ⟨vo, St.ok_mono ok (by omega), by omega⟩ ?_
  have F03 : Fr [n] S S3 := F1.trans (f2.weak.trans (Fr.push.trans F3))
  have F04 : Fr [n] S S4 := F03.trans ((Fr.push.trans .push).trans F4)
  refine F04.drop f5 fun j hj => ?_
  have := F03.len
  simp only [List.mem_cons, List.not_mem_nil, or_false] at hj
  omega
end K03

-- K03_N
set_option Elab.async false
set_option linter.all false
set_option maxRecDepth 100000
namespace K03
open PySem L2 PyProof.Rows
open Ip hiding start
local macro_rules | `(tactic| walk_at "run") => `(tactic| simp only [WSs, WS, Ip.WE, WA, WT, WO, WI, WF, Ip.start, List.length_cons, List.length_nil, List.map_cons, List.map_nil, List.cons_append, List.nil_append, List.replicate, Nat.zero_add, Nat.reduceAdd, Nat.reduceSub, List.getElem?_cons_zero, List.getElem?_cons_succ, List.set_cons_zero, List.set_cons_succ, bindT, bindA])
local macro_rules | `(tactic| walk_at "go") => `(tactic| try simp only [WSs, WS, Ip.WE, WA, WT, WO, WI, WF, Ip.start, wipeD, recv, List.length_cons, List.length_nil, List.length_map, List.map_cons, List.map_nil, List.cons_append, List.nil_append, List.replicate, Nat.zero_add, Nat.reduceAdd, Nat.reduceSub, List.getElem?_cons_zero, List.getElem?_cons_succ, List.set_cons_zero, List.set_cons_succ, bindT, bindA,
  Option.bind_some, run_exbl, run_exint, run_trbl, run_ix0, run_ix1, run_ix2, run_ix3, run_add, run_sub, run_lt, run_le, run_gt, run_ge, run_eqi, run_nei, run_eqs, run_nes, run_ins, run_nins, run_isnon, run_isnnon, run_len, run_min, run_max, run_int, run_any1, run_any0, run_all1, run_all0, run_eqF, run_isT1, run_isT2, run_isT3, run_isT4, run_isT5, run_isT6, run_fl1, run_nn1, run_nn2, run_s0, run_s1, run_s2, run_s3, run_s4, run_s5, run_s6, run_cut1, run_cut2, run_itT, run_itO, run_itR, run_slT, run_augA, run_augS,
  sk_num, sk_var, sk_add, sk_less_by, sk_times, sk_least, sk_most, sk_true, sk_is, sk_below, sk_not, sk_and, sk_or, sk_skip, sk_set, sk_draw, sk_choose, sk_see, sk_if, sk_while, sk_seq,
  ofString_inj, String.reduceEq, ↓reduceIte, Bool.false_eq_true, decide_true, decide_false, Bool.not_true, Bool.not_false, Bool.or_true, Bool.true_or, Bool.or_false, Bool.false_or, Bool.and_true, Bool.true_and, Bool.and_false, Bool.false_and, true_and, and_true, Int.cast_ofNat_Int, Int.reduceLT, Int.reduceLE, Int.reduceEq, Int.reduceSub, Int.reduceAdd, Int.reduceNeg, Nat.reduceEqDiff, Bool.not_eq_true, Int.ofNat_eq_natCast, Int.reduceGT, gt_iff_lt, ge_iff_le])
theorem isl {S : Sto} {r : Nat} {ds : List D} (h : S[r]? = some (.lst ds)) : isTy .list (.ref r) S = some true := by
  simp only [isTy, h]
theorem mapO_strs {S : Sto} {k : Nat} : ∀ {ys : List Str}, (∀ y ∈ ys, PyData.strOk y = true) → mapO (toPy S k) (ys.map .str) = some (ys.map .str)
  | [], _ => rfl
  | y :: ys, h => by
    have e1 : toPy S k (.str y) = some (.str y) := by
      have := h y (by simp)
      cases k <;> simp [toPy, this]
    have e2 := mapO_strs (S := S) (k := k) (ys := ys) fun z hz => h z (by simp [hz])
    simp only [List.map_cons, mapO, e1, e2]
theorem toPy_strs {S : Sto} {r : Nat} {ys : List Str} (h : S[r]? = some (.lst (ys.map .str))) (hy : ∀ y ∈ ys, PyData.strOk y = true) : toPy S 60 (.ref r) = some (.list (ys.map .str)) := by
  show (match lstOf S r with | some ds => (mapO (toPy S 59) ds).map PyData.list | none => none) = _
  rw [lst_of h]
  simp only [mapO_strs hy, Option.map_some]
theorem strs_lay {ys : List Str} (hy : ∀ y ∈ ys, PyData.strOk y = true) : PyData.canLayAll0 (ys.map .str) = true := by
  induction ys with
  | nil => rfl
  | cons y ys ih =>
    simp only [List.map_cons, PyData.canLayAll0, PyData.canLay0, Bool.and_eq_true]
    exact ⟨hy y (by simp), ih fun z hz => hy z (by simp [hz])⟩
theorem same_lists {S : Sto} {r r' : Nat} {ys : List Str} {R : RD} {F : Bool → Bool} (h : S[r]? = some (.lst (ys.map .str))) (h' : S[r']? = some (.lst (ys.map .str))) (hy : ∀ y ∈ ys, PyData.strOk y = true) (q : R (.bl (F true)) S) : cEq F (.ref r) (.ref r') S R := by
  refine ⟨_, _, toPy_strs h hy, toPy_strs h' hy, ?_⟩
  rw [PySem.SeqAt.eqv_refl (.list (ys.map .str)) (by simp only [PyData.canLay0]; exact strs_lay hy)]
  exact q
theorem ne_lists {S : Sto} {r r' : Nat} {ys : List Str} {R : RD} (h : S[r]? = some (.lst (ys.map .str))) (h' : S[r']? = some (.lst (ys.map .str))) (hy : ∀ y ∈ ys, PyData.strOk y = true) (q : R (.bl false) S) : oCmp .NotEq (.ref r) (.ref r') S R := same_lists (F := (!·)) h h' hy q
theorem eq_lists {S : Sto} {r r' : Nat} {ys : List Str} {R : RD} (h : S[r]? = some (.lst (ys.map .str))) (h' : S[r']? = some (.lst (ys.map .str))) (hy : ∀ y ∈ ys, PyData.strOk y = true) (q : R (.bl true) S) : oCmp .Eq (.ref r) (.ref r') S R := same_lists (F := id) h h' hy q
theorem Srt.ok {names xs ys : List Str} (h : Srt names xs ys) (hn : ∀ x ∈ names, PyData.strOk x = true) : ∀ y ∈ ys, PyData.strOk y = true := fun y hy =>
  hn y (List.mem_filter.mp (h.perm.mem_iff.mp hy)).1
theorem Srt.len {names xs ys : List Str} (h : Srt names xs ys) (n4 : names.length ≤ 4) : ys.length ≤ 4 := by
  have := h.perm.length_eq
  have := List.length_filter_le (fun k => decide (k ∈ xs)) names
  omega
theorem in_words {S : Sto} {c : Nat} {ws : List Str} {x : Str} {R : RD} (h : S[c]? = some (.lst (ws.map .str))) (q : R (.bl (ws.any fun w => decide (w = x))) S) : oCmp .In (.str x) (.ref c) S R := by
  refine .inl ⟨_, lst_of h, .inl ⟨rfl, ?_, ?_⟩⟩
  · simp [flatD]
  · have : (List.map D.str ws).any (fun z => eqF z (.str x)) = ws.any fun w => decide (w = x) := by
      rw [List.any_map]
      exact congrArg (fun f => ws.any f) (funext fun w => run_eqF w x)
    show R (.bl (id _)) S
    rw [this]
    exact q
theorem wds_any (s : St) (x : Str) : (s.wds.any fun w => decide (w = x)) = s.nodes.any fun t => decide (t.word = x) := by
  unfold St.wds
  rw [List.any_map]
  rfl
theorem bls_py {S : Sto} {r : Nat} {a b : Bool} (h : S[r]? = some (.lst [.bl a, .bl b, .bl a, .bl b])) : toPy S 60 (.ref r) = some (.list [.bool a, .bool b, .bool a, .bool b]) := by
  show (match lstOf S r with | some ds => (mapO (toPy S 59) ds).map PyData.list | none => none) = _
  rw [lst_of h]
  simp only [mapO, toPy, Option.map_some]
theorem bls_repr {S : Sto} {r : Nat} {a b : Bool} {R : RD} (h : S[r]? = some (.lst [.bl a, .bl b, .bl a, .bl b])) (q : R (.str (PyData.list [.bool a, .bool b, .bool a, .bool b]).shown) S) : oBi .repr [.ref r] S R := by
  refine ⟨_, bls_py h, ?_, ?_, ?_, q⟩
  · cases a <;> cases b <;> decide +kernel
  · cases a <;> cases b <;> decide +kernel
  · refine len3 ?_
    cases a <;> cases b <;> decide +kernel
theorem bls_shown (a b : Bool) : PyData.strOk (PyData.list [.bool a, .bool b, .bool a, .bool b]).shown = true := by
  cases a <;> cases b <;> decide +kernel
theorem new_at {S : Sto} {cs : List Cell} {i : Nat} {c : Cell} (h : cs[i]? = some c) : (S ++ cs)[S.length + i]? = some c := by
  rw [List.getElem?_append_right (by omega), show S.length + i - S.length = i by omega]
  exact h
theorem cells_new (S : Sto) : Cells (S.length + 3) S.length (S.length + 1) (S.length + 2) [] [] [] (S ++ [Cell.lst []] ++ [Cell.lst []] ++ [Cell.lst []] ++ [Cell.lst [.ref S.length, .ref (S.length + 1), .ref (S.length + 2)]]) := by
  have e : S ++ [Cell.lst []] ++ [Cell.lst []] ++ [Cell.lst []] ++ [Cell.lst [.ref S.length, .ref (S.length + 1), .ref (S.length + 2)]] = S ++ [.lst [], .lst [], .lst [], .lst [.ref S.length, .ref (S.length + 1), .ref (S.length + 2)]] := by simp
  rw [e]
  exact ⟨new_at (i := 3) rfl, new_at (i := 0) rfl, new_at (i := 1) rfl, new_at (i := 2) rfl⟩
theorem sort_ref {names xs : List Str} (nd : names.Nodup) (n4 : names.length ≤ 4) (hx : ∀ x ∈ xs, x ∈ names) (hl : xs.length ≤ 4000) {S1 : Sto} {k : Nat} {P : List Str → Prop} (e : S1[k]? = some (.lst (xs.map .str))) (q : ∀ ys, Srt names xs ys → P ys) :
    ∃ xs' L : List Str, seqOf S1 (.ref k) = some (xs'.map .str) ∧ xs'.length ≤ 4000 ∧ L.Nodup ∧ (∀ k, k ∈ L ↔ k ∈ xs') ∧ L.length < 64 ∧ ∀ ys : List Str, ys.Perm L → sortedS ys = true → P ys := by
  refine ⟨xs, names.filter fun k => decide (k ∈ xs), by simp only [seqOf]; exact lst_of e, hl, nd.filter _, fun k => ?_, ?_, fun ys p s => q ys ⟨p, s⟩⟩
  · simp only [List.mem_filter, decide_eq_true_eq]
    exact ⟨fun h => h.2, fun h => ⟨hx k h, h⟩⟩
  · have := List.length_filter_le (fun k => decide (k ∈ xs)) names
    omega
end K03

-- K03_3R
set_option Elab.async false
set_option linter.all false
set_option maxRecDepth 100000
namespace K03
open PySem L2 PyProof.Rows
open Ip hiding start
local macro_rules | `(tactic| walk_at "run") => `(tactic| simp only [WSs, WS, Ip.WE, WA, WT, WO, WI, WF, Ip.start, List.length_cons, List.length_nil, List.map_cons, List.map_nil, List.cons_append, List.nil_append, List.replicate, Nat.zero_add, Nat.reduceAdd, Nat.reduceSub, List.getElem?_cons_zero, List.getElem?_cons_succ, List.set_cons_zero, List.set_cons_succ, bindT, bindA])
local macro_rules | `(tactic| walk_at "go") => `(tactic| try simp only [WSs, WS, Ip.WE, WA, WT, WO, WI, WF, Ip.start, wipeD, recv, List.length_cons, List.length_nil, List.length_map, List.map_cons, List.map_nil, List.cons_append, List.nil_append, List.replicate, Nat.zero_add, Nat.reduceAdd, Nat.reduceSub, List.getElem?_cons_zero, List.getElem?_cons_succ, List.set_cons_zero, List.set_cons_succ, bindT, bindA,
  Option.bind_some, run_exbl, run_exint, run_trbl, run_ix0, run_ix1, run_ix2, run_ix3, run_add, run_sub, run_lt, run_le, run_gt, run_ge, run_eqi, run_nei, run_eqs, run_nes, run_ins, run_nins, run_isnon, run_isnnon, run_len, run_min, run_max, run_int, run_any1, run_any0, run_all1, run_all0, run_eqF, run_isT1, run_isT2, run_isT3, run_isT4, run_isT5, run_isT6, run_fl1, run_nn1, run_nn2, run_s0, run_s1, run_s2, run_s3, run_s4, run_s5, run_s6, run_cut1, run_cut2, run_itT, run_itO, run_itR, run_slT, run_augA, run_augS,
  sk_num, sk_var, sk_add, sk_less_by, sk_times, sk_least, sk_most, sk_true, sk_is, sk_below, sk_not, sk_and, sk_or, sk_skip, sk_set, sk_draw, sk_choose, sk_see, sk_if, sk_while, sk_seq,
  ofString_inj, String.reduceEq, ↓reduceIte, Bool.false_eq_true, decide_true, decide_false, Bool.not_true, Bool.not_false, Bool.or_true, Bool.true_or, Bool.or_false, Bool.false_or, Bool.and_true, Bool.true_and, Bool.and_false, Bool.false_and, true_and, and_true, Int.cast_ofNat_Int, Int.reduceLT, Int.reduceLE, Int.reduceEq, Int.reduceSub, Int.reduceAdd, Int.reduceNeg, Nat.reduceEqDiff, Bool.not_eq_true, Int.ofNat_eq_natCast, Int.reduceGT, gt_iff_lt, ge_iff_le])
theorem T45 : txt.T 45 = some ⟨9, 1, b45⟩ := rfl
theorem right_ok : Right := by
  intro n S R E hB q
  refine sem_def (k := 198) T45 rfl ?_
  simp only [b45]
  walk_at "go"
  refine program_draw (by decide) hB fun vs s S1 p f1 => ?_
  walk_at "go"
  have l1 : (S1 ++ [Cell.lst []]).length = S1.length + 1 := by simp
  have l2 : (S1 ++ [Cell.lst []] ++ [Cell.lst []]).length = S1.length + 2 := by simp
  have l3 : (S1 ++ [Cell.lst []] ++ [Cell.lst []] ++ [Cell.lst []]).length = S1.length + 3 := by simp
  have c0 := cells_new S1
  simp only [l1, l2, l3]
  generalize S1 ++ [Cell.lst []] ++ [Cell.lst []] ++ [Cell.lst []] ++ [Cell.lst [.ref S1.length, .ref (S1.length + 1), .ref (S1.length + 2)]] = S2 at c0 ⊢
  have z : Dst (S1.length + 3) S1.length (S1.length + 1) (S1.length + 2) := ⟨by omega, by omega, by omega, by omega, by omega, by omega⟩
  generalize S1.length + 3 = r at c0 z ⊢
  generalize S1.length + 1 = b at c0 z ⊢
  generalize S1.length + 2 = c at c0 z ⊢
  generalize S1.length = a at c0 z ⊢
  simp only [planD]
  walk_at "go"
  have w := p.whole
  have wz := w.size
  have w1 := w.chgs
  have w2 := w.rds
  have w3 : s.wds.length = s.size := by unfold St.wds; rw [List.length_map, St.nodes_len]
  refine walk_s s w.ok z c0 (by simp only [List.length_nil]; omega) (by simp only [List.length_nil]; omega) (by simp only [List.length_nil]; omega) (by have := @St.x_le s; omega) fun S3 c3 f3 => ?_
  simp only [List.nil_append] at c3
  have sok : ∀ x ∈ namesOf vs, PyData.strOk x = true := fun x hx => by
    obtain ⟨v, hv, rfl⟩ := List.mem_map.mp hx
    exact p.vars.sok v hv
  refine c3.ix0 (c3.ix1 (add_lst c3.ha c3.hb (by simp only [List.length_map]; omega) ?_))
  have f4 : Fr [] S3 (S3 ++ [Cell.lst (s.rds.map .str ++ s.chgs.map .str)]) := .push
  refine sort_ref (xs := s.rds ++ s.chgs) (names := namesOf vs) p.vars.nd p.n4 (fun x hx => (List.mem_append.mp hx).elim (w2.2 x) (w1.2 x)) (by rw [List.length_append]; omega) (by rw [List.map_append]; exact at_push) fun ys s5 => ?_
  have e5 := at_push (S := S3 ++ [Cell.lst (s.rds.map .str ++ s.chgs.map .str)]) (c := .lst (ys.map .str))
  have c5 := c3.fr (f4.trans (.push (c := .lst (ys.map .str))))
  generalize (S3 ++ [Cell.lst (s.rds.map .str ++ s.chgs.map .str)]).length = r5 at e5 ⊢
  generalize (S3 ++ [Cell.lst (s.rds.map .str ++ s.chgs.map .str)]) ++ [.lst (ys.map .str)] = S5 at e5 c5 ⊢
  refine c5.ix1 ?_
  refine sort_ref (xs := s.chgs) (names := namesOf vs) p.vars.nd p.n4 w1.2 (by omega) c5.hb fun zs s6 => ?_
  have e6 := at_push (S := S5) (c := .lst (zs.map .str))
  have f6 : Fr [] S5 (S5 ++ [.lst (zs.map .str)]) := .push
  generalize S5.length = r6 at e6 ⊢
  generalize S5 ++ [.lst (zs.map .str)] = S6 at e6 f6 ⊢
  refine namesin_s p (by decide) fun ys' S7 r7 s7 f7 l7 e7 => ?_
  have ey : ys' = ys := s7.one s5 fun k => by simp only [List.mem_append]; exact Or.comm
  subst ey
  refine namesset_s p (by decide) fun zs' S8 r8 s8 f8 l8 e8 => ?_
  have ez : zs' = zs := s8.one s6 fun k => Iff.rfl
  subst ez
  have oky := s7.ok sok
  have okz := s8.ok sok
  have leny := s7.len p.n4
  have lenz := s8.len p.n4
  walk_at "go"
  have e78 := f8.at e7 (by simp)
  have e58 := (f6.trans (f7.trans f8)).at e5 (by simp)
  have e68 := (f7.trans f8).at e6 (by simp)
  have c8 := c5.fr (f6.trans (f7.trans f8))
  have lt6 := lt_at e6
  have lt7 := lt_at e7
  have lt5 := lt_at e5
  have len56 := f6.len
  have ltr := lt_at c5.hr
  have ltc := lt_at c5.hc
  simp only [isl e78, isl e8, Bool.not_true, Bool.false_eq_true, ↓reduceIte]
  refine ne_lists e78 e58 oky ?_
  walk_at "go"
  refine ne_lists e8 e68 okz ?_
  walk_at "go"
  refine ⟨⟨r7, _, rfl, lst_of e78⟩, append_ok e78 (by rw [List.length_map]; omega) ?_⟩
  have e89 : (S8.set r7 (.lst (ys'.map .str ++ [.str "x"])))[r8]? = some (.lst (zs'.map .str)) := by
    rw [List.getElem?_set_ne (by omega)]; exact e8
  refine ⟨⟨r8, _, rfl, lst_of e89⟩, append_ok e89 (by rw [List.length_map]; omega) ?_⟩
  have fx : Fr [r7, r8] S8 ((S8.set r7 (.lst (ys'.map .str ++ [.str "x"]))).set r8 (.lst (zs'.map .str ++ [.str "x"]))) := .trans (.set (by simp)) (.set (by simp))
  generalize (S8.set r7 (.lst (ys'.map .str ++ [.str "x"]))).set r8 (.lst (zs'.map .str ++ [.str "x"])) = S9 at fx ⊢
  have nx : ∀ i, i < S6.length → i ∉ [r7, r8] := fun i hi => by
    have := f7.len
    simp only [List.mem_cons, List.not_mem_nil, or_false]
    omega
  have e59 := fx.at e58 (nx r5 (by omega))
  have e69 := fx.at e68 (nx r6 (by omega))
  have hr9 := fx.at c8.hr (nx _ (by omega))
  have hc9 := fx.at c8.hc (nx _ (by omega))
  refine sizeof_s p (by decide) fun T1 g1 => ?_
  walk_at "go"
  refine ix_lst (g1.at hr9 (by simp)) (j := 2) rfl rfl (.inl ⟨_, lst_of (g1.at hc9 (by simp)), ?_⟩)
  rw [List.length_map, w3]
  simp only [List.filterMap_cons, List.filterMap_nil]
  walk_at "go"
  refine sizeof_s p (by decide) fun T2 g2 => ?_
  walk_at "go"
  refine loops_s p (by decide) fun T3 g3 => ?_
  refine choices_s p (by decide) fun T4 g4 => ?_
  refine loops_s p (by decide) fun T5 g5 => ?_
  refine choices_s p (by decide) fun T6 g6 => ?_
  walk_at "go"
  have g16 := g1.trans (g2.trans (g3.trans (g4.trans (g5.trans g6))))
  refine bls_repr at_push ?_
  have g17 : Fr [] S9 (T6 ++ [Cell.lst [.bl (s.nodes.any fun t => decide (t.word = "while")), .bl (s.nodes.any fun t => decide (t.word = "choose")), .bl (s.nodes.any fun t => decide (t.word = "while")), .bl (s.nodes.any fun t => decide (t.word = "choose"))]]) := g16.trans .push
  refine ix_lst (g17.at hr9 (by simp)) (j := 2) rfl rfl (in_words (g17.at hc9 (by simp)) ?_)
  refine ix_lst (g17.at hr9 (by simp)) (j := 2) rfl rfl (in_words (g17.at hc9 (by simp)) ?_)
  rw [wds_any, wds_any]
  have e59t := g17.at e59 (by simp)
  have e69t := g17.at e69 (by simp)
  clear g17
  generalize (s.nodes.any fun t => decide (t.word = "while")) = wa at e59t e69t ⊢
  generalize (s.nodes.any fun t => decide (t.word = "choose")) = wb at e59t e69t ⊢
  refine ⟨[.bl wa, .bl wb], at_push, by decide, by decide, len3' (by show 2 * 2 ≤ 4000; decide), ?_⟩
  refine bls_repr at_push ?_
  rw [run_nes _ _ _ _ (bls_shown wa wb) (bls_shown wa wb)]
  walk_at "go"
  have h0 : Fr [] (T6 ++ [Cell.lst [.bl wa, .bl wb, .bl wa, .bl wb]]) (T6 ++ [Cell.lst [.bl wa, .bl wb, .bl wa, .bl wb]] ++ [Cell.lst [.bl wa, .bl wb]] ++ [Cell.lst (List.replicate (2 : Int).toNat [D.bl wa, .bl wb]).flatten]) := Fr.push.trans .push
  refine namesin_s p (by decide) fun us U1 q1 u1 h1 m1 d1 => ?_
  have eu : us = ys' := u1.one s7 fun k => Iff.rfl
  subst eu
  have h01 := fun {i : Nat} {c : Cell} (h : (T6 ++ [Cell.lst [.bl wa, .bl wb, .bl wa, .bl wb]])[i]? = some c) => h1.at (h0.at h (by simp)) (by simp)
  refine eq_lists d1 (h01 e59t) oky ?_
  walk_at "go"
  refine namesset_s p (by decide) fun vs' U2 q2 u2 h2 m2 d2 => ?_
  have ev : vs' = zs' := u2.one s8 fun k => Iff.rfl
  subst ev
  exact eq_lists d2 (h2.at (h01 e69t) (by simp)) okz (q U2)
end K03

-- K03p
set_option Elab.async false
set_option linter.all false
set_option maxRecDepth 100000
namespace K03
open PySem L2 PyProof.Rows
open Ip hiding start
local macro_rules | `(tactic| walk_at "run") => `(tactic| simp only [WSs, WS, Ip.WE, WA, WT, WO, WI, WF, Ip.start, List.length_cons, List.length_nil, List.map_cons, List.map_nil, List.cons_append, List.nil_append, List.replicate, Nat.zero_add, Nat.reduceAdd, Nat.reduceSub, List.getElem?_cons_zero, List.getElem?_cons_succ, List.set_cons_zero, List.set_cons_succ, bindT, bindA])
local macro_rules | `(tactic| walk_at "go") => `(tactic| try simp only [WSs, WS, Ip.WE, WA, WT, WO, WI, WF, Ip.start, wipeD, recv, List.length_cons, List.length_nil, List.length_map, List.map_cons, List.map_nil, List.cons_append, List.nil_append, List.replicate, Nat.zero_add, Nat.reduceAdd, Nat.reduceSub, List.getElem?_cons_zero, List.getElem?_cons_succ, List.set_cons_zero, List.set_cons_succ, bindT, bindA,
  Option.bind_some, run_exbl, run_exint, run_trbl, run_ix0, run_ix1, run_ix2, run_ix3, run_add, run_sub, run_lt, run_le, run_gt, run_ge, run_eqi, run_nei, run_eqs, run_nes, run_ins, run_nins, run_isnon, run_isnnon, run_len, run_min, run_max, run_int, run_any1, run_any0, run_all1, run_all0, run_eqF, run_isT1, run_isT2, run_isT3, run_isT4, run_isT5, run_isT6, run_fl1, run_nn1, run_nn2, run_s0, run_s1, run_s2, run_s3, run_s4, run_s5, run_s6, run_cut1, run_cut2, run_itT, run_itO, run_itR, run_slT, run_augA, run_augS,
  sk_num, sk_var, sk_add, sk_less_by, sk_times, sk_least, sk_most, sk_true, sk_is, sk_below, sk_not, sk_and, sk_or, sk_skip, sk_set, sk_draw, sk_choose, sk_see, sk_if, sk_while, sk_seq,
  ofString_inj, String.reduceEq, ↓reduceIte, Bool.false_eq_true, decide_true, decide_false, Bool.not_true, Bool.not_false, Bool.or_true, Bool.true_or, Bool.or_false, Bool.false_or, Bool.and_true, Bool.true_and, Bool.and_false, Bool.false_and, true_and, and_true, Int.cast_ofNat_Int, Int.reduceLT, Int.reduceLE, Int.reduceEq, Int.reduceSub, Int.reduceAdd, Int.reduceNeg, Nat.reduceEqDiff, Bool.not_eq_true, Int.ofNat_eq_natCast, Int.reduceGT, gt_iff_lt, ge_iff_le])
theorem lawD : LawD txt 200 47 63 := law_of right_ok
end K03

-- K03e
set_option Elab.async false
set_option linter.all false
set_option maxRecDepth 100000
open PySem PySem.W PyProof.Rows L2 Ip
set_option maxHeartbeats 0 in
theorem PySem.Challenge.cw_alikechances_k03_names_and_sizes_holds : PySem.Challenge.rw_alikechances_k03_names_and_sizes.Holds := by
  w_on; o_law; k_head; (case hw => w_witness2)
  k_fill
  refine walk_top (l := PySem.Challenge.rw_alikechances_k03_names_and_sizes) K03.txt 47 63 200 (K03.inf[47]'(by decide)) K03.txt_ok rfl rfl rfl (by decide) rfl rfl ⟨rfl, by decide, by decide⟩ (fun w h Y => PySem.W.kIn_of Y) K03.lawD ?F
  case F =>
    intro w
    refine' ⟨⟨_, _⟩ :: ⟨_, _⟩ :: ⟨_, _⟩ :: ⟨_, _⟩ :: ⟨_, _⟩ :: ⟨_, _⟩ :: ⟨_, _⟩ :: ⟨_, _⟩ :: ⟨_, _⟩ :: ⟨_, _⟩ :: ⟨_, _⟩ :: ⟨_, _⟩ :: ⟨_, _⟩ :: ⟨_, _⟩ :: ⟨_, _⟩ :: ⟨_, _⟩ :: ⟨_, _⟩ :: ⟨_, _⟩ :: ⟨_, _⟩ :: ⟨_, _⟩ :: ⟨_, _⟩ :: ⟨_, _⟩ :: ⟨_, _⟩ :: ⟨_, _⟩ :: ⟨_, _⟩ :: ⟨_, _⟩ :: ⟨_, _⟩ :: ⟨_, _⟩ :: ⟨_, _⟩ :: ⟨_, _⟩ :: ⟨_, _⟩ :: ⟨_, _⟩ :: ⟨_, _⟩ :: ⟨_, _⟩ :: ⟨_, _⟩ :: ⟨_, _⟩ :: ⟨_, _⟩ :: ⟨_, _⟩ :: ⟨_, _⟩ :: ⟨_, _⟩ :: ⟨_, _⟩ :: ⟨_, _⟩ :: ⟨_, _⟩ :: ⟨_, _⟩ :: ⟨_, _⟩ :: ⟨_, _⟩ :: ⟨_, _⟩ :: ⟨_, _⟩ :: [], _ :: [], ⟨?df, by decide +kernel, ?cn, ?ex, ?no, ?bi, ?kw, ?ca, ?kl⟩⟩
    case df =>
      refine' Defs.cons ?aq0 ?al0 ?ac0 ?ak0 ?ab0 ?ar0
      (case aq0 => k_is); (case al0 => k_is); (case ac0 => k_is); (case ak0 => k_is)
      (case ab0 => (intro _ _ _ _ _ _ us hl; rcases us with _ | ⟨_, _ | ⟨_, _ | ⟨_, _ | ⟨_, _ | ⟨_, _ | ⟨_, _ | ⟨_, us⟩⟩⟩⟩⟩⟩⟩ <;> first | rfl | (simp at hl)))
      refine' Defs.cons ?aq1 ?al1 ?ac1 ?ak1 ?ab1 ?ar1
      (case aq1 => k_is); (case al1 => k_is); (case ac1 => k_is); (case ak1 => k_is)
      (case ab1 => (intro _ _ _ _ _ _ us hl; rcases us with _ | ⟨_, _ | ⟨_, _ | ⟨_, _ | ⟨_, _ | ⟨_, _ | ⟨_, _ | ⟨_, us⟩⟩⟩⟩⟩⟩⟩ <;> first | rfl | (simp at hl)))
      refine' Defs.cons ?aq2 ?al2 ?ac2 ?ak2 ?ab2 ?ar2
      (case aq2 => k_is); (case al2 => k_is); (case ac2 => k_is); (case ak2 => k_is)
      (case ab2 => (intro _ _ _ _ _ _ us hl; rcases us with _ | ⟨_, _ | ⟨_, _ | ⟨_, _ | ⟨_, _ | ⟨_, _ | ⟨_, _ | ⟨_, us⟩⟩⟩⟩⟩⟩⟩ <;> first | rfl | (simp at hl)))
      refine' Defs.cons ?aq3 ?al3 ?ac3 ?ak3 ?ab3 ?ar3
      (case aq3 => k_is); (case al3 => k_is); (case ac3 => k_is); (case ak3 => k_is)
      (case ab3 => (intro _ _ _ _ _ _ us hl; rcases us with _ | ⟨_, _ | ⟨_, _ | ⟨_, _ | ⟨_, _ | ⟨_, _ | ⟨_, _ | ⟨_, us⟩⟩⟩⟩⟩⟩⟩ <;> first | rfl | (simp at hl)))
      refine' Defs.cons ?aq4 ?al4 ?ac4 ?ak4 ?ab4 ?ar4
      (case aq4 => k_is); (case al4 => k_is); (case ac4 => k_is); (case ak4 => k_is)
      (case ab4 => (intro _ _ _ _ _ _ us hl; rcases us with _ | ⟨_, _ | ⟨_, _ | ⟨_, _ | ⟨_, _ | ⟨_, _ | ⟨_, _ | ⟨_, us⟩⟩⟩⟩⟩⟩⟩ <;> first | rfl | (simp at hl)))
      refine' Defs.cons ?aq5 ?al5 ?ac5 ?ak5 ?ab5 ?ar5
      (case aq5 => k_is); (case al5 => k_is); (case ac5 => k_is); (case ak5 => k_is)
      (case ab5 => (intro _ _ _ _ _ _ us hl; rcases us with _ | ⟨_, _ | ⟨_, _ | ⟨_, _ | ⟨_, _ | ⟨_, _ | ⟨_, _ | ⟨_, us⟩⟩⟩⟩⟩⟩⟩ <;> first | rfl | (simp at hl)))
      refine' Defs.cons ?aq6 ?al6 ?ac6 ?ak6 ?ab6 ?ar6
      (case aq6 => k_is); (case al6 => k_is); (case ac6 => k_is); (case ak6 => k_is)
      (case ab6 => (intro _ _ _ _ _ _ us hl; rcases us with _ | ⟨_, _ | ⟨_, _ | ⟨_, _ | ⟨_, _ | ⟨_, _ | ⟨_, _ | ⟨_, us⟩⟩⟩⟩⟩⟩⟩ <;> first | rfl | (simp at hl)))
      refine' Defs.cons ?aq7 ?al7 ?ac7 ?ak7 ?ab7 ?ar7
      (case aq7 => k_is); (case al7 => k_is); (case ac7 => k_is); (case ak7 => k_is)
      (case ab7 => (intro _ _ _ _ _ _ us hl; rcases us with _ | ⟨_, _ | ⟨_, _ | ⟨_, _ | ⟨_, _ | ⟨_, _ | ⟨_, _ | ⟨_, us⟩⟩⟩⟩⟩⟩⟩ <;> first | rfl | (simp at hl)))
      refine' Defs.cons ?aq8 ?al8 ?ac8 ?ak8 ?ab8 ?ar8
      (case aq8 => k_is); (case al8 => k_is); (case ac8 => k_is); (case ak8 => k_is)
      (case ab8 => (intro _ _ _ _ _ _ us hl; rcases us with _ | ⟨_, _ | ⟨_, _ | ⟨_, _ | ⟨_, _ | ⟨_, _ | ⟨_, _ | ⟨_, us⟩⟩⟩⟩⟩⟩⟩ <;> first | rfl | (simp at hl)))
      refine' Defs.cons ?aq9 ?al9 ?ac9 ?ak9 ?ab9 ?ar9
      (case aq9 => k_is); (case al9 => k_is); (case ac9 => k_is); (case ak9 => k_is)
      (case ab9 => (intro _ _ _ _ _ _ us hl; rcases us with _ | ⟨_, _ | ⟨_, _ | ⟨_, _ | ⟨_, _ | ⟨_, _ | ⟨_, _ | ⟨_, us⟩⟩⟩⟩⟩⟩⟩ <;> first | rfl | (simp at hl)))
      refine' Defs.cons ?aq10 ?al10 ?ac10 ?ak10 ?ab10 ?ar10
      (case aq10 => k_is); (case al10 => k_is); (case ac10 => k_is); (case ak10 => k_is)
      (case ab10 => (intro _ _ _ _ _ _ us hl; rcases us with _ | ⟨_, _ | ⟨_, _ | ⟨_, _ | ⟨_, _ | ⟨_, _ | ⟨_, _ | ⟨_, us⟩⟩⟩⟩⟩⟩⟩ <;> first | rfl | (simp at hl)))
      refine' Defs.cons ?aq11 ?al11 ?ac11 ?ak11 ?ab11 ?ar11
      (case aq11 => k_is); (case al11 => k_is); (case ac11 => k_is); (case ak11 => k_is)
      (case ab11 => (intro _ _ _ _ _ _ us hl; rcases us with _ | ⟨_, _ | ⟨_, _ | ⟨_, _ | ⟨_, _ | ⟨_, _ | ⟨_, _ | ⟨_, us⟩⟩⟩⟩⟩⟩⟩ <;> first | rfl | (simp at hl)))
      refine' Defs.cons ?aq12 ?al12 ?ac12 ?ak12 ?ab12 ?ar12
      (case aq12 => k_is); (case al12 => k_is); (case ac12 => k_is); (case ak12 => k_is)
      (case ab12 => (intro _ _ _ _ _ _ us hl; rcases us with _ | ⟨_, _ | ⟨_, _ | ⟨_, _ | ⟨_, _ | ⟨_, _ | ⟨_, _ | ⟨_, us⟩⟩⟩⟩⟩⟩⟩ <;> first | rfl | (simp at hl)))
      refine' Defs.cons ?aq13 ?al13 ?ac13 ?ak13 ?ab13 ?ar13
      (case aq13 => k_is); (case al13 => k_is); (case ac13 => k_is); (case ak13 => k_is)
      (case ab13 => (intro _ _ _ _ _ _ us hl; rcases us with _ | ⟨_, _ | ⟨_, _ | ⟨_, _ | ⟨_, _ | ⟨_, _ | ⟨_, _ | ⟨_, us⟩⟩⟩⟩⟩⟩⟩ <;> first | rfl | (simp at hl)))
      refine' Defs.cons ?aq14 ?al14 ?ac14 ?ak14 ?ab14 ?ar14
      (case aq14 => k_is); (case al14 => k_is); (case ac14 => k_is); (case ak14 => k_is)
      (case ab14 => (intro _ _ _ _ _ _ us hl; rcases us with _ | ⟨_, _ | ⟨_, _ | ⟨_, _ | ⟨_, _ | ⟨_, _ | ⟨_, _ | ⟨_, us⟩⟩⟩⟩⟩⟩⟩ <;> first | rfl | (simp at hl)))
      refine' Defs.cons ?aq15 ?al15 ?ac15 ?ak15 ?ab15 ?ar15
      (case aq15 => k_is); (case al15 => k_is); (case ac15 => k_is); (case ak15 => k_is)
      (case ab15 => (intro _ _ _ _ _ _ us hl; rcases us with _ | ⟨_, _ | ⟨_, _ | ⟨_, _ | ⟨_, _ | ⟨_, _ | ⟨_, _ | ⟨_, us⟩⟩⟩⟩⟩⟩⟩ <;> first | rfl | (simp at hl)))
      refine' Defs.cons ?aq16 ?al16 ?ac16 ?ak16 ?ab16 ?ar16
      (case aq16 => k_is); (case al16 => k_is); (case ac16 => k_is); (case ak16 => k_is)
      (case ab16 => (intro _ _ _ _ _ _ us hl; rcases us with _ | ⟨_, _ | ⟨_, _ | ⟨_, _ | ⟨_, _ | ⟨_, _ | ⟨_, _ | ⟨_, us⟩⟩⟩⟩⟩⟩⟩ <;> first | rfl | (simp at hl)))
      refine' Defs.cons ?aq17 ?al17 ?ac17 ?ak17 ?ab17 ?ar17
      (case aq17 => k_is); (case al17 => k_is); (case ac17 => k_is); (case ak17 => k_is)
      (case ab17 => (intro _ _ _ _ _ _ us hl; rcases us with _ | ⟨_, _ | ⟨_, _ | ⟨_, _ | ⟨_, _ | ⟨_, _ | ⟨_, _ | ⟨_, us⟩⟩⟩⟩⟩⟩⟩ <;> first | rfl | (simp at hl)))
      refine' Defs.cons ?aq18 ?al18 ?ac18 ?ak18 ?ab18 ?ar18
      (case aq18 => k_is); (case al18 => k_is); (case ac18 => k_is); (case ak18 => k_is)
      (case ab18 => (intro _ _ _ _ _ _ us hl; rcases us with _ | ⟨_, _ | ⟨_, _ | ⟨_, _ | ⟨_, _ | ⟨_, _ | ⟨_, _ | ⟨_, us⟩⟩⟩⟩⟩⟩⟩ <;> first | rfl | (simp at hl)))
      refine' Defs.cons ?aq19 ?al19 ?ac19 ?ak19 ?ab19 ?ar19
      (case aq19 => k_is); (case al19 => k_is); (case ac19 => k_is); (case ak19 => k_is)
      (case ab19 => (intro _ _ _ _ _ _ us hl; rcases us with _ | ⟨_, _ | ⟨_, _ | ⟨_, _ | ⟨_, _ | ⟨_, _ | ⟨_, _ | ⟨_, us⟩⟩⟩⟩⟩⟩⟩ <;> first | rfl | (simp at hl)))
      refine' Defs.cons ?aq20 ?al20 ?ac20 ?ak20 ?ab20 ?ar20
      (case aq20 => k_is); (case al20 => k_is); (case ac20 => k_is); (case ak20 => k_is)
      (case ab20 => (intro _ _ _ _ _ _ us hl; rcases us with _ | ⟨_, _ | ⟨_, _ | ⟨_, _ | ⟨_, _ | ⟨_, _ | ⟨_, _ | ⟨_, us⟩⟩⟩⟩⟩⟩⟩ <;> first | rfl | (simp at hl)))
      refine' Defs.cons ?aq21 ?al21 ?ac21 ?ak21 ?ab21 ?ar21
      (case aq21 => k_is); (case al21 => k_is); (case ac21 => k_is); (case ak21 => k_is)
      (case ab21 => (intro _ _ _ _ _ _ us hl; rcases us with _ | ⟨_, _ | ⟨_, _ | ⟨_, _ | ⟨_, _ | ⟨_, _ | ⟨_, _ | ⟨_, us⟩⟩⟩⟩⟩⟩⟩ <;> first | rfl | (simp at hl)))
      refine' Defs.cons ?aq22 ?al22 ?ac22 ?ak22 ?ab22 ?ar22
      (case aq22 => k_is); (case al22 => k_is); (case ac22 => k_is); (case ak22 => k_is)
      (case ab22 => (intro _ _ _ _ _ _ us hl; rcases us with _ | ⟨_, _ | ⟨_, _ | ⟨_, _ | ⟨_, _ | ⟨_, _ | ⟨_, _ | ⟨_, us⟩⟩⟩⟩⟩⟩⟩ <;> first | rfl | (simp at hl)))
      refine' Defs.cons ?aq23 ?al23 ?ac23 ?ak23 ?ab23 ?ar23
      (case aq23 => k_is); (case al23 => k_is); (case ac23 => k_is); (case ak23 => k_is)
      (case ab23 => (intro _ _ _ _ _ _ us hl; rcases us with _ | ⟨_, _ | ⟨_, _ | ⟨_, _ | ⟨_, _ | ⟨_, _ | ⟨_, _ | ⟨_, us⟩⟩⟩⟩⟩⟩⟩ <;> first | rfl | (simp at hl)))
      refine' Defs.cons ?aq24 ?al24 ?ac24 ?ak24 ?ab24 ?ar24
      (case aq24 => k_is); (case al24 => k_is); (case ac24 => k_is); (case ak24 => k_is)
      (case ab24 => (intro _ _ _ _ _ _ us hl; rcases us with _ | ⟨_, _ | ⟨_, _ | ⟨_, _ | ⟨_, _ | ⟨_, _ | ⟨_, _ | ⟨_, us⟩⟩⟩⟩⟩⟩⟩ <;> first | rfl | (simp at hl)))
      refine' Defs.cons ?aq25 ?al25 ?ac25 ?ak25 ?ab25 ?ar25
      (case aq25 => k_is); (case al25 => k_is); (case ac25 => k_is); (case ak25 => k_is)
      (case ab25 => (intro _ _ _ _ _ _ us hl; rcases us with _ | ⟨_, _ | ⟨_, _ | ⟨_, _ | ⟨_, _ | ⟨_, _ | ⟨_, _ | ⟨_, us⟩⟩⟩⟩⟩⟩⟩ <;> first | rfl | (simp at hl)))
      refine' Defs.cons ?aq26 ?al26 ?ac26 ?ak26 ?ab26 ?ar26
      (case aq26 => k_is); (case al26 => k_is); (case ac26 => k_is); (case ak26 => k_is)
      (case ab26 => (intro _ _ _ _ _ _ us hl; rcases us with _ | ⟨_, _ | ⟨_, _ | ⟨_, _ | ⟨_, _ | ⟨_, _ | ⟨_, _ | ⟨_, us⟩⟩⟩⟩⟩⟩⟩ <;> first | rfl | (simp at hl)))
      refine' Defs.cons ?aq27 ?al27 ?ac27 ?ak27 ?ab27 ?ar27
      (case aq27 => k_is); (case al27 => k_is); (case ac27 => k_is); (case ak27 => k_is)
      (case ab27 => (intro _ _ _ _ _ _ us hl; rcases us with _ | ⟨_, _ | ⟨_, _ | ⟨_, _ | ⟨_, _ | ⟨_, _ | ⟨_, _ | ⟨_, us⟩⟩⟩⟩⟩⟩⟩ <;> first | rfl | (simp at hl)))
      refine' Defs.cons ?aq28 ?al28 ?ac28 ?ak28 ?ab28 ?ar28
      (case aq28 => k_is); (case al28 => k_is); (case ac28 => k_is); (case ak28 => k_is)
      (case ab28 => (intro _ _ _ _ _ _ us hl; rcases us with _ | ⟨_, _ | ⟨_, _ | ⟨_, _ | ⟨_, _ | ⟨_, _ | ⟨_, _ | ⟨_, us⟩⟩⟩⟩⟩⟩⟩ <;> first | rfl | (simp at hl)))
      refine' Defs.cons ?aq29 ?al29 ?ac29 ?ak29 ?ab29 ?ar29
      (case aq29 => k_is); (case al29 => k_is); (case ac29 => k_is); (case ak29 => k_is)
      (case ab29 => (intro _ _ _ _ _ _ us hl; rcases us with _ | ⟨_, _ | ⟨_, _ | ⟨_, _ | ⟨_, _ | ⟨_, _ | ⟨_, _ | ⟨_, us⟩⟩⟩⟩⟩⟩⟩ <;> first | rfl | (simp at hl)))
      refine' Defs.cons ?aq30 ?al30 ?ac30 ?ak30 ?ab30 ?ar30
      (case aq30 => k_is); (case al30 => k_is); (case ac30 => k_is); (case ak30 => k_is)
      (case ab30 => (intro _ _ _ _ _ _ us hl; rcases us with _ | ⟨_, _ | ⟨_, _ | ⟨_, _ | ⟨_, _ | ⟨_, _ | ⟨_, _ | ⟨_, us⟩⟩⟩⟩⟩⟩⟩ <;> first | rfl | (simp at hl)))
      refine' Defs.cons ?aq31 ?al31 ?ac31 ?ak31 ?ab31 ?ar31
      (case aq31 => k_is); (case al31 => k_is); (case ac31 => k_is); (case ak31 => k_is)
      (case ab31 => (intro _ _ _ _ _ _ us hl; rcases us with _ | ⟨_, _ | ⟨_, _ | ⟨_, _ | ⟨_, _ | ⟨_, _ | ⟨_, _ | ⟨_, us⟩⟩⟩⟩⟩⟩⟩ <;> first | rfl | (simp at hl)))
      refine' Defs.cons ?aq32 ?al32 ?ac32 ?ak32 ?ab32 ?ar32
      (case aq32 => k_is); (case al32 => k_is); (case ac32 => k_is); (case ak32 => k_is)
      (case ab32 => (intro _ _ _ _ _ _ us hl; rcases us with _ | ⟨_, _ | ⟨_, _ | ⟨_, _ | ⟨_, _ | ⟨_, _ | ⟨_, _ | ⟨_, us⟩⟩⟩⟩⟩⟩⟩ <;> first | rfl | (simp at hl)))
      refine' Defs.cons ?aq33 ?al33 ?ac33 ?ak33 ?ab33 ?ar33
      (case aq33 => k_is); (case al33 => k_is); (case ac33 => k_is); (case ak33 => k_is)
      (case ab33 => (intro _ _ _ _ _ _ us hl; rcases us with _ | ⟨_, _ | ⟨_, _ | ⟨_, _ | ⟨_, _ | ⟨_, _ | ⟨_, _ | ⟨_, us⟩⟩⟩⟩⟩⟩⟩ <;> first | rfl | (simp at hl)))
      refine' Defs.cons ?aq34 ?al34 ?ac34 ?ak34 ?ab34 ?ar34
      (case aq34 => k_is); (case al34 => k_is); (case ac34 => k_is); (case ak34 => k_is)
      (case ab34 => (intro _ _ _ _ _ _ us hl; rcases us with _ | ⟨_, _ | ⟨_, _ | ⟨_, _ | ⟨_, _ | ⟨_, _ | ⟨_, _ | ⟨_, us⟩⟩⟩⟩⟩⟩⟩ <;> first | rfl | (simp at hl)))
      refine' Defs.cons ?aq35 ?al35 ?ac35 ?ak35 ?ab35 ?ar35
      (case aq35 => k_is); (case al35 => k_is); (case ac35 => k_is); (case ak35 => k_is)
      (case ab35 => (intro _ _ _ _ _ _ us hl; rcases us with _ | ⟨_, _ | ⟨_, _ | ⟨_, _ | ⟨_, _ | ⟨_, _ | ⟨_, _ | ⟨_, us⟩⟩⟩⟩⟩⟩⟩ <;> first | rfl | (simp at hl)))
      refine' Defs.cons ?aq36 ?al36 ?ac36 ?ak36 ?ab36 ?ar36
      (case aq36 => k_is); (case al36 => k_is); (case ac36 => k_is); (case ak36 => k_is)
      (case ab36 => (intro _ _ _ _ _ _ us hl; rcases us with _ | ⟨_, _ | ⟨_, _ | ⟨_, _ | ⟨_, _ | ⟨_, _ | ⟨_, _ | ⟨_, us⟩⟩⟩⟩⟩⟩⟩ <;> first | rfl | (simp at hl)))
      refine' Defs.cons ?aq37 ?al37 ?ac37 ?ak37 ?ab37 ?ar37
      (case aq37 => k_is); (case al37 => k_is); (case ac37 => k_is); (case ak37 => k_is)
      (case ab37 => (intro _ _ _ _ _ _ us hl; rcases us with _ | ⟨_, _ | ⟨_, _ | ⟨_, _ | ⟨_, _ | ⟨_, _ | ⟨_, _ | ⟨_, us⟩⟩⟩⟩⟩⟩⟩ <;> first | rfl | (simp at hl)))
      refine' Defs.cons ?aq38 ?al38 ?ac38 ?ak38 ?ab38 ?ar38
      (case aq38 => k_is); (case al38 => k_is); (case ac38 => k_is); (case ak38 => k_is)
      (case ab38 => (intro _ _ _ _ _ _ us hl; rcases us with _ | ⟨_, _ | ⟨_, _ | ⟨_, _ | ⟨_, _ | ⟨_, _ | ⟨_, _ | ⟨_, us⟩⟩⟩⟩⟩⟩⟩ <;> first | rfl | (simp at hl)))
      refine' Defs.cons ?aq39 ?al39 ?ac39 ?ak39 ?ab39 ?ar39
      (case aq39 => k_is); (case al39 => k_is); (case ac39 => k_is); (case ak39 => k_is)
      (case ab39 => (intro _ _ _ _ _ _ us hl; rcases us with _ | ⟨_, _ | ⟨_, _ | ⟨_, _ | ⟨_, _ | ⟨_, _ | ⟨_, _ | ⟨_, us⟩⟩⟩⟩⟩⟩⟩ <;> first | rfl | (simp at hl)))
      refine' Defs.cons ?aq40 ?al40 ?ac40 ?ak40 ?ab40 ?ar40
      (case aq40 => k_is); (case al40 => k_is); (case ac40 => k_is); (case ak40 => k_is)
      (case ab40 => (intro _ _ _ _ _ _ us hl; rcases us with _ | ⟨_, _ | ⟨_, _ | ⟨_, _ | ⟨_, _ | ⟨_, _ | ⟨_, _ | ⟨_, us⟩⟩⟩⟩⟩⟩⟩ <;> first | rfl | (simp at hl)))
      refine' Defs.cons ?aq41 ?al41 ?ac41 ?ak41 ?ab41 ?ar41
      (case aq41 => k_is); (case al41 => k_is); (case ac41 => k_is); (case ak41 => k_is)
      (case ab41 => (intro _ _ _ _ _ _ us hl; rcases us with _ | ⟨_, _ | ⟨_, _ | ⟨_, _ | ⟨_, _ | ⟨_, _ | ⟨_, _ | ⟨_, us⟩⟩⟩⟩⟩⟩⟩ <;> first | rfl | (simp at hl)))
      refine' Defs.cons ?aq42 ?al42 ?ac42 ?ak42 ?ab42 ?ar42
      (case aq42 => k_is); (case al42 => k_is); (case ac42 => k_is); (case ak42 => k_is)
      (case ab42 => (intro _ _ _ _ _ _ us hl; rcases us with _ | ⟨_, _ | ⟨_, _ | ⟨_, _ | ⟨_, _ | ⟨_, _ | ⟨_, _ | ⟨_, us⟩⟩⟩⟩⟩⟩⟩ <;> first | rfl | (simp at hl)))
      refine' Defs.cons ?aq43 ?al43 ?ac43 ?ak43 ?ab43 ?ar43
      (case aq43 => k_is); (case al43 => k_is); (case ac43 => k_is); (case ak43 => k_is)
      (case ab43 => (intro _ _ _ _ _ _ us hl; rcases us with _ | ⟨_, _ | ⟨_, _ | ⟨_, _ | ⟨_, _ | ⟨_, _ | ⟨_, _ | ⟨_, us⟩⟩⟩⟩⟩⟩⟩ <;> first | rfl | (simp at hl)))
      refine' Defs.cons ?aq44 ?al44 ?ac44 ?ak44 ?ab44 ?ar44
      (case aq44 => k_is); (case al44 => k_is); (case ac44 => k_is); (case ak44 => k_is)
      (case ab44 => (intro _ _ _ _ _ _ us hl; rcases us with _ | ⟨_, _ | ⟨_, _ | ⟨_, _ | ⟨_, _ | ⟨_, _ | ⟨_, _ | ⟨_, us⟩⟩⟩⟩⟩⟩⟩ <;> first | rfl | (simp at hl)))
      refine' Defs.cons ?aq45 ?al45 ?ac45 ?ak45 ?ab45 ?ar45
      (case aq45 => k_is); (case al45 => k_is); (case ac45 => k_is); (case ak45 => k_is)
      (case ab45 => (intro _ _ _ _ _ _ us hl; rcases us with _ | ⟨_, _ | ⟨_, _ | ⟨_, _ | ⟨_, _ | ⟨_, _ | ⟨_, _ | ⟨_, us⟩⟩⟩⟩⟩⟩⟩ <;> first | rfl | (simp at hl)))
      refine' Defs.cons ?aq46 ?al46 ?ac46 ?ak46 ?ab46 ?ar46
      (case aq46 => k_is); (case al46 => k_is); (case ac46 => k_is); (case ak46 => k_is)
      (case ab46 => (intro _ _ _ _ _ _ us hl; rcases us with _ | ⟨_, _ | ⟨_, _ | ⟨_, _ | ⟨_, _ | ⟨_, _ | ⟨_, _ | ⟨_, us⟩⟩⟩⟩⟩⟩⟩ <;> first | rfl | (simp at hl)))
      refine' Defs.cons ?aq47 ?al47 ?ac47 ?ak47 ?ab47 ?ar47
      (case aq47 => k_is); (case al47 => k_is); (case ac47 => k_is); (case ak47 => k_is)
      (case ab47 => (intro _ _ _ _ _ _ us hl; rcases us with _ | ⟨_, _ | ⟨_, _ | ⟨_, _ | ⟨_, _ | ⟨_, _ | ⟨_, _ | ⟨_, us⟩⟩⟩⟩⟩⟩⟩ <;> first | rfl | (simp at hl)))
      exact Defs.nil
    case cn =>
      refine' Cos.cons ?cq_0 ?cc_0 ?cr_0
      (case cq_0 => k_is)
      case cc_0 =>
        refine' Con.tup ?cl1 ?cc1 ?cd1 ?cz1 ?cq1 ?ch1
        (case cl1 => k_is); (case cc1 => rfl); (case cd1 => rfl); (case cz1 => decide)
        case cq1 =>
          refine' Con.str ?_
          refine' Con.str ?_
          refine' Con.str ?_
          refine' Con.str ?_
          refine' Con.str ?_
          exact Con.nil
        exact Con.nil
      refine' Cos.cons ?cq_1 ?cc_1 ?cr_1
      (case cq_1 => k_is)
      case cc_1 =>
        refine' Con.int ?_
        exact Con.nil
      refine' Cos.cons ?cq_2 ?cc_2 ?cr_2
      (case cq_2 => k_is)
      case cc_2 =>
        refine' Con.tup ?cl2 ?cc2 ?cd2 ?cz2 ?cq2 ?ch2
        (case cl2 => k_is); (case cc2 => rfl); (case cd2 => rfl); (case cz2 => decide)
        case cq2 =>
          refine' Con.str ?_
          refine' Con.str ?_
          refine' Con.str ?_
          refine' Con.str ?_
          refine' Con.str ?_
          refine' Con.str ?_
          refine' Con.str ?_
          refine' Con.str ?_
          refine' Con.str ?_
          refine' Con.str ?_
          refine' Con.str ?_
          refine' Con.str ?_
          refine' Con.str ?_
          refine' Con.str ?_
          refine' Con.str ?_
          refine' Con.str ?_
          refine' Con.str ?_
          refine' Con.str ?_
          refine' Con.str ?_
          refine' Con.str ?_
          exact Con.nil
        exact Con.nil
      refine' Cos.cons ?cq_3 ?cc_3 ?cr_3
      (case cq_3 => k_is)
      case cc_3 =>
        refine' Con.str ?_
        exact Con.nil
      refine' Cos.cons ?cq_4 ?cc_4 ?cr_4
      (case cq_4 => k_is)
      case cc_4 =>
        refine' Con.int ?_
        exact Con.nil
      refine' Cos.cons ?cq_5 ?cc_5 ?cr_5
      (case cq_5 => k_is)
      case cc_5 =>
        refine' Con.str ?_
        exact Con.nil
      refine' Cos.cons ?cq_6 ?cc_6 ?cr_6
      (case cq_6 => k_is)
      case cc_6 =>
        refine' Con.int ?_
        exact Con.nil
      refine' Cos.cons ?cq_7 ?cc_7 ?cr_7
      (case cq_7 => k_is)
      case cc_7 =>
        refine' Con.int ?_
        exact Con.nil
      refine' Cos.cons ?cq_8 ?cc_8 ?cr_8
      (case cq_8 => k_is)
      case cc_8 =>
        refine' Con.int ?_
        exact Con.nil
      refine' Cos.cons ?cq_9 ?cc_9 ?cr_9
      (case cq_9 => k_is)
      case cc_9 =>
        refine' Con.int ?_
        exact Con.nil
      refine' Cos.cons ?cq_10 ?cc_10 ?cr_10
      (case cq_10 => k_is)
      case cc_10 =>
        refine' Con.int ?_
        exact Con.nil
      refine' Cos.cons ?cq_11 ?cc_11 ?cr_11
      (case cq_11 => k_is)
      case cc_11 =>
        refine' Con.int ?_
        exact Con.nil
      refine' Cos.cons ?cq_12 ?cc_12 ?cr_12
      (case cq_12 => k_is)
      case cc_12 =>
        refine' Con.int ?_
        exact Con.nil
      refine' Cos.cons ?cq_13 ?cc_13 ?cr_13
      (case cq_13 => k_is)
      case cc_13 =>
        refine' Con.int ?_
        exact Con.nil
      refine' Cos.cons ?cq_14 ?cc_14 ?cr_14
      (case cq_14 => k_is)
      case cc_14 =>
        refine' Con.int ?_
        exact Con.nil
      exact Cos.nil
    case ex =>
      refine' Exs.cons ?xq0 ?xk0 ?xe0 ?xb0 ?xt0 ?xr0
      (case xq0 => k_is); (case xk0 => k_is); (case xe0 => k_exc); (case xb0 => k_is); (case xt0 => k_is)
      exact Exs.nil
    case no =>
      intro x hx; simp only [K03.txt, K03.nones, List.mem_cons, List.not_mem_nil, or_false] at hx; rcases hx with h | h | h | h | h | h | h | h | h | h <;> (subst_vars; unfold zFact; k_is)
    case bi =>
      intro x hx; simp only [K03.txt, K03.bis, List.mem_cons, List.not_mem_nil, or_false] at hx; rcases hx with h | h | h | h | h | h | h | h | h | h | h | h | h <;> (subst_vars; simp only [gFact, zFact, biName]; k_is)
    case kw =>
      intro q hq; simp only [K03.txt, K03.kws, List.mem_cons, List.not_mem_nil, or_false] at hq; rcases hq with rfl | rfl | rfl | rfl | rfl
      all_goals refine ⟨⟨_, rfl, rfl, by decide, ?_⟩⟩
      all_goals (intro _ _ _ _ _ _ us hl; rcases us with _ | ⟨_, _ | ⟨_, _ | ⟨_, _ | ⟨_, _ | ⟨_, _ | ⟨_, _ | ⟨_, us⟩⟩⟩⟩⟩⟩⟩ <;> first | rfl | (simp at hl))
    case ca =>
      exact Cats.nil
    case kl =>
      exact Nat.zero_le _

