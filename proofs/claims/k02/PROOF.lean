import PyProof.Rows.All
import Wide.All
import OpenK.AllK
import Wide.FinOn
import HandS.ForMost
import HandS.Set
import HandS.SetBool
import HandS.Strs
import PyProof.Rows.SortShellAny
import HandS.Deep
import HandS.IsInst
import HandS.TupMul
import HandS.TupAny
import HandS.Walk
import HandS.Zip
import HandS.OwnEq
import HandS.Property
import KE.KCallOwn
import PyProof.InstNe
import HandS.FStr
import PySem.Challenge.RW_blockshanded_k02_whole_terms_by_form
import HandS.Dict
import HandS.More
import HandS.Small
import HandS.Conv
import PyProof.NeKinds
import PyProof.FactsAll.dict_1
import PyProof.FactsAll.subtypes_4
import HandS.WordsList
import HandS.WordsExc
import HandS.Lambda
import HandS.ClsMeth
import HandS.EndTab
import HandS.TupSets
import KE.KRevSl
set_option Elab.async false
set_option linter.all false
set_option maxRecDepth 100000
set_option maxHeartbeats 4000000
/-! sets of texts: their members in the order in which they came in; a set comprehension; sorted of such a set -/
namespace FS
open PySem PySem.Spec PyProof.Rows L2
/-- the text of a member -/
def txt : Int × Value → Str
  | (_, .str x _) => x
  | _ => Str.empty
def Mem1 (w : World) (m : Int × Value) : Prop := ∃ x tk, m = (hashStr w x, Value.str x tk)
/-- at a stands the set of the texts xs -/
structure Tab (w : World) (xs : List Str) (ms : Array (Int × Value)) (t : SetTable) : Prop where
  mem : ∀ m ∈ ms.toList, Mem1 w m
  perm : (ms.toList.map txt).Perm xs
  nd : xs.Nodup
  few : ms.size < scanBound
  fit : t.fits ms.size = true
  ris : Ris t.place.toList
  ord : w.params.followText "set-order" = true ∨ t.led = true
def SetS (w : World) (h : Heap) (a : Addr) (xs : List Str) : Prop :=
  ∃ o ms ep t, h.get? a = some o ∧ o.ExactSet ∧ o.data = .set ms ep t ∧ Tab w xs ms t
def addS (xs : List Str) (x : Str) : List Str := if x ∈ xs then xs else xs ++ [x]
section
variable {P : Program} {w : World}
theorem Mem1.is {m : Int × Value} (g : Mem1 w m) (x : Str) : (strKind P w).is x m.2 = true ↔ txt m = x := by
  obtain ⟨y, tk, rfl⟩ := g
  constructor
  · intro h
    exact (strKind P w).inj _ _ _ (strKind_is P w y tk) h
  · intro h
    rw [← show y = x from h]
    exact strKind_is P w y tk
theorem Tab.elems {xs : List Str} {ms : Array (Int × Value)} {t : SetTable} (T : Tab w xs ms t) : ElemsOf (strKind P w) ms.toList := fun m hm => by
  obtain ⟨y, tk, rfl⟩ := T.mem m hm
  exact ⟨⟨y, strKind_is P w y tk, rfl⟩, rfl⟩
theorem Tab.has {xs : List Str} {ms : Array (Int × Value)} {t : SetTable} (T : Tab w xs ms t) (x : Str) : x ∈ xs ↔ ∃ m ∈ ms.toList, (strKind P w).is x m.2 = true := by
  rw [← T.perm.mem_iff, List.mem_map]
  exact ⟨fun ⟨m, hm, e⟩ => ⟨m, hm, ((T.mem m hm).is x).mpr e⟩, fun ⟨m, hm, e⟩ => ⟨m, hm, ((T.mem m hm).is x).mp e⟩⟩
theorem Tab.size {xs : List Str} {ms : Array (Int × Value)} {t : SetTable} (T : Tab w xs ms t) : ms.size = xs.length := by
  have e := T.perm.length_eq
  rw [List.length_map, Array.length_toList] at e
  exact e
/-- the same members laid otherwise -/
theorem Tab.laid {xs : List Str} {ms ms' : Array (Int × Value)} {t t' : SetTable} (T : Tab w xs ms t) (p : ms'.toList.Perm ms.toList) (f : t'.fits ms'.size = true) (r : Ris t'.place.toList) (l : t'.led = t.led) : Tab w xs ms' t' where
  mem := fun m hm => T.mem m (p.mem_iff.mp hm)
  perm := (p.map txt).trans T.perm
  nd := T.nd
  few := by
    have e := p.length_eq
    rw [Array.length_toList, Array.length_toList] at e
    rw [e]
    exact T.few
  fit := f
  ris := r
  ord := T.ord.imp id fun z => l.trans z
end
section
variable {P : Program} {w : World} {A : Around} {E : Value → Shared → Prop} {s : Shared} {a : Addr} {xs : List Str}
theorem SetS.of (R : SetS w s.heap a xs) : s.heap.SetOf (strKind P w) a (fun x => decide (x ∈ xs)) xs.length := by
  obtain ⟨o, ms, ep, t, ho, hx, hd, T⟩ := R
  exact ⟨o, ms, ep, t, ho, hx, hd, T.elems, fun k => decide_eq_true_iff.trans (T.has k), T.few, T.fit, T.size⟩
/-- the table stored, made greater where it is too full -/
theorem stored {give : Bool → Sem Unit} (hg : ∀ (b : Bool) (s1 : Shared) (Q1 : Unit → Shared → Prop), Q1 () s1 → wpAny (model P w) A (give b) Q1 E s1) {o : Obj} {ms ms1 : Array (Int × Value)} {ep : Nat} {t t1 : SetTable}
    (ho : s.heap.get? a = some o) (hx : o.ExactSet) (hd : o.data = .set ms ep t) (T : Tab w xs ms1 t1) {was : Bool} {R : Option Bool → Shared → Prop} (hR : ∀ h', Heap.SameBut a s.heap h' → SetS w h' a xs → R (some true) { s with heap := h' }) :
    wpAny (model P w) A (do
      storeSet a ms1 t1
      if (!was && t1.tooFull) = true then do
        give (relayAll t1 ms1 (SetTable.grown ms1.size)).2.2
        storeSet a (relayAll t1 ms1 (SetTable.grown ms1.size)).1 (relayAll t1 ms1 (SetTable.grown ms1.size)).2.1
        pure (some true)
      else pure (some true)) R E s := by
  have h1 := store_at (es' := ms1) (t' := t1) ho hd
  have b1 := Heap.SameBut.update s.heap a (Obj.putSet ms1 t1)
  refine wpAny_bind (wpAny_storeSet_of ho hd ?_ (fits_of_scanBound T.few))
  by_cases c : (!was && t1.tooFull) = true
  · rw [if_pos c]
    have T2 : Tab w xs (relayAll t1 ms1 (SetTable.grown ms1.size)).1 (relayAll t1 ms1 (SetTable.grown ms1.size)).2.1 := by
      have pm := relayAll_perm t1 ms1 (SetTable.grown ms1.size)
      have sz : (relayAll t1 ms1 (SetTable.grown ms1.size)).1.size = ms1.size := by rw [← Array.length_toList, pm.length_eq, Array.length_toList]
      exact T.laid pm (by have f := relayAll_fits t1 ms1 (SetTable.grown ms1.size); first | exact f | (rw [sz]; exact f)) (relayAll_ris t1 ms1 _ ) (relayAll_led t1 ms1 _)
    generalize relayAll t1 ms1 (SetTable.grown ms1.size) = Z at T2 ⊢
    refine wpAny_bind (hg _ _ _ (wpAny_bind (wpAny_storeSet_of h1 rfl (wpAny_pure (hR _ (b1.trans (Heap.SameBut.update _ a _)) ⟨_, _, _, _, store_at h1 rfl, hx, rfl, T2⟩)) (fits_of_scanBound T2.few))))
  · rw [if_neg c]
    exact wpAny_pure (hR _ b1 ⟨_, _, _, _, h1, hx, rfl, T⟩)
end
end FS

set_option Elab.async false
set_option linter.all false
set_option maxRecDepth 100000
set_option maxHeartbeats 4000000
namespace FS
open PySem PySem.Spec PyProof.Rows L2
section
variable {P : Program} {w : World} {A : Around} {E : Value → Shared → Prop} {s : Shared} {a : Addr} {xs : List Str}
theorem put1 {x : Str} {tk : Tok} {Q : Bool → Shared → Prop} (R : SetS w s.heap a xs) (room : xs.length + 1 < scanBound)
    (hQ : ∀ h', Heap.SameBut a s.heap h' → SetS w h' a (addS xs x) → ∀ b, Q b { s with heap := h' }) : wpAny (model P w) A (setAddHashed a (.str x tk) ((strKind P w).hash x)) Q E s := by
  obtain ⟨o, ms, ep, t, ho, hx, hd, T⟩ := R
  have key := strKind_is P w x tk
  have el : ElemsOf (strKind P w) ms.toList := T.elems
  have sc : (Value.str x tk).scannable = true := rfl
  have quietly : ∀ (b : Bool) {s1 : Shared} {Q1 : Unit → Shared → Prop}, Q1 () s1 → wpAny (model P w) A (match b with | true => rule "set.scan.the-table-gave-way" | false => pure ()) Q1 E s1 := fun b _ _ q => by
    cases b
    · exact wpAny_pure q
    · exact wpAny_rule q
  unfold setAddHashed setAddHashedIn
  refine wpAny_holding (wpAny_bind (wpAny_setState_of ho hd T.fit ?_))
  dsimp only
  rw [byScan_of sc T.few el]
  simp only [↓reduceIte]
  unfold setAddByScan
  refine wpAny_bind (wpAny_bind (wpAny_rule (wpAny_bind (wpAny_setScan_of key ho hd T.fit el ?_))))
  cases hf : List.findIdx? (fun e => (strKind P w).is x e.2) ms.toList with
  | some j =>
    obtain ⟨hj, pj, _⟩ := List.findIdx?_eq_some_iff_getElem.mp hf
    have hm : x ∈ xs := (T.has (P := P) x).mpr ⟨_, List.getElem_mem hj, pj⟩
    refine wpAny_pure (wpAny_pure (hQ s.heap (Heap.SameBut.refl a s.heap) ?_ _))
    unfold addS
    rw [if_pos hm]
    exact ⟨o, ms, ep, t, ho, hx, hd, T⟩
  | none =>
    have hm : x ∉ xs := fun z => by
      obtain ⟨m, h1, h2⟩ := (T.has (P := P) x).mp z
      have h3 := List.findIdx?_eq_none_iff.mp hf m h1
      rw [h2] at h3
      cases h3
    dsimp only
    have T1 : Tab w (addS xs x) (layNew t ms ((strKind P w).hash x) (.str x tk)).1 (layNew t ms ((strKind P w).hash x) (.str x tk)).2.1 := by
      have pm := layNew_perm t ms ((strKind P w).hash x) (.str x tk)
      rw [Array.toList_push] at pm
      have pc := pm.trans (List.perm_append_singleton _ _)
      have e : addS xs x = xs ++ [x] := by
        unfold addS
        rw [if_neg hm]
      have pk : ((layNew t ms ((strKind P w).hash x) (.str x tk)).1.toList.map txt).Perm (xs ++ [x]) := ((pc.map txt).trans (List.Perm.cons x T.perm)).trans (List.perm_append_singleton x xs).symm
      have sz : (layNew t ms ((strKind P w).hash x) (.str x tk)).1.size = xs.length + 1 := by
        rw [← Array.length_toList, ← List.length_map (f := txt), pk.length_eq, List.length_append]
        rfl
      rw [e]
      refine ⟨fun m h => ?_, pk, List.nodup_append.mpr ⟨T.nd, (by simp), fun y hy z hz => ?_⟩, by rw [sz]; exact room, layNew_fits t ms _ _, layNew_ris t ms _ _ T.ris, T.ord.imp id fun z => (layNew_led t ms _ _).trans z⟩
      · rcases List.mem_cons.mp (pc.mem_iff.mp h) with z | z
        · exact ⟨x, tk, z⟩
        · exact T.mem m z
      · rw [List.mem_singleton.mp hz]
        intro e2
        exact hm (e2 ▸ hy)
    generalize layNew t ms ((strKind P w).hash x) (.str x tk) = Z at T1 ⊢
    obtain ⟨ms1, t1, was, gave⟩ := Z
    dsimp only at T1 ⊢
    refine wpAny_bind (quietly _ ?_)
    split
    · refine wpAny_bind ?_
      rw [hashByValue_scannable 8 sc]
      refine wpAny_pure ?_
      refine stored (fun b _ _ q => quietly b q) ho hx hd (xs := addS xs x) ?_ fun h' sb r => ?_
      · first | exact T1 | (split <;> first | exact T1 | exact ⟨T1.mem, T1.perm, T1.nd, T1.few, SetTable.fits_plain_off T1.fit, T1.ris, T1.ord⟩)
      · dsimp only
        exact wpAny_pure (hQ h' sb r _)
    · refine wpAny_bind (wpAny_pure ?_)
      simp only [↓reduceIte]
      refine stored (fun b _ _ q => quietly b q) ho hx hd T1 fun h' sb r => ?_
      dsimp only
      exact wpAny_pure (hQ h' sb r _)
theorem put {x : Str} {tk : Tok} {Q : Value → Shared → Prop} (R : SetS w s.heap a xs) (room : xs.length + 1 < scanBound)
    (hQ : ∀ h' tk', Heap.SameBut a s.heap h' → SetS w h' a (addS xs x) → Q .none { s with heap := h', toks := tk' }) : wpAny (model P w) A (call (.builtin "set.add") [.ref a, .str x tk]) Q E s := by
  refine wpAny_call_entry F.slot_set_add (R.of (P := P)).typeIs F.entry_set_add ?_ (F.args_set_add_2 _ _)
  unfold Builtin.«set.add» Builtin.Frozenset.oneOther
  simp only [List.isEmpty_nil, bind_assoc]
  unfold Builtin.Frozenset.addrOf setAdd
  refine wpAny_bind (wpAny_pure (wpAny_bind (wpAny_pure (wpAny_bind (wpAny_holding (wpAny_bind ((strKind P w).pyHash (strKind_is P w x tk) ?_)))))))
  refine put1 (s := { s with toks := s.toks + 1 }) R room fun h' sb r b => ?_
  show wpAny _ _ (ret Value.none) _ _ _
  exact wpAny_pure ⟨_, rfl, hQ h' _ sb r⟩
theorem SetS.new {h : Heap} (w : World) : SetS w (h.push { cls := .type "set", dict := none, data := .set #[] 0 (.fresh 0 0 (!w.params.followText "set-order")) }) h.objs.size [] := by
  refine ⟨_, #[], 0, _, Heap.get?_push_size _ rfl, ⟨rfl, rfl, rfl⟩, rfl, ⟨(fun m hm => by cases hm), List.Perm.nil, List.nodup_nil, by decide, rfl, List.Pairwise.nil, ?_⟩⟩
  show w.params.followText "set-order" = true ∨ (!w.params.followText "set-order") = true
  cases w.params.followText "set-order"
  · exact .inr rfl
  · exact .inl rfl
end
/-- the set of the texts xs, as what is tracked -/
def SO (w : World) (a : Addr) (xs : List Str) : HO := .ext fun h => SetS w h a xs
theorem SO.mk {P : Program} {w : World} {H : Hp} {h : Heap} {a : Addr} {xs : List Str} (R : SetS w h a xs) : ObjOk P w H h a (SO w a xs) := by
  obtain ⟨o, ms, ep, t, ho, r⟩ := id R
  exact ⟨R, ⟨o, ho⟩, fun h1 h2 ⟨o1, m1, e1, t1, g1, r1⟩ k => ⟨o1, m1, e1, t1, k o1 g1, r1⟩⟩
section
variable {X : Cx} {pins : List (Addr × Obj)} {σ : L2.St} {H : Hp} {s : Shared}
theorem SO.at {a : Addr} {xs : List Str} (I : Inv X pins σ H s) (ha : H a = some (SO X.w a xs)) : SetS X.w s.heap a xs := (I.hok a _ ha).1
theorem SO.put {E : Value → Shared → Prop} {A : Around} {D : Addr} {xs : List Str} {x : Str} {tk : Tok} {Q : Value → Shared → Prop} (I : Inv X pins σ H s) (hD : H D = some (SO X.w D xs)) (room : xs.length + 1 < scanBound)
    (h : ∀ s', Inv X pins σ (upd H D (SO X.w D (addS xs x))) s' → Q .none s') : wpAny (model X.prog X.w) A (call (.builtin "set.add") [.ref D, .str x tk]) Q E s := by
  refine FS.put (SO.at I hD) room fun h' tk' sb r => h _ (I.write (e := D) (t' := tk') (by rw [hD]; trivial) (.inl rfl) (fun b u hb hu => (sb.2 b hb).trans hu) ?_ (SO.mk r))
  obtain ⟨o, _, _, _, ho, _⟩ := r
  exact ⟨o, ho⟩
end
end FS

set_option Elab.async false
set_option linter.all false
set_option maxRecDepth 100000
set_option maxHeartbeats 4000000
namespace FS
open PySem PySem.Spec PyProof.Rows L2
/-! ### {elt for target in iter if ..}, elt a text -/
section
variable {X : Cx}
def tSet (w : World) (wi : TI) (g : TG) (tt : TT) (te : TE) (vs : List Nat) : TE := fun σ H Q => wi σ H fun J H1 => ∀ D, H1 D = none →
  ∃ W : Nat → Nat → Hp → Prop, (∃ m, W 0 m (upd H1 D (SO w D []))) ∧ ∀ i m H2, W i m H2 → (J.stop i H2 ∧ Q (.ref D) H2) ∨
    (J.go i H2 ∧ ∃ Nx : Hp → Prop, (∀ H', Nx H' → ∃ m', m' < m ∧ W (i + 1) m' H') ∧ ∀ x H3, J.yld i H2 x H3 → g x (wipe σ vs) H3 fun σ2 H4 => wipe σ2 vs = wipe σ vs ∧ tt σ2 H4 fun b H5 =>
      if b = true then te σ2 H5 fun y H6 => ∃ (z : Str) (xs : List Str), y = .str z ∧ H6 D = some (SO w D xs) ∧ xs.length + 1 < scanBound ∧ Nx (upd H6 D (SO w D (addS xs z))) else Nx H5)
theorem pe_set {elt tg iter : Expr} {ifs : List Expr} {scope : Scope} {own : List (PySem.Str × Nat)} {pos : Pos} {wi : TI} {g : TG} {tt : TT} {te : TE} (hc : X.calm = true) (hN : X.N.Nodup) (hi : PI X tg iter wi) (ok : BlkOk X.N X.env.scope scope own)
    (hg : ∀ (s : Shared) (H : Hp) (C : Addr) (cl : List (PySem.Str × Addr)) (fp : List Addr), PG (X.blk s H scope (compEnvC scope cl C X.env) fp) tg g)
    (ht : ∀ (s : Shared) (H : Hp) (C : Addr) (cl : List (PySem.Str × Addr)) (fp : List Addr), PTs (X.blk s H scope (compEnvC scope cl C X.env) fp) ifs tt)
    (he : ∀ (s : Shared) (H : Hp) (C : Addr) (cl : List (PySem.Str × Addr)) (fp : List Addr), PE (X.blk s H scope (compEnvC scope cl C X.env) fp) elt te) (hs : ∀ x, foldedSetIterable iter X.env x = pure x := by intro _; rfl) :
    PE X (.SetComp elt [⟨tg, iter, ifs, 0⟩] scope pos) (tSet X.w wi g tt te (own.map (·.2))) := by
  refine ⟨fun pins s σ H Q I h => ?_⟩
  rw [PpSet.eval_SetComp]
  have hfree : ∀ y ∈ scope.names, y.2 = .free → ∃ c, X.env.cells.lookup y.1 = some c := fun y hy e => by
    rcases ok.free y hy e with k | k
    · exact I.ok.has _ (.inl k)
    · exact I.ok.has _ (.inr k)
  refine wpAny_comprehension_free (use := none) rfl hs (closure_ok hfree) ok.kind (fun y hy e => by rw [ok.uniq y hy, e]) (thn (hi.run pins s σ H _ I h) fun xv s1 hx => thn hx fun itv s2 h2 => ?_)
  obtain ⟨it, fp, tn, J, H2, rfl, I2, T, st2, f2, q⟩ := h2
  refine PpSet.newSet_ok (newEnv_comp ?_)
  obtain ⟨D, eD⟩ : ∃ D, s2.heap.objs.size = D := ⟨_, rfl⟩
  rw [eD]
  have hDn : H2 D = none := I2.hok.fresh (Nat.le_of_eq eD)
  obtain ⟨W, ⟨m0, w0⟩, turn⟩ := q D hDn
  obtain ⟨s3, es3⟩ : ∃ s3 : Shared, { s2 with heap := s2.heap.push { cls := .type "set", dict := none, data := .set #[] 0 (.fresh 0 0 (!X.w.params.followText "set-order")) } } = s3 := ⟨_, rfl⟩
  have kept : ∀ b o, s2.heap.get? b = some o → s3.heap.get? b = some o := fun b o e => by
    rw [← es3]
    exact Heap.get?_push_of_some _ e
  have grown : s3.heap.objs.size = s2.heap.objs.size + 1 := by
    rw [← es3]
    exact Heap.size_push ..
  have I3 : Inv X pins σ (upd H2 D (SO X.w D [])) s3 := by
    rw [← es3]
    refine I2.laid (t' := s2.toks) (fun b o e => Heap.get?_push_of_some _ e) (Nat.le_of_eq eD) (SO.mk ?_)
    rw [← eD]
    exact SetS.new X.w
  rw [es3]
  clear es3
  have below : ∀ b ∈ fp, b < s2.heap.objs.size := fun b hb => by
    obtain ⟨o, e, _⟩ := T.obj _ _ st2 b hb
    exact Heap.lt_size e
  obtain ⟨H3, eH3⟩ : ∃ H3, upd H2 D (SO X.w D []) = H3 := ⟨_, rfl⟩
  have f3 : ∀ b ∈ fp, FpOk X pins H3 b ∧ b < s3.heap.objs.size := fun b hb => by
    have lt := below b hb
    have ne : b ≠ D := fun z => Nat.lt_irrefl _ (by rw [z, ← eD] at lt; exact lt)
    refine ⟨⟨?_, (f2 b hb).2⟩, by rw [grown]; exact Nat.lt_succ_of_lt lt⟩
    rw [← eH3, upd_ne ne]
    exact (f2 b hb).1
  rw [eH3] at I3 w0
  have st3 : tn 0 s3.heap := T.keep _ _ _ st2 fun b _ o e => kept b o e
  have I4 := block_start I3 ok hN f3
  have pg := hg s3 H3 s3.heap.objs.size (cellsFrom (s3.heap.objs.size + 1) scope.names (cloFrom X.env.cells scope.names [])) fp
  have pt := ht s3 H3 s3.heap.objs.size (cellsFrom (s3.heap.objs.size + 1) scope.names (cloFrom X.env.cells scope.names [])) fp
  have pe := he s3 H3 s3.heap.objs.size (cellsFrom (s3.heap.objs.size + 1) scope.names (cloFrom X.env.cells scope.names [])) fp
  obtain ⟨ce, ece⟩ : ∃ ce, compEnvC scope (cellsFrom (s3.heap.objs.size + 1) scope.names (cloFrom X.env.cells scope.names [])) s3.heap.objs.size X.env = ce := ⟨_, rfl⟩
  obtain ⟨s4, es4⟩ : ∃ s4 : Shared, { s3 with heap := pushCells (s3.heap.push { cls := .type "dict", data := .dict #[] }) scope.names } = s4 := ⟨_, rfl⟩
  have locals : ce.locals = s3.heap.objs.size := by
    rw [← ece]
    rfl
  have st4 : tn 0 s4.heap := T.keep _ _ _ st3 fun b _ o e => by
    rw [← es4]
    exact pushCells_keeps _ _ _ _ (Heap.get?_push_of_some _ e)
  rw [ece] at I4 pg pt pe
  rw [es4] at I4
  have none3 : ∀ b ∈ fp, H3 b = none := fun b hb => (f3 b hb).1.1
  have still : ∀ {σ' : L2.St} {H' : Hp} {s' : Shared}, Inv (X.blk s3 H3 scope ce fp) [] σ' H' s' → (∀ b ∈ fp, H' b = none) → ∀ b ∈ fp, FpOk (X.blk s3 H3 scope ce fp) [] H' b := fun {σ' H' s'} I' hn b hb =>
    ⟨hn b hb, (I'.ok.exf b hb).1, I'.ok.exfs b hb, .inl hb, fun x c e => (I'.ok.exf b hb).2 x c e, fun p hp => absurd (show p ∈ ([] : List (Addr × Obj)) ++ [] from hp) (by simp)⟩
  show codeAny _ _ (.compStart (.SetComp elt [⟨tg, iter, ifs, 0⟩] scope pos) 0 (.ref it) (.ref D) (compEnvC scope (cellsFrom (s3.heap.objs.size + 1) scope.names (cloFrom X.env.cells scope.names [])) s3.heap.objs.size X.env)) _ { s3 with heap := pushCells (s3.heap.push { cls := .type "dict", data := .dict #[] }) scope.names }
  rw [ece, es4]
  refine PpSet.codeAny_compStart_set ?_ (T.self X.A 0 _ _ _ st4 ?_)
  all_goals
    refine PpSet.compLoopS_any (fun n s' => ∃ i H', Inv (X.blk s3 H3 scope ce fp) [] (wipe σ (own.map (·.2))) H' s' ∧ tn i s'.heap ∧ (∀ b ∈ fp, H' b = none) ∧ W i n H') ?_ m0 ⟨0, H3, I4, st4, none3, w0⟩
    rintro n s5 ⟨i, H5, I5, st5, n5, w5⟩
    rcases turn i n H5 w5 with ⟨stop, qq⟩ | ⟨go, Nx, hNx, step⟩
    · refine thnF (T.done (X.blk s3 H3 scope ce fp) rfl rfl rfl hc i [] s5 _ H5 (fun _ _ => False) I5 (still I5 n5) st5 stop) fun r s6 ⟨hr, I6⟩ => ?_
      subst hr
      have I7 : Inv X pins σ H5 s6 := I3.call' (ch := fp) I6.os I6.base I6.hok I6.bare fun b hb => ⟨(f3 b hb).1.2.2.2.1, (f3 b hb).1.2.1, (f3 b hb).1.2.2.2.2.1, (f3 b hb).1.2.2.2.2.2⟩
      have nC : H5 s3.heap.objs.size = none := by
        have z : H5 ce.locals = none := I6.free
        rw [locals] at z
        exact z
      obtain ⟨m, hn, _⟩ := I6.loc
      have hn : s6.heap.Ns ce.locals m := hn
      rw [locals] at hn
      obtain ⟨g0, g1, g2, g3, g4, g5⟩ := I3.fpOk (Nat.le_refl _) nC
      exact ⟨m, hn, fun h'' sb => ⟨.ref D, H5, I7.turned (t' := s6.toks) (fun b o hb e => (sb.2 b hb).trans e) g0 g1 g3 g4 g5, rfl, qq⟩⟩
    · refine thnF (T.item (X.blk s3 H3 scope ce fp) rfl rfl rfl hc i [] s5 _ H5 (fun _ _ => False) I5 (still I5 n5) st5 go) fun r s6 ⟨u, hr, h6⟩ => ?_
      subst hr
      refine thnF h6 fun _ s7 ⟨x, H7, I7, r7, y7, st7, n7⟩ => ?_
      refine thnF (pg.run _ s7 _ H7 x u _ (I7.pinned (still I7 n7) (T.obj _ _ st7)) r7 (step x H7 y7)) fun _ s8 ⟨σ8, H8, I8, hw8, q8⟩ => ?_
      refine thnF (pt.run _ s8 σ8 H8 _ I8 q8) fun b s9 ⟨H9, I9, q9⟩ => ?_
      have fin : ∀ {s' : Shared} {H' : Hp}, Inv (X.blk s3 H3 scope ce fp) ([] ++ pinsAt fp s7.heap) σ8 H' s' → Nx H' → ∃ m, m < n ∧ ∃ i H', Inv (X.blk s3 H3 scope ce fp) [] (wipe σ (own.map (·.2))) H' s' ∧ tn i s'.heap ∧ (∀ b ∈ fp, H' b = none) ∧ W i m H' := fun {s' H'} I' nx => by
        obtain ⟨m', hm, w'⟩ := hNx H' nx
        have pinned : ∀ b ∈ fp, ∀ o, s7.heap.get? b = some o → s'.heap.get? b = some o ∧ H' b = none := fun b hb o e =>
          let z := I'.pin (b, o) (List.mem_append_right _ (List.mem_append_right _ (mem_pinsAt hb e)))
          ⟨z.1, z.2.1⟩
        refine ⟨m', hm, i + 1, H', (I'.unpinned (pins := [])).weak (by rw [← hw8, wipe_length]) (fun j v e => ?_), T.keep _ _ _ st7 fun b hb o e => (pinned b hb o e).1, fun b hb => ?_, w'⟩
        · rw [← hw8] at e
          exact (wipe_some e).1
        · obtain ⟨o, e, _⟩ := T.obj _ _ st7 b hb
          exact (pinned b hb o e).2
      cases b with
      | false =>
        rw [if_neg Bool.false_ne_true] at q9 ⊢
        exact fin I9 q9
      | true =>
        rw [if_pos rfl] at q9 ⊢
        refine thnF (pe.run _ s9 σ8 H9 _ I9 q9) fun z s10 ⟨yv, H10, I10, r10, zt, zs, ey, hD10, hz10, nx⟩ => ?_
        subst ey
        obtain ⟨tk, rfl⟩ := (show ∃ tk, z = Value.str zt tk from r10)
        exact SO.put (X := X.blk s3 H3 scope ce fp) I10 hD10 hz10 fun s11 I11 => fin I11 nx
end
end FS

set_option Elab.async false
set_option linter.all false
set_option maxRecDepth 100000
set_option maxHeartbeats 4000000
namespace FS
open PySem PySem.Spec PyProof.Rows L2
theorem strs_members {w : World} : ∀ (ms : List (Int × Value)) (vs : List Value), (∀ m ∈ ms, Mem1 w m) → vs.Perm (ms.map (·.2)) → ∃ ys : List Str, StrsAre vs ys ∧ ys.Perm (ms.map txt) := fun ms vs h p => by
  have all : ∀ v ∈ vs, ∃ x t, v = Value.str x t := fun v hv => by
    obtain ⟨m, hm, e⟩ := List.mem_map.mp (p.mem_iff.mp hv)
    obtain ⟨x, tk, rfl⟩ := h m hm
    exact ⟨x, tk, e.symm⟩
  refine ⟨vs.map strOf, strsAre_map vs all, (p.map strOf).trans (List.Perm.of_eq ?_)⟩
  rw [List.map_map]
  refine List.map_congr_left fun m hm => ?_
  obtain ⟨x, tk, rfl⟩ := h m hm
  rfl
section
variable {P : Program} {w : World} {A : Around} {E : Value → Shared → Prop} {s : Shared} {a : Addr} {xs : List Str}
theorem ranked {Q : Value → Shared → Prop} (R : SetS w s.heap a xs) (hh : A.handled = none) (hz : xs.length ≤ 4096)
    (hQ : ∀ s' p (out : Array Value) (c : Nat) (ys : List Str), (∀ b o, s.heap.get? b = some o → s'.heap.get? b = some o) → s'.gens = s.gens → s'.os = s.os → s.heap.objs.size ≤ p →
      s'.heap.get? p = some (seqObj "list" out c) → StrsAre out.toList ys → ys.Perm xs → sortedS ys = true → Q (.ref p) s') : wpAny (model P w) A (call (.builtin "sorted") [.ref a]) Q E s := by
  obtain ⟨o, ms, ep, t, ho, hx, hd, T⟩ := R
  refine Calls.call_function_entry kind_sorted plain_sorted entry_sorted (args_sorted1 _) ?_
  unfold Builtin.«sorted»
  refine wpAny_bind (m := checkCount "sorted" 1 1 _) (wpAny_pure (wpAny_bind (collect_set (A := A.in1) hh ⟨o, ho, hx.1, hd⟩ T.fit T.few T.ris T.ord fun s1 vs k1 z1 g1 o1 pm => ?_)))
  obtain ⟨zs, hS, pz⟩ := strs_members ms.toList vs T.mem pm
  have len : vs.length = xs.length := by
    rw [pm.length_eq, List.length_map, Array.length_toList]
    exact T.size
  have le : vs.length ≤ sizeLine := by
    rw [sizeLine_eq]
    omega
  refine wpAny_bind (wpAny_newList ?_ le)
  have hL : (s1.heap.push (seqObj "list" vs.toArray 0)).get? s1.heap.objs.size = some (seqObj "list" vs.toArray 0) := Heap.get?_push_size _ rfl
  refine wpAny_bind (wpAny_holding (wpAny_call_entry slot_list_sort ⟨_, hL, rfl⟩ entry_list_sort (list_sort_treeKAny strKind_oneLt hL hS.keysOf (fun v1 v2 rest e => keyKind_strs (by rw [← e]; exact hS)) le fun st' hp hs => ?_) (args_list_sort _)))
  obtain ⟨ys, h1, h2, h3⟩ := sorted_out_str hS hp hs
  obtain ⟨c, hc⟩ := sortedHeap_at (vs := vs) (out := (arrOf st').map (·.2)) hL
  refine ⟨.none, rfl, wpAny_pure ⟨.ref s1.heap.objs.size, rfl, hQ _ s1.heap.objs.size _ c ys (fun b u e => ?_) g1 o1 z1 hc h1 (h2.trans (pz.trans T.perm)) h3⟩⟩
  have q := k1 b u e
  have lt := Heap.lt_size q
  show (sortedHeap (s1.heap.push (seqObj "list" vs.toArray 0)) s1.heap.objs.size vs _).get? b = some u
  rw [sortedHeap_old (Nat.ne_of_lt lt) (by rw [size_push']; exact Nat.lt_succ_of_lt lt)]
  exact Heap.get?_push_of_some _ q
end
section
variable {X : Cx}
/-- sorted(a set of texts) -/
theorem cr_ranked (hc : X.calm = true) : CallR X (.builtin "sorted") (fun vs H Q => ∃ (a : Addr) (xs : List Str), vs = [V.ref a] ∧ H a = some (SO X.w a xs) ∧ xs.length ≤ 4096 ∧
    ∀ (ys : List Str) (p : Addr), ys.Perm xs → sortedS ys = true → H p = none → Q (.ref p) (upd H p (.lst (ys.map V.str)))) := by
  intro pins s σ H vs us Q I r h
  obtain ⟨a, xs, rfl, ha, hz, q⟩ := h
  rw [Vals.ref1 r]
  refine ranked (SO.at I ha) (I.ok.hd hc) hz fun s' p out c ys k g o hp hg hi pm hs => ?_
  have le : (ys.map V.str).length ≤ sizeLine := by
    rw [List.length_map, pm.length_eq, sizeLine_eq]
    omega
  have hn : H p = none := I.hok.fresh hp
  have J : Inv X pins σ (upd H p (.lst (ys.map V.str))) { s with heap := s'.heap, gens := s'.gens, drawn := s'.drawn, toks := s'.toks } :=
    I.call (ch := []) (Un.laid k hp hn) (I.hok.laid k hp ⟨le, out.toList, c, vals_of_strs hi, hg⟩) (by rw [g]; exact I.bare) (fun _ z => nomatch z)
  have e : s' = { s with heap := s'.heap, gens := s'.gens, drawn := s'.drawn, toks := s'.toks } := by
    obtain ⟨_, _, _, _, _⟩ := s'
    obtain ⟨_, _, _, _, _⟩ := s
    cases o
    rfl
  rw [e]
  exact ⟨.ref p, _, J, rfl, q ys p pm hs hn⟩
/-- len(a set of texts) -/
theorem cr_many : CallR X (.builtin "len") (fun vs H Q => ∃ (a : Addr) (xs : List Str), vs = [V.ref a] ∧ H a = some (SO X.w a xs) ∧ Q (.int xs.length) H) := by
  intro pins s σ H vs us Q I r h
  obtain ⟨a, xs, rfl, ha, q⟩ := h
  rw [Vals.ref1 r]
  obtain ⟨o, ms, ep, t, ho, hx, hd, T⟩ := SO.at I ha
  have e := T.size
  refine call_len_set ho hx hd T.fit (by have := T.few; have l : scanBound ≤ 2 ^ 62 := by decide
                                         omega) ⟨.int xs.length, H, I.tok _, ⟨_, by rw [e]⟩, q⟩
end
end FS

set_option Elab.async false
set_option linter.all false
set_option maxRecDepth 100000
set_option maxHeartbeats 4000000
namespace FS
open PySem PySem.Spec PyProof.Rows L2
/-! ### rules -/
section
variable {X : Cx}
def rInT (K : PySem.W.Frag) (neg : Bool) : R2 := fun x y H Q => ∃ d ds, Dp K H x d ∧ Dp K H y (.tuple ds) ∧ SeqAt.shaped d = true ∧ SeqAt.shaped (.tuple ds) = true ∧ Q (.bl (if neg then !(ds.any fun z => PyData.eqv z d) else ds.any fun z => PyData.eqv z d)) H
theorem op_inT (hu : X.A.units + 65 < cLine) : OpR X (compareOp .In) (rInT X.K false) := by
  intro pins s σ H x y v u Q I rx ry h
  obtain ⟨d, ds, hd, he, sd, se, q⟩ := h
  obtain ⟨as, r1⟩ := Dp.reads I d x v hd rx
  obtain ⟨bs, r2⟩ := Dp.reads I (.tuple ds) y u he ry
  exact SeqAt.in_tuple_reads r2 r1 (SeqAt.canLay_of_shaped se) (SeqAt.canLay_of_shaped sd) (room_in_shaped sd hu) ⟨.bl _, H, I, rfl, q⟩
theorem op_notInT (hu : X.A.units + 65 < cLine) : OpR X (compareOp .NotIn) (rInT X.K true) := by
  intro pins s σ H x y v u Q I rx ry h
  obtain ⟨d, ds, hd, he, sd, se, q⟩ := h
  obtain ⟨as, r1⟩ := Dp.reads I d x v hd rx
  obtain ⟨bs, r2⟩ := Dp.reads I (.tuple ds) y u he ry
  exact SeqAt.notIn_tuple_reads r2 r1 (SeqAt.canLay_of_shaped se) (SeqAt.canLay_of_shaped sd) (room_in_shaped sd hu) ⟨.bl _, H, I, rfl, q⟩
theorem mulTup0 (l : Addr) (items : Array Value) (n : Nat) (dd : Option Addr) (sl : Array (Option Value)) (u : Tok) (hi : items.isEmpty = false) :
    Meets (Builtin.«tuple.__mul__» ⟨[.ref l, .int 0 u], []⟩) (fun _ R s => s.heap.get? l = some { cls := .type "tuple", dict := dd, data := .seq items n, slots := sl } ∧
      R (.ok (.ret (Value.ref s.heap.objs.size))) { s with heap := s.heap.push { cls := Value.type "tuple", data := Data.seq #[] }, toks := s.toks }) :=
  .of_wp fun prog w A R s h => by
    obtain ⟨hp, g, d, tk, os⟩ := s
    obtain ⟨hl, h⟩ := h
    have f1 := AutoSeq1.idx_int
    wp_walk using wpAny_loadPart' hl
    repeat (first
      | (refine wpAny_ite_false (by decide) ?_; wp_walk using wpAny_loadPart' hl)
      | (refine wpAny_ite_false (decide_eq_false (by rw [hi]; decide)) ?_; wp_walk using wpAny_loadPart' hl)
      | (refine wpAny_ite_true (by decide) ?_; wp_walk using wpAny_loadPart' hl))
    exact ⟨_, rfl, h⟩
theorem mulTup1 (l : Addr) (items : Array Value) (n : Nat) (dd : Option Addr) (sl : Array (Option Value)) (u : Tok) (hi : items.isEmpty = false) :
    Meets (Builtin.«tuple.__mul__» ⟨[.ref l, .int 1 u], []⟩) (fun _ R s => s.heap.get? l = some { cls := .type "tuple", dict := dd, data := .seq items n, slots := sl } ∧ R (.ok (.ret (Value.ref l))) s) :=
  .of_wp fun prog w A R s h => by
    obtain ⟨hp, g, d, tk, os⟩ := s
    obtain ⟨hl, h⟩ := h
    have f1 := AutoSeq1.idx_int
    wp_walk using wpAny_loadPart' hl
    repeat (first
      | (refine wpAny_ite_false (by decide) ?_; wp_walk using wpAny_loadPart' hl)
      | (refine wpAny_ite_true (by rw [hi]; decide) ?_; wp_walk using wpAny_loadPart' hl)
      | (refine wpAny_ite_true (by decide) ?_; wp_walk using wpAny_loadPart' hl))
    exact ⟨_, rfl, h⟩
/-- tuple * int, any count from 0 on -/
def rRepA (K : PySem.W.Frag) : R2 := fun x y H Q => ∃ (l : Addr) (k : Nat) (xs : List V), x = .ref l ∧ y = .int (k : Int) ∧ SqT K H l xs ∧ xs ≠ [] ∧ k ≤ 1000 ∧ xs.length ≤ 1000 ∧ ∀ p H', Same H H' → SqT K H' p (List.replicate k xs).flatten → Q (.ref p) H'
theorem same_upd {H : Hp} {p : Addr} {o : HO} (h : H p = none) : Same H (upd H p o) := fun b x e => by
  rw [upd_ne (ne_of_none e h)]
  exact e
theorem op_repA : OpR X (binaryOp .Mult) (rRepA X.K) := by
  intro pins s σ H x y v u Q I rx ry h
  obtain ⟨l, k, xs, rfl, rfl, hT, hne, hk, hz, q⟩ := h
  by_cases h2 : 2 ≤ k
  · exact op_repT pins s σ H (.ref l) (.int k) v u Q I rx ry ⟨l, k, xs, rfl, rfl, hT, hne, by omega, by omega, hz, fun p np => q p _ (same_upd np) (.inl (.inl (by
      rw [upd_same]
      rfl)))⟩
  · cases rx
    obtain ⟨t, rfl⟩ := ry
    obtain ⟨its, r, ⟨⟨cls, dd, data, sl⟩, ho, hc, n, hd⟩, hs⟩ := I.tuple hT
    simp only at hc hd
    subst hc hd
    have hi : its.toArray.isEmpty = false := by
      cases its with
      | nil =>
        cases r
        exact absurd rfl hne
      | cons a b => rfl
    have k01 : k = 0 ∨ k = 1 := by omega
    rcases k01 with rfl | rfl
    · refine wpAny_binaryOp_repeat_ref (T := "tuple") (U := "int") (by decide) ⟨_, ho, rfl⟩ (fun s' => typeIs_int s' _ t) noFill_tuple_mul F.fills_int_mul F.slot_int_rmul repeat_tuple F.slot_int_index.lookup
        (call_meets F.slot_int_rmul (typeIs_int s _ t) F.entry_int_rmul (F.args_int_rmul_2 _ _) (int_rmul_tuple _ t l its.toArray n dd sl)
          ⟨ho, rfl, ⟨_, ho, rfl⟩, call_meets F.slot_tuple_mul ⟨_, ho, rfl⟩ F.entry_tuple_mul (F.args_tuple_mul_2 _ _) (mulTup0 l its.toArray n dd sl t hi) ⟨ho, ?_⟩⟩)
      have np : H s.heap.objs.size = none := I.hok.fresh (Nat.le_refl _)
      exact ⟨.ref _, upd H s.heap.objs.size (.tup []), I.laid (t' := s.toks) (fun b o e => Heap.get?_push_of_some _ e) (Nat.le_refl _) ⟨Nat.zero_le _, [], .nil, _, Heap.get?_push_size _ rfl, rfl, 0, rfl⟩, rfl, q _ _ (same_upd np) (.inl (.inl upd_same))⟩
    · refine wpAny_binaryOp_repeat_ref (T := "tuple") (U := "int") (by decide) ⟨_, ho, rfl⟩ (fun s' => typeIs_int s' _ t) noFill_tuple_mul F.fills_int_mul F.slot_int_rmul repeat_tuple F.slot_int_index.lookup
        (call_meets F.slot_int_rmul (typeIs_int s _ t) F.entry_int_rmul (F.args_int_rmul_2 _ _) (int_rmul_tuple _ t l its.toArray n dd sl)
          ⟨ho, rfl, ⟨_, ho, rfl⟩, call_meets F.slot_tuple_mul ⟨_, ho, rfl⟩ F.entry_tuple_mul (F.args_tuple_mul_2 _ _) (mulTup1 l its.toArray n dd sl t hi) ⟨ho, ?_⟩⟩)
      exact ⟨.ref l, H, I, rfl, q l H (.refl H) (by
        show SqT X.K H l ([xs].flatten)
        rw [List.flatten_singleton]
        exact hT)⟩
end
/-! ### data that stays -/
theorem Same.sqT {K : PySem.W.Frag} {H H' : Hp} {a : Addr} {xs : List V} (e : Same H H') (h : SqT K H a xs) : SqT K H' a xs := by
  rcases h with (h | ⟨o, h⟩) | h
  · exact .inl (.inl (e _ _ h))
  · exact .inl (.inr ⟨o, e _ _ h⟩)
  · exact .inr h
/-- all but lists is as it was -/
def Stay (H H' : Hp) : Prop := ∀ b o, (∀ xs, o ≠ .lst xs) → H b = some o → H' b = some o
theorem Stay.of {H H' : Hp} (e : Same H H') : Stay H H' := fun b o _ h => e b o h
theorem Stay.trans {H H1 H2 : Hp} (a : Stay H H1) (b : Stay H1 H2) : Stay H H2 := fun c o n h => b c o n (a c o n h)
theorem Stay.sqT {K : PySem.W.Frag} {H H' : Hp} {a : Addr} {xs : List V} (e : Stay H H') (h : SqT K H a xs) : SqT K H' a xs := by
  rcases h with (h | ⟨o, h⟩) | h
  · exact .inl (.inl (e _ _ (fun _ z => by cases z) h))
  · exact .inl (.inr ⟨o, e _ _ (fun _ z => by cases z) h⟩)
  · exact .inr h
mutual
/-- data without lists -/
def noL : PyData → Bool
  | .list _ => false
  | .tuple ds => noLs ds
  | _ => true
def noLs : List PyData → Bool
  | [] => true
  | d :: r => noL d && noLs r
end
mutual
theorem Dp.stay {K : PySem.W.Frag} {H H' : Hp} (e : Stay H H') : ∀ {v : V} {d : PyData}, noL d = true → Dp K H v d → Dp K H' v d
  | _, _, _, .non => .non
  | _, _, _, .bl b => .bl b
  | _, _, _, .int i => .int i
  | _, _, _, .str x => .str x
  | _, _, n, .lst _ _ => by cases n
  | _, _, n, .tup h r => .tup (e.sqT h) (DpAll.stay e n r)
theorem DpAll.stay {K : PySem.W.Frag} {H H' : Hp} (e : Stay H H') : ∀ {vs : List V} {ds : List PyData}, noLs ds = true → DpAll K H vs ds → DpAll K H' vs ds
  | _, _, _, .nil => .nil
  | _, _, n, .cons h r => by
    have n2 := Bool.and_eq_true_iff.mp (show (noL _ && noLs _) = true from n)
    exact .cons (Dp.stay e n2.1 h) (DpAll.stay e n2.2 r)
end
theorem DpAll.get {K : PySem.W.Frag} {H : Hp} : ∀ {vs : List V} {ds : List PyData}, DpAll K H vs ds → ∀ {i : Nat} {v : V}, vs[i]? = some v → ∃ d, ds[i]? = some d ∧ Dp K H v d
  | _, _, .nil, i, v, h => by simp at h
  | _, _, .cons h r, 0, v, e => ⟨_, rfl, by
      rw [← Option.some.inj e]
      exact h⟩
  | _, _, .cons h r, i + 1, v, e => DpAll.get r e
theorem DpAll.put {K : PySem.W.Frag} {H : Hp} : ∀ {vs : List V} {ds : List PyData}, DpAll K H vs ds → ∀ {i : Nat} {d : PyData}, ds[i]? = some d → ∃ v, vs[i]? = some v ∧ Dp K H v d
  | _, _, .nil, i, v, h => by simp at h
  | _, _, .cons h r, 0, v, e => ⟨_, rfl, by
      rw [← Option.some.inj e]
      exact h⟩
  | _, _, .cons h r, i + 1, v, e => DpAll.put r e
theorem DpAll.len {K : PySem.W.Frag} {H : Hp} : ∀ {vs : List V} {ds : List PyData}, DpAll K H vs ds → vs.length = ds.length
  | _, _, .nil => rfl
  | _, _, .cons _ r => congrArg (· + 1) (DpAll.len r)
theorem DpAll.app {K : PySem.W.Frag} {H : Hp} : ∀ {vs : List V} {ds : List PyData}, DpAll K H vs ds → ∀ {ws es}, DpAll K H ws es → DpAll K H (vs ++ ws) (ds ++ es)
  | _, _, .nil, _, _, r => r
  | _, _, .cons h r, _, _, r2 => .cons h (DpAll.app r r2)
theorem DpAll.drop {K : PySem.W.Frag} {H : Hp} : ∀ (n : Nat) {vs : List V} {ds : List PyData}, DpAll K H vs ds → DpAll K H (vs.drop n) (ds.drop n)
  | 0, _, _, r => r
  | n + 1, _, _, .nil => .nil
  | n + 1, _, _, .cons _ r => DpAll.drop n r
theorem ty_tup {K : PySem.W.Frag} {H : Hp} {a : Addr} {xs : List V} (h : SqT K H a xs) : TyX K H (.ref a) (.type "tuple") := by
  rcases h with (h | ⟨o, h⟩) | ⟨o, its, n, h, c, _⟩
  · exact .base (.tup h)
  · exact .fTuple h
  · exact .kTuple h c
theorem eqv_tnil (d : PyData) (ds : List PyData) : PyData.eqv (.tuple (d :: ds)) (.tuple []) = false := rfl
end FS

set_option Elab.async false
set_option linter.all false
set_option maxRecDepth 100000
set_option maxHeartbeats 4000000
namespace FS
open PySem PySem.Spec PyProof.Rows L2
/-! ### terms and wraps -/
inductive Hd
  | deed (w : Str) (t : List (Option Nat))
  | seq
  | alt
  | run (x : Str)
  | call (n : Str)
  | wrp
  | own (x : Str)
  | wth (n : Str)
inductive Tm
  | mk (h : Hd) (ks : List Tm)
def Tm.hd : Tm → Hd
  | .mk h _ => h
def Tm.kids : Tm → List Tm
  | .mk _ ks => ks
def entryD : Option Nat → PyData
  | none => .none
  | some n => .int n
def Hd.tag : Hd → Str
  | .deed _ _ => "do"
  | .seq => "seq"
  | .alt => "or"
  | .run _ => "run"
  | .call _ => "call"
  | .wrp => "wrap"
  | .own _ => "own"
  | .wth _ => "with"
def Hd.rest : Hd → List PyData
  | .deed w t => [.str w, .tuple (t.map entryD)]
  | .run x => [.str x]
  | .call n => [.str n]
  | .own x => [.str x]
  | .wth n => [.str n]
  | _ => []
mutual
def Tm.data : Tm → PyData
  | .mk h ks => .tuple (.str h.tag :: (h.rest ++ datas ks))
def datas : List Tm → List PyData
  | [] => []
  | t :: r => t.data :: datas r
end
theorem datas_map : ∀ ks : List Tm, datas ks = ks.map Tm.data
  | [] => rfl
  | t :: r => by
    show t.data :: datas r = t.data :: r.map Tm.data
    rw [datas_map r]
theorem datas_app (a b : List Tm) : datas (a ++ b) = datas a ++ datas b := by
  rw [datas_map, datas_map, datas_map, List.map_append]
theorem datas_len (ks : List Tm) : (datas ks).length = ks.length := by
  rw [datas_map, List.length_map]
mutual
/-- a term and all that are in it, in the order in which they begin -/
def Tm.all : Tm → List Tm
  | .mk h ks => .mk h ks :: alls ks
def alls : List Tm → List Tm
  | [] => []
  | t :: r => t.all ++ alls r
end
theorem all_eq (t : Tm) : t.all = t :: alls t.kids := by
  cases t
  rfl
def Tm.count (t : Tm) : Nat := t.all.length
def counts (ks : List Tm) : Nat := (alls ks).length
theorem count_eq (t : Tm) : t.count = 1 + counts t.kids := by
  unfold Tm.count
  rw [all_eq]
  show counts t.kids + 1 = _
  omega
theorem counts_cons (t : Tm) (r : List Tm) : counts (t :: r) = t.count + counts r := by
  show (t.all ++ alls r).length = _
  rw [List.length_append]
  rfl
theorem counts_app (a b : List Tm) : counts (a ++ b) = counts a + counts b := by
  induction a with
  | nil => simp [counts, alls]
  | cons t r ih =>
    rw [List.cons_append, counts_cons, counts_cons, ih]
    omega
mutual
def Tm.deep : Tm → Nat
  | .mk _ ks => deeps ks + 1
def deeps : List Tm → Nat
  | [] => 0
  | t :: r => max t.deep (deeps r)
end
theorem deeps_mem : ∀ {ks : List Tm} {t : Tm}, t ∈ ks → t.deep ≤ deeps ks
  | u :: r, t, h => by
    show t.deep ≤ max u.deep (deeps r)
    rcases List.mem_cons.mp h with rfl | h
    · omega
    · have := deeps_mem h
      omega
theorem deep_kid {t u : Tm} (h : u ∈ t.kids) : u.deep < t.deep := by
  cases t with
  | mk hd ks =>
    have := deeps_mem (show u ∈ ks from h)
    show u.deep < deeps ks + 1
    omega
def Hd.isW : Hd → Bool
  | .own _ => true
  | .wth _ => true
  | _ => false
def Tm.isW (t : Tm) : Bool := t.hd.isW
def kd (b : Bool) : Str := if b then "wrap" else "block"
/-- a name -/
def sgn (c : Nat) : Bool := !decide (([c] : List Nat) < ("a" : Str).cps.toList) && !decide (("z" : Str).cps.toList < [c])
def wordB (z : Str) : Bool := decide (1 ≤ (z.length : Int) ∧ (z.length : Int) ≤ 8) && z.cps.toList.all sgn
/-- what can stand at the head of a term, with some parameters -/
def Hd.ok (own : List (Str × Bool)) : Hd → Nat → Bool
  | .deed w t, n => wordB w && decide (1 ≤ t.length ∧ t.length ≤ 3) && t.all (fun e => match e with | none => true | some n => decide (n < 3)) && decide (n = 0)
  | .seq, _ => true
  | .alt, n => decide (0 < n)
  | .run x, n => decide ((x, false) ∈ own) && decide (n = 0)
  | .call m, _ => wordB m
  | .wrp, n => decide (n = 2)
  | .own x, n => decide ((x, true) ∈ own) && decide (n = 0)
  | .wth m, _ => wordB m
/-- which kinds the kids may have -/
def Hd.kidsOk : Hd → List Bool → Bool
  | .wrp, ks => decide (ks = [true, false])
  | .call _, _ => true
  | .wth _, _ => true
  | _, ks => ks.all (! ·)
/-- a term (or wrap) that is one by its form -/
inductive Good (own : List (Str × Bool)) : Tm → Prop
  | mk {h : Hd} {ks : List Tm} (ok : h.ok own ks.length = true) (kk : h.kidsOk (ks.map Tm.isW) = true) (kids : ∀ t ∈ ks, Good own t) : Good own (.mk h ks)
/-! ### its data can be looked at -/
theorem sgn_asc {c : Nat} (h : sgn c = true) : c < 128 := by
  unfold sgn at h
  obtain ⟨_, h2⟩ := Bool.and_eq_true_iff.mp h
  have h3 : ¬ (("z" : Str).cps.toList < [c]) := by simpa using h2
  have e : ("z" : Str).cps.toList = [122] := by decide +kernel
  rw [e] at h3
  by_cases l : 122 < c
  · exact absurd (List.Lex.rel l) h3
  · omega
theorem word_ok {z : Str} (h : wordB z = true) : PyData.strOk z = true ∧ z.length ≤ 8 := by
  obtain ⟨h1, h2⟩ := Bool.and_eq_true_iff.mp h
  have h3 := of_decide_eq_true h1
  refine ⟨?_, by omega⟩
  unfold PyData.strOk
  rw [← Array.all_toList]
  refine List.all_eq_true.mpr fun c hc => decide_eq_true ?_
  have := sgn_asc (List.all_eq_true.mp h2 c hc)
  omega
end FS

set_option Elab.async false
set_option linter.all false
set_option maxRecDepth 100000
set_option maxHeartbeats 4000000
namespace FS
open PySem PySem.Spec PyProof.Rows L2
theorem entries_plain : ∀ t : List (Option Nat), noLs (t.map entryD) = true ∧ PyData.canLayAll0 (t.map entryD) = true ∧ PyData.depthAll (t.map entryD) = 0
  | [] => ⟨rfl, rfl, rfl⟩
  | none :: r => entries_plain r
  | some n :: r => by
    obtain ⟨h1, h2, h3⟩ := entries_plain r
    refine ⟨h1, h2, ?_⟩
    show max 0 (PyData.depthAll (r.map entryD)) = 0
    rw [h3]
    rfl
theorem noLs_app : ∀ (a b : List PyData), noLs (a ++ b) = (noLs a && noLs b)
  | [], b => rfl
  | d :: r, b => by
    show (noL d && noLs (r ++ b)) = ((noL d && noLs r) && noLs b)
    rw [noLs_app r b, Bool.and_assoc]
theorem lay_app : ∀ (a b : List PyData), PyData.canLayAll0 (a ++ b) = (PyData.canLayAll0 a && PyData.canLayAll0 b)
  | [], b => rfl
  | d :: r, b => by
    show (PyData.canLay0 d && PyData.canLayAll0 (r ++ b)) = ((PyData.canLay0 d && PyData.canLayAll0 r) && PyData.canLayAll0 b)
    rw [lay_app r b, Bool.and_assoc]
theorem depth_app : ∀ (a b : List PyData), PyData.depthAll (a ++ b) = max (PyData.depthAll a) (PyData.depthAll b)
  | [], b => by
    show _ = max 0 _
    simp
  | d :: r, b => by
    show max (PyData.depth d) (PyData.depthAll (r ++ b)) = max (max (PyData.depth d) (PyData.depthAll r)) (PyData.depthAll b)
    rw [depth_app r b]
    omega
theorem rest_plain (h : Hd) : noLs h.rest = true ∧ PyData.depthAll h.rest ≤ 1 := by
  cases h with
  | deed w t =>
    obtain ⟨h1, _, h3⟩ := entries_plain t
    refine ⟨?_, ?_⟩
    · show (true && ((noLs (t.map entryD)) && true)) = true
      rw [h1]
      rfl
    · show max 0 (max (PyData.depthAll (t.map entryD) + 1) 0) ≤ 1
      rw [h3]
      decide
  | seq => exact ⟨rfl, Nat.zero_le _⟩
  | alt => exact ⟨rfl, Nat.zero_le _⟩
  | run x => exact ⟨rfl, Nat.zero_le _⟩
  | call n => exact ⟨rfl, Nat.zero_le _⟩
  | wrp => exact ⟨rfl, Nat.zero_le _⟩
  | own x => exact ⟨rfl, Nat.zero_le _⟩
  | wth n => exact ⟨rfl, Nat.zero_le _⟩
mutual
theorem Tm.noL : ∀ t : Tm, FS.noL t.data = true
  | .mk h ks => by
    show (true && noLs (h.rest ++ datas ks)) = true
    rw [noLs_app, (rest_plain h).1, noL_datas ks]
    rfl
theorem noL_datas : ∀ ks : List Tm, noLs (datas ks) = true
  | [] => rfl
  | t :: r => by
    show (FS.noL t.data && noLs (datas r)) = true
    rw [Tm.noL t, noL_datas r]
    rfl
end
mutual
theorem Tm.depth : ∀ t : Tm, t.data.depth ≤ t.deep + 1
  | .mk h ks => by
    show max 0 (PyData.depthAll (h.rest ++ datas ks)) + 1 ≤ (deeps ks + 1) + 1
    rw [depth_app]
    have h1 := (rest_plain h).2
    have h2 := depth_datas ks
    omega
theorem depth_datas : ∀ ks : List Tm, PyData.depthAll (datas ks) ≤ deeps ks + 1
  | [] => Nat.zero_le _
  | t :: r => by
    show max t.data.depth (PyData.depthAll (datas r)) ≤ max t.deep (deeps r) + 1
    have h1 := Tm.depth t
    have h2 := depth_datas r
    omega
end
/-- what parameters must be -/
structure ParOk (own : List (Str × Bool)) : Prop where
  few : own.length ≤ 3
  nms : ∀ p ∈ own, wordB p.1 = true
  nd : (own.map (·.1)).Nodup
theorem tag_ok (h : Hd) : PyData.strOk h.tag = true := by
  cases h with
  | deed w t => exact (show PyData.strOk "do" = true by decide +kernel)
  | seq => exact (show PyData.strOk "seq" = true by decide +kernel)
  | alt => exact (show PyData.strOk "or" = true by decide +kernel)
  | run x => exact (show PyData.strOk "run" = true by decide +kernel)
  | call n => exact (show PyData.strOk "call" = true by decide +kernel)
  | wrp => exact (show PyData.strOk "wrap" = true by decide +kernel)
  | own x => exact (show PyData.strOk "own" = true by decide +kernel)
  | wth n => exact (show PyData.strOk "with" = true by decide +kernel)
theorem rest_lay {own : List (Str × Bool)} {h : Hd} {n : Nat} (po : ∀ p ∈ own, wordB p.1 = true) (ok : h.ok own n = true) : PyData.canLayAll0 h.rest = true := by
  cases h with
  | deed w t =>
    have h1 := (Bool.and_eq_true_iff.mp (Bool.and_eq_true_iff.mp (Bool.and_eq_true_iff.mp ok).1).1).1
    show (PyData.strOk w && (PyData.canLayAll0 (t.map entryD) && true)) = true
    rw [(word_ok h1).1, (entries_plain t).2.1]
    rfl
  | run x =>
    have h1 := of_decide_eq_true (Bool.and_eq_true_iff.mp ok).1
    show (PyData.strOk x && true) = true
    rw [(word_ok (po _ h1)).1]
    rfl
  | own x =>
    have h1 := of_decide_eq_true (Bool.and_eq_true_iff.mp ok).1
    show (PyData.strOk x && true) = true
    rw [(word_ok (po _ h1)).1]
    rfl
  | call n =>
    show (PyData.strOk n && true) = true
    rw [(word_ok (show wordB n = true from ok)).1]
    rfl
  | wth n =>
    show (PyData.strOk n && true) = true
    rw [(word_ok (show wordB n = true from ok)).1]
    rfl
  | seq => rfl
  | alt => rfl
  | wrp => rfl
theorem lay_all : ∀ ds : List PyData, (∀ d ∈ ds, d.canLay0 = true) → PyData.canLayAll0 ds = true
  | [], _ => rfl
  | d :: r, h => by
    show (PyData.canLay0 d && PyData.canLayAll0 r) = true
    rw [h d List.mem_cons_self, lay_all r fun x hx => h x (List.mem_cons_of_mem _ hx)]
    rfl
theorem Good.lay {own : List (Str × Bool)} (po : ∀ p ∈ own, wordB p.1 = true) {t : Tm} (g : Good own t) : t.data.canLay0 = true := by
  induction g with
  | @mk h ks ok kk kids ih =>
    show (PyData.strOk h.tag && PyData.canLayAll0 (h.rest ++ datas ks)) = true
    rw [tag_ok, lay_app, rest_lay po ok, datas_map]
    rw [lay_all (ks.map Tm.data) fun d hd => by
      obtain ⟨t, ht, rfl⟩ := List.mem_map.mp hd
      exact ih t ht]
    rfl
theorem Good.shaped {own : List (Str × Bool)} (po : ∀ p ∈ own, wordB p.1 = true) {t : Tm} (g : Good own t) (hd : t.deep ≤ 60) : SeqAt.shaped t.data = true := by
  unfold SeqAt.shaped
  rw [g.lay po, decide_eq_true (by have := t.depth; omega)]
  rfl
theorem Good.kid {own : List (Str × Bool)} {t u : Tm} (g : Good own t) (h : u ∈ t.kids) : Good own u := by
  cases g with
  | mk ok kk kids => exact kids u h
/-- the parameters as data -/
def parD (p : Str × Bool) : PyData := .tuple [.str p.1, .str (kd p.2)]
def parsD (own : List (Str × Bool)) : PyData := .tuple (own.map parD)
theorem kd_inj {a b : Bool} (h : kd a = kd b) : a = b := by
  cases a <;> cases b <;> first | rfl | exact absurd h (by decide +kernel)
theorem eqv_pair (a b c d : Str) : PyData.eqv (.tuple [.str a, .str b]) (.tuple [.str c, .str d]) = (a == c && b == d) := by
  simp [PyData.eqv, PyData.eqvAll]
theorem any_par (own : List (Str × Bool)) (x : Str) (k : Bool) : ((own.map parD).any fun z => PyData.eqv z (parD (x, k))) = decide ((x, k) ∈ own) := by
  induction own with
  | nil => rfl
  | cons p r ih =>
    rw [List.map_cons, List.any_cons, ih]
    have e : PyData.eqv (parD p) (parD (x, k)) = decide (p = (x, k)) := by
      show PyData.eqv (.tuple [.str p.1, .str (kd p.2)]) (.tuple [.str x, .str (kd k)]) = _
      rw [eqv_pair]
      obtain ⟨y, j⟩ := p
      by_cases e : (y, j) = (x, k)
      · cases e
        simp
      · rw [decide_eq_false e]
        refine Bool.eq_false_iff.mpr fun z => e ?_
        obtain ⟨h1, h2⟩ := Bool.and_eq_true_iff.mp z
        rw [show y = x from beq_iff_eq.mp h1, show j = k from kd_inj (beq_iff_eq.mp h2)]
    rw [e]
    by_cases e1 : p = (x, k)
    · simp [e1]
    · have e2 : ¬ (x, k) = p := fun z => e1 z.symm
      simp [e1, e2]
theorem pars_shaped {own : List (Str × Bool)} (po : ParOk own) : SeqAt.shaped (parsD own) = true := by
  have h1 : PyData.canLayAll0 (own.map parD) = true := lay_all _ fun d hd => by
    obtain ⟨p, hp, rfl⟩ := List.mem_map.mp hd
    show (PyData.strOk p.1 && (PyData.strOk (kd p.2) && true)) = true
    rw [(word_ok (po.nms p hp)).1]
    cases p.2 <;> decide +kernel
  have h2 : ∀ l : List (Str × Bool), PyData.depthAll (l.map parD) ≤ 1 := fun l => by
    induction l with
    | nil => exact Nat.zero_le _
    | cons p r ih =>
      show max (max 0 (max 0 0) + 1) (PyData.depthAll (r.map parD)) ≤ 1
      omega
  unfold SeqAt.shaped
  rw [show PyData.canLay0 (parsD own) = true from h1, decide_eq_true (show PyData.depth (parsD own) ≤ 64 by
    show PyData.depthAll (own.map parD) + 1 ≤ 64
    have := h2 own
    omega)]
  rfl
theorem par_shaped {x : Str} (k : Bool) (h : PyData.strOk x = true) : SeqAt.shaped (parD (x, k)) = true := by
  have h1 : PyData.canLay0 (parD (x, k)) = true := by
    show (PyData.strOk x && (PyData.strOk (kd k) && true)) = true
    rw [h]
    cases k <;> decide +kernel
  unfold SeqAt.shaped
  rw [h1]
  rfl
theorem pars_noL (own : List (Str × Bool)) : noL (parsD own) = true := by
  show noLs (own.map parD) = true
  induction own with
  | nil => rfl
  | cons p r ih => exact ih
end FS

set_option Elab.async false
set_option linter.all false
set_option maxRecDepth 100000
set_option maxHeartbeats 4000000
namespace FS
open PySem PySem.Spec PyProof.Rows L2
structure Cal (P : Program) (w : World) (K : PySem.W.Frag) (mg : Str → Option Value) (base : Heap) (k : Nat) (x : Str) (ps : List Str) (sp : Sp) : Prop where
  ex : ∃ (f : Addr) (fd : FuncData), FnOk P w K mg base CX0 k f fd ps sp ∧ mg x = some (.ref f) ∧ PySem.W.keepIn K (.ref f) = true ∧ Binds K fd ps []
theorem pe_own {X : Cx} {x : Str} {k : Nat} {ps : List Str} {sp : Sp} {e : Expr} {es : List Expr} {t : TA} {p pos : Pos} (C : Cal X.prog X.w X.K X.mg X.base k x ps sp) (hr : Room k X.A) (hg : Gl X x) (ha : PA X (e :: es) t) (hdb : (x == ("__debug__" : Str)) = false := by decide)
    (he : starEach (e :: es) X.env = (false, eval e X.env) :: starEach es X.env := by rfl) (hpl : (backTo pos (starEach es X.env)).any (·.1) = false := by rfl) : PE X (.Call (.Name x p) (e :: es) [] pos) (tCall sp [] E0 t) := by
  obtain ⟨f, fd, F, m, kp, b⟩ := C.ex
  exact pe_call F hr hg m kp b .nil pass0 ha hdb he hpl
/-- a constant tuple of the module -/
def TupC (K : PySem.W.Frag) (mg : Str → Option Value) (x : Str) (ys : List Str) : Prop := ∃ a, mg x = some (.ref a) ∧ ∀ H, SqT K H a (ys.map V.str)
/-- what the module's names are -/
structure Nm (K : PySem.W.Frag) (mg : Str → Option Value) : Prop where
  b_isinstance : mg "isinstance" = none
  b_str : mg "str" = none
  b_tuple : mg "tuple" = none
  b_list : mg "list" = none
  b_bool : mg "bool" = none
  b_len : mg "len" = none
  b_all : mg "all" = none
  b_int : mg "int" = none
  b_abs : mg "abs" = none
  b_max : mg "max" = none
  b_min : mg "min" = none
  b_range : mg "range" = none
  b_zip : mg "zip" = none
  b_sorted : mg "sorted" = none
  b_set : mg "set" = none
  g_MAX_LETTERS : ∃ t, mg "MAX_LETTERS" = some (.int 8 t)
  g_MAX_MODES : ∃ t, mg "MAX_MODES" = some (.int 3 t)
  g_MAX_PARAMETERS : ∃ t, mg "MAX_PARAMETERS" = some (.int 3 t)
  g_MAX_DEPTH : ∃ t, mg "MAX_DEPTH" = some (.int 6 t)
  g_MAX_TERMS : ∃ t, mg "MAX_TERMS" = some (.int 40 t)
  g_KINDS : TupC K mg "KINDS" ["block", "wrap"]
  g_TERM_TAGS : TupC K mg "TERM_TAGS" ["do", "seq", "or", "run", "call", "wrap"]
  g_WRAP_TAGS : TupC K mg "WRAP_TAGS" ["own", "with"]
theorem Stay.refl (H : Hp) : Stay H H := fun _ _ _ h => h
/-- v is the term t -/
structure TmAt (K : PySem.W.Frag) (H : Hp) (own : List (Str × Bool)) (v : V) (t : Tm) : Prop where
  dp : Dp K H v t.data
  good : Good own t
  po : ParOk own
  low : t.deep ≤ 60
theorem TmAt.stay {K : PySem.W.Frag} {H H' : Hp} {own : List (Str × Bool)} {v : V} {t : Tm} (a : TmAt K H own v t) (e : Stay H H') : TmAt K H' own v t := ⟨Dp.stay e t.noL a.dp, a.good, a.po, a.low⟩
theorem TmAt.same {K : PySem.W.Frag} {H H' : Hp} {own : List (Str × Bool)} {v : V} {t : Tm} (a : TmAt K H own v t) (e : Same H H') : TmAt K H' own v t := a.stay (.of e)
theorem DpAll.split {K : PySem.W.Frag} {H : Hp} : ∀ {ds es : List PyData} {vs : List V}, DpAll K H vs (ds ++ es) → ∃ us ws, vs = us ++ ws ∧ DpAll K H us ds ∧ DpAll K H ws es
  | [], es, vs, r => ⟨[], vs, rfl, .nil, r⟩
  | d :: ds, es, _, .cons h r => by
    obtain ⟨us, ws, rfl, h1, h2⟩ := DpAll.split r
    exact ⟨_ :: us, ws, rfl, .cons h h1, h2⟩
theorem Dp.tup_inv {K : PySem.W.Frag} {H : Hp} {v : V} {ds : List PyData} (h : Dp K H v (.tuple ds)) : ∃ a xs, v = .ref a ∧ SqT K H a xs ∧ DpAll K H xs ds := by
  cases h with
  | tup s r => exact ⟨_, _, rfl, s, r⟩
theorem Dp.str_inv {K : PySem.W.Frag} {H : Hp} {v : V} {x : Str} (h : Dp K H v (.str x)) : v = .str x := by
  cases h
  rfl
theorem tm_open {K : PySem.W.Frag} {H : Hp} {v : V} {h : Hd} {ks : List Tm} (d : Dp K H v (Tm.mk h ks).data) : ∃ a rs kv, v = .ref a ∧ SqT K H a (V.str h.tag :: (rs ++ kv)) ∧ DpAll K H rs h.rest ∧ DpAll K H kv (datas ks) := by
  obtain ⟨a, xs, rfl, s, r⟩ := Dp.tup_inv (show Dp K H v (.tuple (.str h.tag :: (h.rest ++ datas ks))) from d)
  cases r with
  | cons h1 r =>
    cases Dp.str_inv h1
    obtain ⟨rs, kv, rfl, r1, r2⟩ := DpAll.split r
    exact ⟨a, rs, kv, rfl, s, r1, r2⟩
theorem inV_strs (x : Str) (ys : List Str) : inV (.str x) (ys.map V.str) = decide (x ∈ ys) := by
  unfold inV
  rw [List.any_map]
  induction ys with
  | nil => rfl
  | cons y r ih =>
    rw [List.any_cons, ih]
    have e : ((fun y => eqV y (V.str x)) ∘ V.str) y = decide (y = x) := by
      show eqV (V.str y) (V.str x) = _
      unfold eqV
      by_cases h : y = x <;> simp [h]
    rw [e]
    by_cases h : y = x
    · simp [h]
    · have h2 : ¬ x = y := fun z => h z.symm
      simp [h, h2]
theorem flat_strs (ys : List Str) : (ys.map V.str).all flatV = true := by
  rw [List.all_map]
  exact List.all_eq_true.mpr fun _ _ => rfl
theorem cut_from (xs : List V) (k : Nat) : cutV xs (some (k : Int)) none = xs.drop k := by
  unfold cutV
  rw [HT.sIx_nat, HT.sIx_none]
  by_cases h : k ≤ xs.length
  · rw [Nat.min_eq_left h]
    exact List.take_of_length_le (by rw [List.length_drop]; exact Nat.le_refl _)
  · have h2 : xs.length ≤ k := by omega
    rw [Nat.min_eq_right h2, List.drop_eq_nil_of_le (Nat.le_refl _), List.drop_eq_nil_of_le h2]
    simp
def Hd.leaf : Hd → Bool
  | .deed _ _ => true
  | .run _ => true
  | .own _ => true
  | _ => false
theorem Good.leaf {own : List (Str × Bool)} {h : Hd} {ks : List Tm} (g : Good own (.mk h ks)) (l : h.leaf = true) : ks = [] := by
  cases g with
  | mk ok kk kids =>
    refine List.eq_nil_of_length_eq_zero ?_
    cases h with
    | deed w t => exact of_decide_eq_true (Bool.and_eq_true_iff.mp ok).2
    | run x => exact of_decide_eq_true (Bool.and_eq_true_iff.mp ok).2
    | own x => exact of_decide_eq_true (Bool.and_eq_true_iff.mp ok).2
    | _ => cases l
/-! ### promises of the program's functions -/
def spKind (K : PySem.W.Frag) : Sp := fun vs H Q _ => ∃ (own : List (Str × Bool)) (v : V) (t : Tm), vs = [v] ∧ TmAt K H own v t ∧ ∀ H', Same H H' → Q (.str (kd t.isW)) H'
def spParts (K : PySem.W.Frag) : Sp := fun vs H Q _ => ∃ (own : List (Str × Bool)) (v : V) (t : Tm), vs = [v] ∧ Dp K H v t.data ∧ Good own t ∧ ∀ H' p kv, Same H H' → SqT K H' p kv → DpAll K H' kv (datas t.kids) → Q (.ref p) H'
def Hd.allow : Hd → Nat → List (List Bool)
  | .wrp, _ => [[true], [false]]
  | .call _, n => List.replicate n [false, true]
  | .wth _, n => List.replicate n [false, true]
  | _, n => List.replicate n [false]
def kindsD (bs : List Bool) : PyData := .tuple (bs.map fun b => .str (kd b))
def spKinds (K : PySem.W.Frag) : Sp := fun vs H Q _ => ∃ (own : List (Str × Bool)) (v : V) (t : Tm), vs = [v] ∧ Dp K H v t.data ∧ Good own t ∧ t.kids.length ≤ 100 ∧ ∀ H' p kv, Same H H' → SqT K H' p kv → DpAll K H' kv ((t.hd.allow t.kids.length).map kindsD) → Q (.ref p) H'
def spAll (K : PySem.W.Frag) (n : Nat) : Sp := fun vs H Q _ => ∃ (own : List (Str × Bool)) (v : V) (t : Tm), vs = [v] ∧ Dp K H v t.data ∧ Good own t ∧ t.deep ≤ n ∧ t.count ≤ 50000 ∧ ∀ H' p xs, Same H H' → H p = none → H' p = some (.lst xs) → DpAll K H' xs (datas t.all) → Q (.ref p) H'
def spInt : Sp := fun vs H Q _ => ∃ v, vs = [v] ∧ ((∃ i, v = .int i ∧ Q (.bl true) H) ∨ (v = .non ∧ Q (.bl false) H))
def spIntIn : Sp := fun vs H Q _ => ∃ i a b : Int, vs = [.int i, .int a, .int b] ∧ Q (.bl (decide (a ≤ i) && decide (i ≤ b))) H
def tableB (t : List (Option Nat)) : Bool := decide (1 ≤ t.length ∧ t.length ≤ 3) && t.all (fun e => match e with | none => true | some n => decide (n < 3))
def spTable (K : PySem.W.Frag) : Sp := fun vs H Q _ => ∃ (v : V) (t : List (Option Nat)), vs = [v] ∧ Dp K H v (.tuple (t.map entryD)) ∧ t.length ≤ 100 ∧ ∀ H', Same H H' → Q (.bl (tableB t)) H'
def spName : Sp := fun vs H Q _ => ∃ z : Str, vs = [.str z] ∧ z.length ≤ 1000 ∧ ∀ H', Same H H' → Q (.bl (wordB z)) H'
def spForm (K : PySem.W.Frag) : Sp := fun vs H Q _ => ∃ (own : List (Str × Bool)) (v w : V) (t : Tm), vs = [v, w] ∧ TmAt K H own v t ∧ Dp K H w (parsD own) ∧ ∀ H', Same H H' → Q (.bl true) H'
def spPar (K : PySem.W.Frag) : Sp := fun vs H Q _ => ∃ (v : V) (p : Str × Bool), vs = [v] ∧ Dp K H v (parD p) ∧ wordB p.1 = true ∧ ∀ H', Same H H' → Q (.bl true) H'
def spPars (K : PySem.W.Frag) : Sp := fun vs H Q _ => ∃ (v : V) (own : List (Str × Bool)), vs = [v] ∧ Dp K H v (parsD own) ∧ ParOk own ∧ ∀ H', Same H H' → Q (.bl true) H'
def spTerm (K : PySem.W.Frag) : Sp := fun vs H Q _ => ∃ (own : List (Str × Bool)) (v w : V) (t : Tm), vs = [v, w] ∧ TmAt K H own v t ∧ Dp K H w (parsD own) ∧ t.isW = false ∧ t.count ≤ 40 ∧ t.deep ≤ 6 ∧ ∀ H', Same H H' → Q (.bl true) H'
end FS

set_option Elab.async false
set_option linter.all false
set_option maxRecDepth 100000
set_option maxHeartbeats 4000000
namespace FS
open PySem PySem.Spec PyProof.Rows L2
def Hd.is3 : Hd → Bool
  | .seq => true
  | .alt => true
  | .wrp => true
  | _ => false
def Hd.is2 : Hd → Bool
  | .call _ => true
  | .wth _ => true
  | _ => false
theorem tag3 : ∀ h : Hd, decide (h.tag ∈ [("seq" : Str), "or", "wrap"]) = h.is3
  | .deed _ _ => (show decide (("do" : Str) ∈ [("seq" : Str), "or", "wrap"]) = false by decide +kernel)
  | .seq => (show decide (("seq" : Str) ∈ [("seq" : Str), "or", "wrap"]) = true by decide +kernel)
  | .alt => (show decide (("or" : Str) ∈ [("seq" : Str), "or", "wrap"]) = true by decide +kernel)
  | .run _ => (show decide (("run" : Str) ∈ [("seq" : Str), "or", "wrap"]) = false by decide +kernel)
  | .call _ => (show decide (("call" : Str) ∈ [("seq" : Str), "or", "wrap"]) = false by decide +kernel)
  | .wrp => (show decide (("wrap" : Str) ∈ [("seq" : Str), "or", "wrap"]) = true by decide +kernel)
  | .own _ => (show decide (("own" : Str) ∈ [("seq" : Str), "or", "wrap"]) = false by decide +kernel)
  | .wth _ => (show decide (("with" : Str) ∈ [("seq" : Str), "or", "wrap"]) = false by decide +kernel)
theorem tag2 : ∀ h : Hd, decide (h.tag ∈ [("call" : Str), "with"]) = h.is2
  | .deed _ _ => (show decide (("do" : Str) ∈ [("call" : Str), "with"]) = false by decide +kernel)
  | .seq => (show decide (("seq" : Str) ∈ [("call" : Str), "with"]) = false by decide +kernel)
  | .alt => (show decide (("or" : Str) ∈ [("call" : Str), "with"]) = false by decide +kernel)
  | .run _ => (show decide (("run" : Str) ∈ [("call" : Str), "with"]) = false by decide +kernel)
  | .call _ => (show decide (("call" : Str) ∈ [("call" : Str), "with"]) = true by decide +kernel)
  | .wrp => (show decide (("wrap" : Str) ∈ [("call" : Str), "with"]) = false by decide +kernel)
  | .own _ => (show decide (("own" : Str) ∈ [("call" : Str), "with"]) = false by decide +kernel)
  | .wth _ => (show decide (("with" : Str) ∈ [("call" : Str), "with"]) = true by decide +kernel)
/-- which head a tag is of, as a number -/
def Hd.num : Hd → Nat
  | .deed _ _ => 0
  | .seq => 1
  | .alt => 2
  | .run _ => 3
  | .call _ => 4
  | .wrp => 5
  | .own _ => 6
  | .wth _ => 7
def tags : List Str := ["do", "seq", "or", "run", "call", "wrap", "own", "with"]
theorem tag_num : ∀ h : Hd, h.tag = tags.getD h.num ""
  | .deed _ _ => rfl
  | .seq => rfl
  | .alt => rfl
  | .run _ => rfl
  | .call _ => rfl
  | .wrp => rfl
  | .own _ => rfl
  | .wth _ => rfl
theorem num_lt (h : Hd) : h.num < 8 := by
  cases h <;> (show (_ : Nat) < 8) <;> first | exact (show 0 < 8 by decide) | exact (show 1 < 8 by decide) | exact (show 2 < 8 by decide) | exact (show 3 < 8 by decide) | exact (show 4 < 8 by decide) | exact (show 5 < 8 by decide) | exact (show 6 < 8 by decide) | exact (show 7 < 8 by decide)
theorem tags_inj : ∀ i, i < 8 → ∀ j, j < 8 → ((tags.getD i "" == tags.getD j "") = decide (i = j)) := by decide +kernel
/-- h.tag == a tag -/
theorem tag_eq (h : Hd) {x : Str} {j : Nat} (hx : tags.getD j "" = x := by rfl) (hj : j < 8 := by decide) : (h.tag == x) = decide (h.num = j) := by
  rw [tag_num h, ← hx]
  exact tags_inj _ (num_lt h) _ hj
theorem tag_dec (h : Hd) {x : Str} {j : Nat} (hx : tags.getD j "" = x := by rfl) (hj : j < 8 := by decide) : decide (V.str h.tag = V.str x) = decide (h.num = j) := by
  rw [← tag_eq h hx hj]
  by_cases e : h.tag = x <;> simp [e]
theorem rep_flat {α : Type} (k : Nat) (x : α) : (List.replicate k [x]).flatten = List.replicate k x := by
  induction k with
  | zero => rfl
  | succ k ih =>
    rw [List.replicate_succ, List.flatten_cons, ih]
    rfl
theorem DpAll.rep {K : PySem.W.Frag} {H : Hp} {v : V} {d : PyData} (h : Dp K H v d) : ∀ k, DpAll K H (List.replicate k v) (List.replicate k d)
  | 0 => .nil
  | k + 1 => .cons h (DpAll.rep h k)
theorem Hd.rest0 {K : PySem.W.Frag} {H : Hp} {h : Hd} {rs : List V} (r : DpAll K H rs h.rest) (e : h.is3 = true) : rs = [] := by
  cases h with
  | seq => cases r; rfl
  | alt => cases r; rfl
  | wrp => cases r; rfl
  | _ => cases e
theorem Hd.rest1 {K : PySem.W.Frag} {H : Hp} {h : Hd} {rs : List V} (r : DpAll K H rs h.rest) (e : h.is2 = true) : ∃ x, rs = [.str x] := by
  cases h with
  | call n => cases r with | cons h1 r => cases r; cases Dp.str_inv h1; exact ⟨_, rfl⟩
  | wth n => cases r with | cons h1 r => cases r; cases Dp.str_inv h1; exact ⟨_, rfl⟩
  | _ => cases e
theorem Good.kids0 {own : List (Str × Bool)} {h : Hd} {ks : List Tm} (g : Good own (.mk h ks)) (e3 : h.is3 ≠ true) (e2 : h.is2 ≠ true) : ks = [] := by
  cases h with
  | deed w t => exact g.leaf rfl
  | run x => exact g.leaf rfl
  | own x => exact g.leaf rfl
  | seq => exact absurd rfl e3
  | alt => exact absurd rfl e3
  | wrp => exact absurd rfl e3
  | call n => exact absurd rfl e2
  | wth n => exact absurd rfl e2
theorem at0 {x : V} {l : List V} : atI (x :: l) 0 = some x := atI_nat (j := 0) rfl
theorem at1 {x y : V} {l : List V} : atI (x :: y :: l) 1 = some y := atI_nat (j := 1) rfl
theorem at2 {x y z : V} {l : List V} : atI (x :: y :: z :: l) 2 = some z := atI_nat (j := 2) rfl
/-- part[k:] -/
theorem cut_tup {K : PySem.W.Frag} {H : Hp} {a : Addr} {xs : List V} {k : Nat} {Q : V → Hp → Prop} (sq : SqT K H a xs) (hk : 0 < k) (hne : xs ≠ []) (q : ∀ H' p, Same H H' → SqT K H' p (xs.drop k) → Q (.ref p) H') :
    rSlA K (.ref a) (some (k : Int)) none H Q := by
  have h0 : HT.sIx xs.length 0 (some (k : Int)) ≠ 0 := by
    rw [HT.sIx_nat]
    have : 0 < xs.length := List.length_pos_iff.mpr hne
    omega
  refine ⟨a, xs, rfl, sq, fun z => absurd z.1 h0, fun _ p np => q _ p (same_upd np) (.inl (.inl ?_))⟩
  rw [upd_same, cut_from]
end FS

set_option Elab.async false
set_option linter.all false
set_option maxRecDepth 100000
set_option maxHeartbeats 4000000
namespace FS
open PySem PySem.Spec PyProof.Rows L2
theorem getE {α : Type} {l : Array α} {i : Nat} {c : α} (h : l[i]? = some c) : l.toList[i]? = some c := by
  rw [Array.getElem?_toList]
  exact h
theorem take_one {α β : Type} {l : List α} {i : Nat} {c : α} (f : α → β) (h : l[i]? = some c) : ((l.take (i + 1)).map f) = (l.take i).map f ++ [f c] := by
  rw [List.take_add_one, h, List.map_append]
  rfl
theorem all_map (l : List Nat) : (l.map sgn).all id = l.all sgn := by
  rw [List.all_map]
  rfl
theorem small1000 {n : Nat} (h : n < 1000) : n < sizeLine := Nat.lt_trans h (by decide)
theorem small16 {n : Nat} (h : n < 16000) : n < sizeLine := Nat.lt_trans h (by decide)
theorem u65 {k : Nat} {A : Around} (r : L2.Room k A) : A.units + 65 < cLine := by
  have := r.un
  omega
theorem Stay.set {H : Hp} {p : Addr} {xs ys : List V} (e : H p = some (.lst xs)) : Stay H (upd H p (.lst ys)) := fun b o n h => by
  rw [upd_ne (fun z => n xs (by
    subst z
    rw [h] at e
    exact Option.some.inj e))]
  exact h
/-- what is new may change -/
theorem Same.set {H H1 : Hp} {p : Addr} {o : HO} (s : Same H H1) (n : H p = none) : Same H (upd H1 p o) := fun b x e => by
  rw [upd_ne (ne_of_none e n)]
  exact s b x e
theorem ix_tupK {X : Cx} {K : PySem.W.Frag} (h : X.K = K) : IxR X (rIxT K) := by
  subst h
  exact ix_tup
theorem addS_new {xs : List Str} {z : Str} (h : z ∉ xs) : addS xs z = xs ++ [z] := if_neg h
theorem take_new {α : Type} {l : List α} {i : Nat} {x : α} (f : α → Str) (nd : (l.map f).Nodup) (h : l[i]? = some x) : f x ∉ (l.take i).map f := fun m => by
  have h2 : (l.map f)[i]? = some (f x) := by rw [List.getElem?_map, h]; rfl
  have e : l.map f = (l.take i).map f ++ (f x :: (l.drop (i + 1)).map f) := by
    have h3 : l = l.take i ++ (x :: l.drop (i + 1)) := by
      have lt := (List.getElem?_eq_some_iff.mp h).1
      have e4 := (List.getElem?_eq_some_iff.mp h).2
      rw [← e4, List.getElem_cons_drop, List.take_append_drop]
    conv => lhs; rw [h3]
    rw [List.map_append, List.map_cons]
  rw [e] at nd
  exact (List.nodup_append.mp nd).2.2 _ m _ List.mem_cons_self rfl
/-- the set of texts, turn by turn -/
theorem set_list {w : World} {K : PySem.W.Frag} {a : Addr} {xs : List V} {g : TG} {tt : TT} {te : TE} {vs : List Nat} {σ : L2.St} {H1 : Hp} {D : Addr} {Qd : Hp → Prop} (Pv : Nat → Hp → Prop) (h0 : Pv 0 (upd H1 D (SO w D []))) (hl : ∀ i H, i ≤ xs.length → Pv i H → SqL K H a xs)
    (hs : ∀ i x H, xs[i]? = some x → Pv i H → g x (wipe σ vs) H fun σ2 H2 => wipe σ2 vs = wipe σ vs ∧ tt σ2 H2 fun b H3 =>
      if b = true then te σ2 H3 fun y H4 => ∃ (z : Str) (zs : List Str), y = .str z ∧ H4 D = some (SO w D zs) ∧ zs.length + 1 < scanBound ∧ Pv (i + 1) (upd H4 D (SO w D (addS zs z))) else Pv (i + 1) H3) (hd : ∀ H, Pv xs.length H → Qd H) :
    ∃ W : Nat → Nat → Hp → Prop, (∃ m, W 0 m (upd H1 D (SO w D []))) ∧ ∀ i m H, W i m H →
      ((Itl K a).stop i H ∧ Qd H) ∨ ((Itl K a).go i H ∧ ∃ Nx : Hp → Prop, (∀ H', Nx H' → ∃ m', m' < m ∧ W (i + 1) m' H') ∧ ∀ x H', (Itl K a).yld i H x H' → g x (wipe σ vs) H' fun σ2 H2 => wipe σ2 vs = wipe σ vs ∧ tt σ2 H2 fun b H3 =>
        if b = true then te σ2 H3 fun y H4 => ∃ (z : Str) (zs : List Str), y = .str z ∧ H4 D = some (SO w D zs) ∧ zs.length + 1 < scanBound ∧ Nx (upd H4 D (SO w D (addS zs z))) else Nx H3) := by
  refine ⟨fun i m H => m = xs.length - i ∧ i ≤ xs.length ∧ Pv i H, ⟨xs.length, by simp, Nat.zero_le _, h0⟩, ?_⟩
  rintro i m H ⟨rfl, hi, p⟩
  have q := hl i H hi p
  by_cases hlt : i < xs.length
  · refine .inr ⟨⟨xs, xs[i], q, by simp [hlt]⟩, Pv (i + 1), fun H' p' => ⟨xs.length - (i + 1), by omega, rfl, hlt, p'⟩, fun x H' y => ?_⟩
    obtain ⟨e, y⟩ := y
    subst e
    exact hs i x _ (y xs q) p
  · have e : i = xs.length := by omega
    subst e
    exact .inl ⟨⟨xs, q, Nat.le_refl _⟩, hd H p⟩
theorem set_tup {w : World} {K : PySem.W.Frag} {a : Addr} {xs : List V} {g : TG} {tt : TT} {te : TE} {vs : List Nat} {σ : L2.St} {H1 : Hp} {D : Addr} {Qd : Hp → Prop} (Pv : Nat → Hp → Prop) (h0 : Pv 0 (upd H1 D (SO w D []))) (hl : ∀ i H, i ≤ xs.length → Pv i H → SqT K H a xs)
    (hs : ∀ i x H, xs[i]? = some x → Pv i H → g x (wipe σ vs) H fun σ2 H2 => wipe σ2 vs = wipe σ vs ∧ tt σ2 H2 fun b H3 =>
      if b = true then te σ2 H3 fun y H4 => ∃ (z : Str) (zs : List Str), y = .str z ∧ H4 D = some (SO w D zs) ∧ zs.length + 1 < scanBound ∧ Pv (i + 1) (upd H4 D (SO w D (addS zs z))) else Pv (i + 1) H3) (hd : ∀ H, Pv xs.length H → Qd H) :
    ∃ W : Nat → Nat → Hp → Prop, (∃ m, W 0 m (upd H1 D (SO w D []))) ∧ ∀ i m H, W i m H →
      ((Itt K a).stop i H ∧ Qd H) ∨ ((Itt K a).go i H ∧ ∃ Nx : Hp → Prop, (∀ H', Nx H' → ∃ m', m' < m ∧ W (i + 1) m' H') ∧ ∀ x H', (Itt K a).yld i H x H' → g x (wipe σ vs) H' fun σ2 H2 => wipe σ2 vs = wipe σ vs ∧ tt σ2 H2 fun b H3 =>
        if b = true then te σ2 H3 fun y H4 => ∃ (z : Str) (zs : List Str), y = .str z ∧ H4 D = some (SO w D zs) ∧ zs.length + 1 < scanBound ∧ Nx (upd H4 D (SO w D (addS zs z))) else Nx H3) := by
  refine ⟨fun i m H => m = xs.length - i ∧ i ≤ xs.length ∧ Pv i H, ⟨xs.length, by simp, Nat.zero_le _, h0⟩, ?_⟩
  rintro i m H ⟨rfl, hi, p⟩
  have q := hl i H hi p
  by_cases hlt : i < xs.length
  · refine .inr ⟨⟨xs, xs[i], q, by simp [hlt]⟩, Pv (i + 1), fun H' p' => ⟨xs.length - (i + 1), by omega, rfl, hlt, p'⟩, fun x H' y => ?_⟩
    obtain ⟨e, y⟩ := y
    subst e
    exact hs i x _ (y xs q) p
  · have e : i = xs.length := by omega
    subst e
    exact .inl ⟨⟨xs, q, Nat.le_refl _⟩, hd H p⟩
end FS

set_option Elab.async false
set_option linter.all false
set_option maxRecDepth 100000
set_option maxHeartbeats 4000000
namespace FS
open PySem PySem.Spec PyProof.Rows L2
theorem alls_app (a b : List Tm) : alls (a ++ b) = alls a ++ alls b := by
  induction a with
  | nil => rfl
  | cons t r ih =>
    show t.all ++ alls (r ++ b) = (t.all ++ alls r) ++ alls b
    rw [ih, List.append_assoc]
theorem alls_one (t : Tm) : alls [t] = t.all := by
  show t.all ++ [] = _
  rw [List.append_nil]
theorem take_more {α : Type} {l : List α} {i : Nat} {x : α} (h : l[i]? = some x) : l.take (i + 1) = l.take i ++ [x] := by
  rw [List.take_add_one, h]
  rfl
theorem counts_take (ks : List Tm) (i : Nat) : counts (ks.take i) ≤ counts ks := by
  have h := counts_app (ks.take i) (ks.drop i)
  rw [List.take_append_drop] at h
  omega
theorem DpAll.kid {K : PySem.W.Frag} {H : Hp} {kv : List V} {ks : List Tm} (r : DpAll K H kv (datas ks)) {i : Nat} {x : V} (h : kv[i]? = some x) : ∃ u, ks[i]? = some u ∧ Dp K H x u.data := by
  obtain ⟨d, hd, dx⟩ := DpAll.get r h
  rw [datas_map, List.getElem?_map] at hd
  obtain ⟨u, hu, rfl⟩ := Option.map_eq_some_iff.mp hd
  exact ⟨u, hu, dx⟩
structure Tr where
  t : Tm
  k : List Bool
  d : Nat
def Tr.data (r : Tr) : PyData := .tuple [r.t.data, kindsD r.k, .int (r.d : Int)]
theorem kinds_noL (k : List Bool) : noL (kindsD k) = true := by
  show noLs (k.map _) = true
  induction k with
  | nil => rfl
  | cons b r ih => exact ih
theorem trs_noL : ∀ rs : List Tr, noLs (rs.map Tr.data) = true
  | [] => rfl
  | r :: s => by
    show ((noL r.t.data && (noL (kindsD r.k) && true)) && noLs (s.map Tr.data)) = true
    rw [Tm.noL, kinds_noL, trs_noL s]
    rfl
structure TrOk (own : List (Str × Bool)) (r : Tr) : Prop where
  good : Good own r.t
  kind : r.t.isW ∈ r.k
  deep : r.d + r.t.deep ≤ 7
theorem kinds_open {K : PySem.W.Frag} {H : Hp} {v : V} {k : List Bool} (h : Dp K H v (kindsD k)) : ∃ a, v = .ref a ∧ SqT K H a ((k.map kd).map V.str) := by
  obtain ⟨a, xs, rfl, sq, r⟩ := Dp.tup_inv h
  refine ⟨a, rfl, ?_⟩
  have e : ∀ (k : List Bool) (xs : List V), DpAll K H xs (k.map fun b => .str (kd b)) → xs = (k.map kd).map V.str := fun k => by
    induction k with
    | nil =>
      intro xs r
      cases r
      rfl
    | cons b l ih =>
      intro xs r
      cases r with
      | cons h1 r =>
        cases Dp.str_inv h1
        rw [ih _ r]
        rfl
  rw [← e k xs r]
  exact sq
theorem allow_len (h : Hd) (n : Nat) (w2 : h = .wrp → n = 2) : (h.allow n).length = n := by
  cases h <;> first | (exact (List.length_replicate)) | (rw [w2 rfl]; rfl)
theorem kid_allow {own : List (Str × Bool)} {h : Hd} {ks : List Tm} (g : Good own (.mk h ks)) {i : Nat} {u : Tm} {al : List Bool} (hu : ks[i]? = some u) (ha : (h.allow ks.length)[i]? = some al) : u.isW ∈ al := by
  cases g with
  | mk ok kk kids =>
    have m := List.mem_of_getElem? hu
    have two : ∀ b : Bool, b ∈ [false, true] := by decide
    have blk : ks.all (fun t => !t.isW) = true → al = [false] → u.isW ∈ al := fun h1 h2 => by
      subst h2
      have := List.all_eq_true.mp h1 u m
      cases e : u.isW with
      | false => exact List.mem_cons_self
      | true => rw [e] at this; cases this
    have rep : ∀ x : List Bool, (List.replicate ks.length x)[i]? = some al → al = x := fun x h => List.eq_of_mem_replicate (List.mem_of_getElem? h)
    have am : ∀ l : List Tm, (l.map Tm.isW).all (! ·) = true → l.all (fun t => !t.isW) = true := fun l h => by
      rw [List.all_map] at h
      exact h
    cases h with
    | deed w t => exact blk (am _ kk) (rep _ ha)
    | seq => exact blk (am _ kk) (rep _ ha)
    | alt => exact blk (am _ kk) (rep _ ha)
    | run x => exact blk (am _ kk) (rep _ ha)
    | call n => rw [rep _ ha]; exact two _
    | wrp =>
      have e : ks.map Tm.isW = [true, false] := of_decide_eq_true kk
      have h2 : (ks.map Tm.isW)[i]? = some u.isW := by rw [List.getElem?_map, hu]; rfl
      rw [e] at h2
      have h3 : ([[true], [false]] : List (List Bool))[i]? = some al := ha
      match i, h2, h3 with
      | 0, h2, h3 => rw [← Option.some.inj h3, ← Option.some.inj h2]; exact List.mem_cons_self
      | 1, h2, h3 => rw [← Option.some.inj h3, ← Option.some.inj h2]; exact List.mem_cons_self
      | n + 2, h2, _ => simp at h2
    | own x => exact blk (am _ kk) (rep _ ha)
    | wth n => rw [rep _ ha]; exact two _
theorem Good.wrp2 {own : List (Str × Bool)} {ks : List Tm} (g : Good own (.mk .wrp ks)) : ks.length = 2 := by
  cases g with
  | mk ok kk kids => exact of_decide_eq_true ok
/-- the kids as what is put on the pile -/
def kidTr (t : Tm) (d : Nat) (i : Nat) : List Tr := (List.range i).map fun j => ⟨t.kids.getD j (.mk .seq []), (t.hd.allow t.kids.length).getD j [], d + 1⟩
theorem count_pos (t : Tm) : 0 < t.count := by
  rw [count_eq]
  omega
theorem len_counts (l : List Tm) : l.length ≤ counts l := by
  induction l with
  | nil => exact Nat.le_refl _
  | cons u l ih =>
    rw [counts_cons]
    have := count_pos u
    simp only [List.length_cons]
    omega
theorem trs_counts (l : List Tr) : l.length ≤ counts (l.map Tr.t) := by
  have h := len_counts (l.map Tr.t)
  rw [List.length_map] at h
  exact h
end FS

set_option Elab.async false
set_option linter.all false
set_option maxRecDepth 100000
set_option maxHeartbeats 4000000
/-! own classes: ==, !=, len, str by their own defs -/
namespace FS
open PySem PySem.Spec PyProof.Rows L2
section
variable {X : Cx} {pins : List (Addr × Obj)} {σ : L2.St} {H : Hp} {s : Shared} {n : Nat} {A : Around} {CX : CXT} {C f : Addr} {fd : FuncData} {ps : List Str} {sp : Sp} {E : XK}
theorem looks_ty {x : V} {u t : Value} (I : Inv X pins σ H s) (rx : RelV x u) (ty : TyX X.K H x t) : PySem.W.Looks (model X.prog X.w) s.heap (typeOf u) t := by
  obtain ⟨P, k, p, _⟩ := kit_of I rx ty
  exact k.ty _ _ I.kIn p
theorem run_at {vs : List V} {us : List Value} {Q : VK} (sb : Sub X n A) (I : Inv X pins σ H s) (F : FnOk X.prog X.w X.K X.mg X.base CX n f fd ps sp) (hb : Binds X.K fd ps []) (hx : Passes CX X E) (r : Vals vs us) (h : sp vs H Q E) :
    wpAny (model X.prog X.w) A (call (.ref f) us) (fun u s' => ∃ v H', Inv X pins σ H' s' ∧ RelV v u ∧ Q v H') X.xe s := by
  have e0 : Env0 X.prog X.w X.K X.mg X.base A X.stack s H := by
    have e := I.env0
    exact ⟨by rw [sb.fr]; exact e.frames, e.mod, e.bs, e.bsz, e.funs, e.frf, e.hok, e.bare⟩
  have hl := F.len _ _ _ _ h
  refine wpAny_call (codeAny_mono (F.run A X.stack s H ⟨us, []⟩ us vs Q E sb.room e0 (by
    have := hb s us I.kIn (by rw [List.append_nil, ← r.length]; exact hl)
    simpa using this) r h) fun r s' hq => ?_)
  cases r with
  | error e => exact hx pins σ H s e s' I hq
  | ok fl =>
    cases fl with
    | ret w =>
      obtain ⟨z, H', I', rz, q⟩ := I.after hq
      exact ⟨z, H', I', rz, q⟩
    | next => exact False.elim hq
    | brk => exact False.elim hq
    | cont => exact False.elim hq
/-- x == y by the text's own == -/
def rEqO (K : PySem.W.Frag) (C : Addr) (sp : Sp) (E : XK) (neg : Bool) : R2 := fun x y H Q => ∃ a dx fs tb, x = .ref a ∧ H a = some (.ins C dx fs) ∧ TyX K H y tb ∧ PySem.W.notFirst K C tb = true ∧ sp [.ref a, y] H (fun v H' => ∃ b, v = .bl b ∧ Q (.bl (if neg then !b else b)) H') E
theorem op_eqOwn (hr : Room n X.A) (F : FnOk X.prog X.w X.K X.mg X.base CX n f fd ps sp) (hs : PySem.W.findIn X.K (.ref C) "__eq__" = some (some (.ref f))) (hf : PySem.W.isFn X.K (.ref f) = true) (hb : Binds X.K fd ps []) (hx : Passes CX X E) :
    OpR X (compareOp .Eq) (rEqO X.K C sp E false) := by
  intro pins s σ H x y v u Q I rx ry hq
  obtain ⟨a, dx, fs, tb, rfl, ha, ty, nf, q⟩ := hq
  cases rx
  obtain ⟨mA, J, _⟩ := ins_get I.hok ha
  obtain ⟨od, J, _⟩ := J.look
  obtain ⟨m, hF⟩ := I.fr
  show wpAny (model X.prog X.w) X.A (richCompare .Eq (.ref a) u) (EP X pins σ Q) X.xe s
  refine PySem.W.cmp_K (op := .Eq) (tb := tb) hr.units0 hF I.ok.mod.kin J (looks_ty I ry ty) nf hs hf ?_
  refine wpAny_mono (run_at ⟨hr, rfl⟩ I F hb hx (.cons (show RelV (V.ref a) (Value.ref a) from rfl) (.cons ry .nil)) q) (fun w s' h => ?_) fun _ _ z => z
  obtain ⟨z, H', I', rz, b, rfl, q2⟩ := h
  cases rz
  exact ⟨.bl b, H', I', rfl, q2⟩
theorem obj_ne {x : Addr} {b : Value} {ox : Obj} {od : Option Obj} {Q : Fin → Shared → Prop} (hu : A.units < cLine) (I : PySem.W.InstAt s.heap x ox C od) (K : PySem.W.Frag) (X0 : K.In s.heap)
    (hs : PySem.W.findIn K (.ref C) "__eq__" = some (some (.ref f))) (hf : PySem.W.isFn K (.ref f) = true) {E : Value → Shared → Prop} {prog : Program} {w : World}
    (h : wpAny (model prog w) A (call (.ref f) [.ref x, b]) (fun v s' => ∃ r, v = .bool r ∧ Q (.done (.ret (.bool (!r)))) s') E s) : wpAny (model prog w) A (Builtin.«object.__ne__» ⟨[.ref x, b], []⟩) Q E s := by
  unfold Builtin.«object.__ne__»
  refine wpAny_bind (m := slotArgs "__ne__" 1 _) (wpAny_pure ?_)
  refine wpAny_bind (m := cRoomFor _ _) (wpAny_cRoomFor hu ?_)
  refine wpAny_bind (m := callSpecialIfBound? (.ref x) (Str.ofString "__eq__") [b]) (PySem.W.ifBound_K X0 I hs hf (wpAny_mono h (fun v s' hv => ?_) fun _ _ y => y))
  obtain ⟨r, rfl, q⟩ := hv
  exact wpAny_bind (wpAny_truthy_bool (wpAny_pure q))
theorem ifBound_B {M : Model} {x : Addr} {ox : Obj} {od : Option Obj} {K : PySem.W.Frag} {name : Str} {id : String} {args : List Value} {Q : Option Value → Shared → Prop} {E : Value → Shared → Prop} (X0 : K.In s.heap) (I : PySem.W.InstAt s.heap x ox C od) (hs : PySem.W.findIn K (.ref C) name = some (some (.builtin id)))
    (hb : ∀ self, bindSpecial (.builtin id) self = pure (.builtin id, [self])) (h : wpAny M A (call (.builtin id) (.ref x :: args)) (fun v => Q (some v)) E s) : wpAny M A (callSpecialIfBound? (.ref x) name args) Q E s := by
  simp only [callSpecialIfBound?, bindSpecialIfBound?]
  refine wpAny_holding (wpAny_bind (wpAny_bind (wpAny_bind (I.type.here ((PySem.W.looks_findIn X0 hs).here ?_)))))
  refine wpAny_bind (wpAny_askSetting (wpAny_ite ?_))
  have fin : wpAny M A (call (.builtin id) ([.ref x] ++ args) >>= fun v => pure (some v)) Q E s := wpAny_bind (wpAny_mono h (fun v s' h' => wpAny_pure h') fun _ _ h' => h')
  split
  · exact wpAny_bind ((PySem.W.Looks.of_pure (hb _)).here (wpAny_pure (by exact fin)))
  · exact wpAny_tryCatch (wpAny_bind ((PySem.W.Looks.of_pure (hb _)).here (wpAny_pure (by exact fin))))
theorem op_neOwn (hr : Room (n + 1) X.A) (F : FnOk X.prog X.w X.K X.mg X.base CX n f fd ps sp) (hs : PySem.W.findIn X.K (.ref C) "__eq__" = some (some (.ref f))) (hf : PySem.W.isFn X.K (.ref f) = true) (hb : Binds X.K fd ps []) (hx : Passes CX X E)
    (hn : PySem.W.findIn X.K (.ref C) "__ne__" = some (some (.builtin "object.__ne__"))) (hm : PySem.W.mroIn X.K C (.type "object") = some true) : OpR X (compareOp .NotEq) (rEqO X.K C sp E true) := by
  intro pins s σ H x y v u Q I rx ry hq
  obtain ⟨a, dx, fs, tb, rfl, ha, ty, nf, q⟩ := hq
  cases rx
  obtain ⟨mA, J, _⟩ := ins_get I.hok ha
  obtain ⟨od, J, _⟩ := J.look
  have X0 := I.kIn
  have lt := looks_ty I ry ty
  have one : wpAny (model X.prog X.w) X.A (tryCompare (.ref a) (cmpInfo .NotEq).2.1 u) (fun r s' => ∃ v, r = some v ∧ EP X pins σ Q v s') X.xe s := by
    unfold tryCompare
    refine wpAny_bind (ifBound_B X0 J hn PySem.F.slot_object_ne.bind ?_)
    refine wpAny_call (codeAny_call_builtin PySem.F.slot_object_ne.plain PySem.F.cmpEntry_ne (PySem.W.check_slot (i := "object.__ne__") (owner := "object") (n := "__ne__") PySem.F.cmpKind_ne PySem.F.cmpSplit_ne (J.type.andThen (PySem.W.looks_mroIn X0 hm)) (PySem.F.cmpArgs_ne _ _) ?_))
    refine obj_ne hr.in1.units0 J X.K X0 hs hf ?_
    refine wpAny_mono (run_at ⟨hr.in1, rfl⟩ I F hb hx (.cons (show RelV (V.ref a) (Value.ref a) from rfl) (.cons ry .nil)) q) (fun w s' h => ?_) fun _ _ z => z
    obtain ⟨z, H', I', rz, b, rfl, q2⟩ := h
    cases rz
    exact ⟨b, rfl, wpAny_pure ⟨_, rfl, .bl (!b), H', I', rfl, q2⟩⟩
  show wpAny (model X.prog X.w) X.A (richCompare .NotEq (.ref a) u) (EP X pins σ Q) X.xe s
  unfold richCompare
  simp only [oneThing_ref]
  refine wpAny_holding (wpAny_bind (wpAny_cRoomFor hr.units0 ?_))
  refine wpAny_bind (J.type.here (wpAny_bind (lt.here ?_)))
  split
  · rename_i q
    have e : PySem.W.subIn X.K tb (.ref C) = some false := by
      rcases Bool.or_eq_true_iff.mp nf with e | e
      · rw [beq_iff_eq.mp e] at q; simp at q
      · exact beq_iff_eq.mp e
    refine wpAny_bind ((PySem.W.looks_subIn X0 e).here ?_)
    simp only [Bool.false_eq_true, if_false]
    refine wpAny_bind (wpAny_mono one (fun r s' z => ?_) fun _ _ e => e)
    obtain ⟨v, rfl, hq⟩ := z
    exact wpAny_pure hq
  · refine wpAny_bind (wpAny_pure ?_)
    simp only [Bool.false_eq_true, if_false]
    refine wpAny_bind (wpAny_mono one (fun r s' z => ?_) fun _ _ e => e)
    obtain ⟨v, rfl, hq⟩ := z
    exact wpAny_pure hq
/-- len(x) by the text's own __len__ -/
theorem cr_lenOwn (hr : Room (n + 1) X.A) (F : FnOk X.prog X.w X.K X.mg X.base CX n f fd ps sp) (hs : PySem.W.findIn X.K (.ref C) "__len__" = some (some (.ref f))) (hf : PySem.W.isFn X.K (.ref f) = true) (hb : Binds X.K fd ps []) (hx : Passes CX X E) :
    CallR X (.builtin "len") (fun xs H Q => ∃ a dx fs, xs = [.ref a] ∧ H a = some (.ins C dx fs) ∧ sp [.ref a] H (fun v H' => ∃ m : Nat, v = .int m ∧ m ≤ 100000 ∧ Q (.int m) H') E) := by
  intro pins s σ H vs us Q I r h
  obtain ⟨a, dx, fs, rfl, ha, q⟩ := h
  rw [Vals.ref1 r]
  obtain ⟨mA, J, _⟩ := ins_get I.hok ha
  obtain ⟨od, J, _⟩ := J.look
  obtain ⟨m, hF⟩ := I.fr
  refine PySem.W.len_K hF I.ok.mod.kin J hs hf ?_
  refine wpAny_mono (run_at ⟨hr.in1, rfl⟩ I F hb hx (.cons (show RelV (V.ref a) (Value.ref a) from rfl) .nil) q) (fun w s' h => ?_) fun _ _ z => z
  obtain ⟨z, H', I', rz, m, rfl, hm, q2⟩ := h
  obtain ⟨t, rfl⟩ := rz
  exact ⟨⟨by omega, by omega⟩, .int m, H', I'.tok _, ⟨_, rfl⟩, q2⟩
/-- str(x) by the text's own __str__ -/
theorem cr_strOwn (hr : Room (n + 2) X.A) (F : FnOk X.prog X.w X.K X.mg X.base CX n f fd ps sp) (hs : PySem.W.findIn X.K (.ref C) "__str__" = some (some (.ref f))) (hf : PySem.W.isFn X.K (.ref f) = true) (hb : Binds X.K fd ps []) (hx : Passes CX X E) :
    CallR X (.type "str") (fun xs H Q => ∃ a dx fs, xs = [.ref a] ∧ H a = some (.ins C dx fs) ∧ sp [.ref a] H (fun v H' => ∃ z, v = .str z ∧ Q (.str z) H') E) := by
  intro pins s σ H vs us Q I r h
  obtain ⟨a, dx, fs, rfl, ha, q⟩ := h
  rw [Vals.ref1 r]
  obtain ⟨mA, J, _⟩ := ins_get I.hok ha
  obtain ⟨od, J, _⟩ := J.look
  refine PySem.W.kso_call hr.in1.in1.units0 I.kIn J hs hf ?_
  refine wpAny_mono (run_at ⟨hr.in1.in1, rfl⟩ I F hb hx (.cons (show RelV (V.ref a) (Value.ref a) from rfl) .nil) q) (fun w s' h => ?_) fun _ _ z => z
  obtain ⟨z, H', I', rz, z, rfl, q2⟩ := h
  obtain ⟨t, rfl⟩ := rz
  exact ⟨.str z, H', I', ⟨_, rfl⟩, q2⟩
end
end FS

set_option Elab.async false
set_option linter.all false
set_option maxRecDepth 100000
set_option maxHeartbeats 4000000
namespace FS
open PySem PySem.Spec PyProof.Rows L2
/-! ### tuples stand -/
def isT : HO → Bool
  | .tup _ => true
  | .frz _ (.tup _) => true
  | _ => false
def TK (H H' : Hp) : Prop := ∀ b o, isT o = true → H b = some o → H' b = some o
theorem TK.refl (H : Hp) : TK H H := fun _ _ _ h => h
theorem TK.trans {H H1 H2 : Hp} (a : TK H H1) (b : TK H1 H2) : TK H H2 := fun c o n h => b c o n (a c o n h)
theorem TK.of {H H' : Hp} (e : Same H H') : TK H H' := fun b o _ h => e b o h
theorem TK.stay {H H' : Hp} (e : Stay H H') : TK H H' := fun b o n h => e b o (fun xs z => by
  subst z
  cases n) h
theorem TK.set {H : Hp} {p : Addr} {o o' : HO} (e : H p = some o) (n : isT o = false) : TK H (upd H p o') := fun b u t h => by
  rw [upd_ne (fun z => by
    subst z
    rw [e] at h
    cases Option.some.inj h
    rw [n] at t
    cases t)]
  exact h
theorem TK.sqT {K : PySem.W.Frag} {H H' : Hp} {a : Addr} {xs : List V} (e : TK H H') (h : SqT K H a xs) : SqT K H' a xs := by
  rcases h with (h | ⟨o, h⟩) | h
  · exact .inl (.inl (e _ _ rfl h))
  · exact .inl (.inr ⟨o, e _ _ rfl h⟩)
  · exact .inr h
mutual
theorem Dp.tk {K : PySem.W.Frag} {H H' : Hp} (e : TK H H') : ∀ {v : V} {d : PyData}, noL d = true → Dp K H v d → Dp K H' v d
  | _, _, _, .non => .non
  | _, _, _, .bl b => .bl b
  | _, _, _, .int i => .int i
  | _, _, _, .str x => .str x
  | _, _, n, .lst _ _ => by cases n
  | _, _, n, .tup h r => .tup (e.sqT h) (DpAll.tk e n r)
theorem DpAll.tk {K : PySem.W.Frag} {H H' : Hp} (e : TK H H') : ∀ {vs : List V} {ds : List PyData}, noLs ds = true → DpAll K H vs ds → DpAll K H' vs ds
  | _, _, _, .nil => .nil
  | _, _, n, .cons h r => by
    have n2 := Bool.and_eq_true_iff.mp (show (noL _ && noLs _) = true from n)
    exact .cons (Dp.tk e n2.1 h) (DpAll.tk e n2.2 r)
end
/-- all but p is as it was -/
def Kp (p : Addr) (H H' : Hp) : Prop := ∀ b o, b ≠ p → H b = some o → H' b = some o
theorem Kp.refl (p : Addr) (H : Hp) : Kp p H H := fun _ _ _ h => h
theorem Kp.trans {p : Addr} {H H1 H2 : Hp} (a : Kp p H H1) (b : Kp p H1 H2) : Kp p H H2 := fun c o n h => b c o n (a c o n h)
theorem Kp.of {p : Addr} {H H' : Hp} (e : Same H H') : Kp p H H' := fun b o _ h => e b o h
theorem Kp.set {p : Addr} {H : Hp} {o : HO} : Kp p H (upd H p o) := fun b o n h => by
  rw [upd_ne n]
  exact h
theorem Kp.tk {p : Addr} {H H' : Hp} {o : HO} (k : Kp p H H') (e : H p = some o) (n : isT o = false) : TK H H' := fun b u t h => k b u (fun z => by
  subst z
  rw [e] at h
  cases Option.some.inj h
  rw [n] at t
  cases t) h
/-! ### texts in order -/
theorem rising_le : ∀ (l : List Str) (p : Str), risingS p l = true → ((p :: l).map fun z => z.cps.toList).Pairwise (· ≤ ·)
  | [], p, _ => List.Pairwise.cons (fun _ h => nomatch h) .nil
  | x :: r, p, h => by
    obtain ⟨h1, h2⟩ := Bool.and_eq_true_iff.mp (show (!ltCps x.cps.toList p.cps.toList && risingS x r) = true from h)
    have ih := rising_le r x h2
    have e : p.cps.toList ≤ x.cps.toList := by
      rw [ltCps_eq] at h1
      exact List.not_lt.mp (by simpa using h1)
    refine List.Pairwise.cons (fun z hz => ?_) ih
    rcases List.mem_cons.mp hz with rfl | hz
    · exact e
    · exact List.le_trans e (List.rel_of_pairwise_cons ih hz)
theorem sorted_le {l : List Str} (h : sortedS l = true) : (l.map fun z => z.cps.toList).Pairwise (· ≤ ·) := by
  cases l with
  | nil => exact .nil
  | cons x r => exact rising_le r x h
theorem cps_inj {x y : Str} (h : x.cps.toList = y.cps.toList) : x = y := by
  cases x with
  | mk a => cases y with
    | mk b =>
      cases Array.toList_inj.mp h
      rfl
theorem sorted_same {l m : List Str} (h1 : sortedS l = true) (h2 : sortedS m = true) (p : l.Perm m) : l = m := by
  have e : (l.map fun z => z.cps.toList) = m.map fun z => z.cps.toList := List.Perm.eq_of_pairwise (fun a b _ _ x y => List.le_antisymm x y) (sorted_le h1) (sorted_le h2) (p.map _)
  have inj : ∀ (l m : List Str), (l.map fun z => z.cps.toList) = (m.map fun z => z.cps.toList) → l = m := fun l => by
    induction l with
    | nil =>
      intro m h
      cases m with
      | nil => rfl
      | cons _ _ => cases h
    | cons x r ih =>
      intro m h
      cases m with
      | nil => cases h
      | cons y s =>
        obtain ⟨h1, h2⟩ := List.cons.inj (show x.cps.toList :: r.map _ = y.cps.toList :: s.map _ from h)
        rw [cps_inj h1, ih s h2]
  exact inj l m e
/-- each text once, in the order in which they come -/
def uniq (l : List Str) : List Str := l.foldl addS []
theorem uniq_more (l : List Str) (x : Str) : uniq (l ++ [x]) = addS (uniq l) x := by
  unfold uniq
  rw [List.foldl_append]
  rfl
theorem addS_nodup {l : List Str} {x : Str} (h : l.Nodup) : (addS l x).Nodup := by
  unfold addS
  by_cases e : x ∈ l
  · rw [if_pos e]
    exact h
  · rw [if_neg e]
    refine List.nodup_append.mpr ⟨h, List.nodup_cons.mpr ⟨(fun h => nomatch h), .nil⟩, fun a ha b hb z => e ?_⟩
    rw [← List.mem_singleton.mp hb, ← z]
    exact ha
theorem addS_mem {l : List Str} {x z : Str} : z ∈ addS l x ↔ z ∈ l ∨ z = x := by
  unfold addS
  by_cases e : x ∈ l
  · rw [if_pos e]
    exact ⟨.inl, fun h => h.elim id fun h => h ▸ e⟩
  · rw [if_neg e, List.mem_append, List.mem_singleton]
theorem uniq_nodup (l : List Str) : (uniq l).Nodup := by
  have h : ∀ (l acc : List Str), acc.Nodup → (l.foldl addS acc).Nodup := fun l => by
    induction l with
    | nil => exact fun acc h => h
    | cons x r ih => exact fun acc h => ih _ (addS_nodup h)
  exact h l [] .nil
theorem uniq_mem {l : List Str} {z : Str} : z ∈ uniq l ↔ z ∈ l := by
  have h : ∀ (l acc : List Str), z ∈ l.foldl addS acc ↔ z ∈ acc ∨ z ∈ l := fun l => by
    induction l with
    | nil => intro acc; simp
    | cons x r ih =>
      intro acc
      rw [List.foldl_cons, ih, addS_mem, List.mem_cons]
      constructor
      · rintro ((h | h) | h)
        · exact .inl h
        · exact .inr (.inl h)
        · exact .inr (.inr h)
      · rintro (h | h | h)
        · exact .inl (.inl h)
        · exact .inl (.inr h)
        · exact .inr h
  rw [show uniq l = l.foldl addS [] from rfl, h]
  simp
theorem uniq_len (l : List Str) : (uniq l).length ≤ l.length := by
  have h : ∀ (l acc : List Str), (l.foldl addS acc).length ≤ acc.length + l.length := fun l => by
    induction l with
    | nil => exact fun acc => Nat.le_refl _
    | cons x r ih =>
      intro acc
      have h1 := ih (addS acc x)
      have h2 : (addS acc x).length ≤ acc.length + 1 := by
        unfold addS
        split
        · omega
        · rw [List.length_append]
          exact Nat.le_refl _
      rw [List.foldl_cons, List.length_cons]
      omega
  have := h l []
  simp only [List.length_nil, Nat.zero_add] at this
  exact this
/-- the texts of l, ascending: what sorted of the set of them is -/
def Ranks (l ys : List Str) : Prop := ys.Perm (uniq l) ∧ sortedS ys = true
theorem Ranks.same {l m ys zs : List Str} (a : Ranks l ys) (b : Ranks m zs) (h : ∀ z, z ∈ l ↔ z ∈ m) : ys = zs := by
  refine sorted_same a.2 b.2 (a.1.trans (List.Perm.trans ?_ b.1.symm))
  exact (List.perm_ext_iff_of_nodup (uniq_nodup l) (uniq_nodup m)).mpr fun z => by rw [uniq_mem, uniq_mem, h]
/-! ### what a procedure tells -/
def wordOf (u : Tm) : Option Str := match u.hd with
  | .deed w _ => some w
  | _ => none
def useOf (u : Tm) : Option Str := match u.hd with
  | .call n => some n
  | .wth n => some n
  | _ => none
def strsD (ys : List Str) : PyData := .tuple (ys.map PyData.str)
def kindD (own : List (Str × Bool)) : PyData := .tuple (own.map fun p => .str (kd p.2))
theorem strs_noL (ys : List Str) : noL (strsD ys) = true := by
  show noLs (ys.map PyData.str) = true
  induction ys with
  | nil => rfl
  | cons x r ih => exact ih
theorem kindD_noL (own : List (Str × Bool)) : noL (kindD own) = true := by
  show noLs (own.map _) = true
  induction own with
  | nil => rfl
  | cons x r ih => exact ih
theorem op_inK {X : Cx} {K : PySem.W.Frag} (h : X.K = K) : OpR X (compareOp .In) (rIn K false) := by
  subst h
  exact op_in_seq
theorem dp_strs {K : PySem.W.Frag} {H : Hp} : ∀ ys : List Str, DpAll K H (ys.map V.str) (ys.map PyData.str)
  | [] => .nil
  | x :: r => .cons (.str _) (dp_strs r)
def prF (nm : Str) (pv bv : V) (pa ka wa ua : Addr) : List (Str × V) := [("_named", .str nm), ("_parameters", pv), ("_body", bv), ("_parts", .ref pa), ("_kinds", .ref ka), ("_words", .ref wa), ("_uses", .ref ua)]
/-- the class's facts -/
structure PrC (K : PySem.W.Frag) (mg : Str → Option Value) (C : Addr) : Prop where
  cl : Cls K C
  gC : mg "Procedure" = some (.ref C)
  a1 : NoAttr K C "_named"
  a2 : NoAttr K C "_parameters"
  a3 : NoAttr K C "_body"
  a4 : NoAttr K C "_parts"
  a5 : NoAttr K C "_kinds"
  a6 : NoAttr K C "_words"
  a7 : NoAttr K C "_uses"
  ha : PySem.W.findIn K (.ref C) "__class__" = some (some (.builtin "object.__class__"))
  hn : PySem.W.specialIn K (.builtin "object.__class__") "__get__" = some (some (.builtin "getset_descriptor.__get__"))
  htk : PySem.W.takesIn K (.builtin "object.__class__") = some true
  hm : PySem.W.mroIn K C (.type "object") = some true
  self : PySem.W.kitOne K (.ref C) (.ref C) = some true
/-- the procedure at a -/
structure PAt (K : PySem.W.Frag) (C : Addr) (H : Hp) (a : Addr) (nm : Str) (own : List (Str × Bool)) (t : Tm) : Prop where
  ex : ∃ (dx : Addr) (pv bv : V) (pa ka wa ua : Addr) (xs : List V) (ws us : List Str), H a = some (.ins C dx (prF nm pv bv pa ka wa ua)) ∧ Dp K H pv (parsD own) ∧ Dp K H bv t.data ∧ H pa = some (.lst xs) ∧ DpAll K H xs (datas t.all) ∧
    Dp K H (.ref ka) (kindD own) ∧ Dp K H (.ref wa) (strsD ws) ∧ Dp K H (.ref ua) (strsD us) ∧ Ranks (t.all.filterMap wordOf) ws ∧ Ranks (t.all.filterMap useOf) us
  wd : wordB nm = true
  po : ParOk own
  good : Good own t
  nw : t.isW = false
  few : t.count ≤ 40
  low : t.deep ≤ 6
theorem PAt.same {K : PySem.W.Frag} {C : Addr} {H H' : Hp} {a : Addr} {nm : Str} {own : List (Str × Bool)} {t : Tm} (p : PAt K C H a nm own t) (s : Same H H') : PAt K C H' a nm own t := by
  obtain ⟨⟨dx, pv, bv, pa, ka, wa, ua, xs, ws, us, h1, h2, h3, h4, h5, h6, h7, h8, h9, h10⟩, b, c, d, e, f, g⟩ := p
  have k := TK.of s
  exact ⟨⟨dx, pv, bv, pa, ka, wa, ua, xs, ws, us, s _ _ h1, Dp.tk k (pars_noL own) h2, Dp.tk k t.noL h3, s _ _ h4, DpAll.tk k (noL_datas _) h5, Dp.tk k (kindD_noL _) h6, Dp.tk k (strs_noL _) h7, Dp.tk k (strs_noL _) h8, h9, h10⟩, b, c, d, e, f, g⟩
/-- the procedure at a, whose list of parts is not at D -/
structure PAtD (K : PySem.W.Frag) (C : Addr) (H : Hp) (D a : Addr) (nm : Str) (own : List (Str × Bool)) (t : Tm) : Prop where
  ex : ∃ (dx : Addr) (pv bv : V) (pa ka wa ua : Addr) (xs : List V) (ws us : List Str), H a = some (.ins C dx (prF nm pv bv pa ka wa ua)) ∧ Dp K H pv (parsD own) ∧ Dp K H bv t.data ∧ H pa = some (.lst xs) ∧ DpAll K H xs (datas t.all) ∧
    Dp K H (.ref ka) (kindD own) ∧ Dp K H (.ref wa) (strsD ws) ∧ Dp K H (.ref ua) (strsD us) ∧ Ranks (t.all.filterMap wordOf) ws ∧ Ranks (t.all.filterMap useOf) us ∧ pa ≠ D
  na : a ≠ D
  wd : wordB nm = true
  po : ParOk own
  good : Good own t
  nw : t.isW = false
  few : t.count ≤ 40
  low : t.deep ≤ 6
theorem PAtD.pat {K : PySem.W.Frag} {C : Addr} {H : Hp} {D a : Addr} {nm : Str} {own : List (Str × Bool)} {t : Tm} (p : PAtD K C H D a nm own t) : PAt K C H a nm own t := by
  obtain ⟨⟨dx, pv, bv, pa, ka, wa, ua, xs, ws, us, h1, h2, h3, h4, h5, h6, h7, h8, h9, h10, -⟩, -, b, c, d, e, f, g⟩ := p
  exact ⟨⟨dx, pv, bv, pa, ka, wa, ua, xs, ws, us, h1, h2, h3, h4, h5, h6, h7, h8, h9, h10⟩, b, c, d, e, f, g⟩
theorem PAtD.kp {K : PySem.W.Frag} {C : Addr} {H H' : Hp} {D a : Addr} {nm : Str} {own : List (Str × Bool)} {t : Tm} (p : PAtD K C H D a nm own t) (k0 : Kp D H H') (k : TK H H') : PAtD K C H' D a nm own t := by
  obtain ⟨⟨dx, pv, bv, pa, ka, wa, ua, xs, ws, us, h1, h2, h3, h4, h5, h6, h7, h8, h9, h10, hn⟩, na, b, c, d, e, f, g⟩ := p
  exact ⟨⟨dx, pv, bv, pa, ka, wa, ua, xs, ws, us, k0 _ _ na h1, Dp.tk k (pars_noL own) h2, Dp.tk k t.noL h3, k0 _ _ hn h4, DpAll.tk k (noL_datas _) h5, Dp.tk k (kindD_noL _) h6, Dp.tk k (strs_noL _) h7, Dp.tk k (strs_noL _) h8, h9, h10, hn⟩, na, b, c, d, e, f, g⟩
def spInit (K : PySem.W.Frag) (C : Addr) : Sp := fun vs H Q _ => ∃ (p dx : Addr) (nm : Str) (pv bv : V) (own : List (Str × Bool)) (t : Tm), vs = [.ref p, .str nm, pv, bv] ∧ H p = some (.ins C dx []) ∧ wordB nm = true ∧ Dp K H pv (parsD own) ∧ Dp K H bv t.data ∧ ParOk own ∧ Good own t ∧ t.isW = false ∧ t.count ≤ 40 ∧ t.deep ≤ 6 ∧
  ∀ H', PAt K C H' p nm own t → Kp p H H' → (∀ D o, H D = some o → D ≠ p → PAtD K C H' D p nm own t) → Q .non H'
def spGet (K : PySem.W.Frag) (C : Addr) (g : Str) : Sp := fun vs H Q _ => ∃ (a dx : Addr) (fs : List (Str × V)) (v : V), vs = [.ref a] ∧ H a = some (.ins C dx fs) ∧ fs.lookup g = some v ∧ Q v H
def spLen (K : PySem.W.Frag) (C : Addr) : Sp := fun vs H Q _ => ∃ (a : Addr) (nm : Str) (own : List (Str × Bool)) (t : Tm), vs = [.ref a] ∧ PAt K C H a nm own t ∧ Q (.int (t.count : Int)) H
def spEqT (K : PySem.W.Frag) (C : Addr) : Sp := fun vs H Q _ => ∃ (a : Addr) (y : V) (nm : Str) (own : List (Str × Bool)) (t : Tm), vs = [.ref a, y] ∧ PAt K C H a nm own t ∧
  ((∃ ty, TyX K H y ty ∧ PySem.W.kitOne K ty (.ref C) = some false ∧ Q (.bl false) H) ∨
  (∃ (b : Addr) (nm' : Str) (own' : List (Str × Bool)) (t' : Tm), y = .ref b ∧ PAt K C H b nm' own' t' ∧ Q (.bl (nm == nm' && PyData.eqv (parsD own) (parsD own') && PyData.eqv t.data t'.data)) H))
def telling (nm : Str) (n m : Nat) : Str := (((((Str.empty ++ "procedure ") ++ nm) ++ ", ") ++ toString (n : Int)) ++ " parameters, ") ++ toString (m : Int) ++ " terms"
def spStr (K : PySem.W.Frag) (C : Addr) : Sp := fun vs H Q _ => ∃ (a : Addr) (nm : Str) (own : List (Str × Bool)) (t : Tm), vs = [.ref a] ∧ PAt K C H a nm own t ∧ ∀ z, z = telling nm own.length t.count → Q (.str z) H
end FS

set_option Elab.async false
set_option linter.all false
set_option maxRecDepth 100000
set_option maxHeartbeats 4000000
namespace FS
open PySem PySem.Spec PyProof.Rows L2
theorem fm_some {α : Type} {l : List α} {i : Nat} {x : α} {f : α → Option Str} {z : Str} (h : l[i]? = some x) (e : f x = some z) : (l.take (i + 1)).filterMap f = (l.take i).filterMap f ++ [z] := by
  rw [take_more h, List.filterMap_append, List.filterMap_cons, e]
  rfl
theorem fm_none {α : Type} {l : List α} {i : Nat} {x : α} {f : α → Option Str} (h : l[i]? = some x) (e : f x = none) : (l.take (i + 1)).filterMap f = (l.take i).filterMap f := by
  rw [take_more h, List.filterMap_append, List.filterMap_cons, e]
  exact List.append_nil _
theorem fm_len {α : Type} (l : List α) (i : Nat) (f : α → Option Str) : ((l.take i).filterMap f).length ≤ l.length := Nat.le_trans (List.length_filterMap_le _ _) (by rw [List.length_take]; exact Nat.min_le_right _ _)
theorem datas_at {K : PySem.W.Frag} {H : Hp} {xs : List V} {ts : List Tm} (r : DpAll K H xs (datas ts)) {i : Nat} {x : V} (h : xs[i]? = some x) : ∃ u, ts[i]? = some u ∧ Dp K H x u.data := DpAll.kid r h
/-- a deed's word stands behind its tag -/
theorem deed_open {K : PySem.W.Frag} {H : Hp} {x : V} {u : Tm} (d : Dp K H x u.data) : ∃ a xs, x = .ref a ∧ SqT K H a (V.str u.hd.tag :: xs) ∧
    ((u.hd.num = 0 ∧ ∃ w ys, wordOf u = some w ∧ xs = .str w :: ys) ∨ (u.hd.num ≠ 0 ∧ wordOf u = none)) ∧ ((u.hd.is2 = true ∧ ∃ w ys, useOf u = some w ∧ xs = .str w :: ys) ∨ (u.hd.is2 = false ∧ useOf u = none)) := by
  obtain ⟨h, ks⟩ := u
  obtain ⟨a, rs, kv, rfl, sq, r1, r2⟩ := tm_open d
  refine ⟨a, rs ++ kv, rfl, sq, ?_, ?_⟩
  · cases h with
    | deed w t =>
      cases r1 with
      | cons x1 r =>
        cases Dp.str_inv x1
        exact .inl ⟨rfl, w, _, rfl, rfl⟩
    | seq => exact .inr ⟨(fun z : (1:Nat) = 0 => nomatch z), rfl⟩
    | alt => exact .inr ⟨(fun z : (2:Nat) = 0 => nomatch z), rfl⟩
    | run x => exact .inr ⟨(fun z : (3:Nat) = 0 => nomatch z), rfl⟩
    | call n => exact .inr ⟨(fun z : (4:Nat) = 0 => nomatch z), rfl⟩
    | wrp => exact .inr ⟨(fun z : (5:Nat) = 0 => nomatch z), rfl⟩
    | own x => exact .inr ⟨(fun z : (6:Nat) = 0 => nomatch z), rfl⟩
    | wth n => exact .inr ⟨(fun z : (7:Nat) = 0 => nomatch z), rfl⟩
  · cases h with
    | call n =>
      cases r1 with
      | cons x1 r =>
        cases Dp.str_inv x1
        exact .inl ⟨rfl, n, _, rfl, rfl⟩
    | wth n =>
      cases r1 with
      | cons x1 r =>
        cases Dp.str_inv x1
        exact .inl ⟨rfl, n, _, rfl, rfl⟩
    | deed w t => exact .inr ⟨rfl, rfl⟩
    | seq => exact .inr ⟨rfl, rfl⟩
    | alt => exact .inr ⟨rfl, rfl⟩
    | run x => exact .inr ⟨rfl, rfl⟩
    | wrp => exact .inr ⟨rfl, rfl⟩
    | own x => exact .inr ⟨rfl, rfl⟩
theorem uniq_small {l : List Str} {n : Nat} (h : l.length ≤ n) (hn : n ≤ 200) : (uniq l).length + 1 < scanBound := by
  have := uniq_len l
  have e : scanBound = 4096 := rfl
  omega
theorem putA {f g : Str} {v x : V} {r : List (Str × V)} (h : ¬ g = f) : putF f v ((g, x) :: r) = (g, x) :: putF f v r := if_neg h
theorem pf2 {a v : V} : putF "_parameters" v [("_named", a)] = ([("_named", a), ("_parameters", v)] : List (Str × V)) := by
  rw [putA (by decide +kernel)]
  rfl
theorem pf3 {a b v : V} : putF "_body" v [("_named", a), ("_parameters", b)] = ([("_named", a), ("_parameters", b), ("_body", v)] : List (Str × V)) := by
  rw [putA (by decide +kernel), putA (by decide +kernel)]
  rfl
theorem pf4 {a b c v : V} : putF "_parts" v [("_named", a), ("_parameters", b), ("_body", c)] = ([("_named", a), ("_parameters", b), ("_body", c), ("_parts", v)] : List (Str × V)) := by
  rw [putA (by decide +kernel), putA (by decide +kernel), putA (by decide +kernel)]
  rfl
theorem pf5 {a b c d v : V} : putF "_kinds" v [("_named", a), ("_parameters", b), ("_body", c), ("_parts", d)] = ([("_named", a), ("_parameters", b), ("_body", c), ("_parts", d), ("_kinds", v)] : List (Str × V)) := by
  rw [putA (by decide +kernel), putA (by decide +kernel), putA (by decide +kernel), putA (by decide +kernel)]
  rfl
theorem pf6 {a b c d e v : V} : putF "_words" v [("_named", a), ("_parameters", b), ("_body", c), ("_parts", d), ("_kinds", e)] = ([("_named", a), ("_parameters", b), ("_body", c), ("_parts", d), ("_kinds", e), ("_words", v)] : List (Str × V)) := by
  rw [putA (by decide +kernel), putA (by decide +kernel), putA (by decide +kernel), putA (by decide +kernel), putA (by decide +kernel)]
  rfl
theorem pf7 {a b c d e f v : V} : putF "_uses" v [("_named", a), ("_parameters", b), ("_body", c), ("_parts", d), ("_kinds", e), ("_words", f)] = ([("_named", a), ("_parameters", b), ("_body", c), ("_parts", d), ("_kinds", e), ("_words", f), ("_uses", v)] : List (Str × V)) := by
  rw [putA (by decide +kernel), putA (by decide +kernel), putA (by decide +kernel), putA (by decide +kernel), putA (by decide +kernel), putA (by decide +kernel)]
  rfl
theorem lkH {k : Str} {v : V} {r : List (Str × V)} : List.lookup k ((k, v) :: r) = some v := by
  have e : (k == k) = true := beq_self_eq_true k
  simp only [List.lookup, e]
theorem lkP {k g : Str} {v : V} {r : List (Str × V)} (h : (k == g) = false) : List.lookup k ((g, v) :: r) = List.lookup k r := by
  simp only [List.lookup, h]
theorem lkq4 {a b c d e : V} : ([("_named", a), ("_parameters", b), ("_body", c), ("_parts", d), ("_kinds", e)] : List (Str × V)).lookup ("_parts" : Str) = some d := (lkP (by decide +kernel)).trans ((lkP (by decide +kernel)).trans ((lkP (by decide +kernel)).trans lkH))
theorem lkr4 {a b c d e f : V} : ([("_named", a), ("_parameters", b), ("_body", c), ("_parts", d), ("_kinds", e), ("_words", f)] : List (Str × V)).lookup ("_parts" : Str) = some d := (lkP (by decide +kernel)).trans ((lkP (by decide +kernel)).trans ((lkP (by decide +kernel)).trans lkH))
section
variable {nm : Str} {pv bv : V} {pa ka wa ua : Addr}
theorem lk1 : (prF nm pv bv pa ka wa ua).lookup ("_named" : Str) = some (.str nm) := lkH
theorem lk2 : (prF nm pv bv pa ka wa ua).lookup ("_parameters" : Str) = some pv := (lkP (by decide +kernel)).trans lkH
theorem lk3 : (prF nm pv bv pa ka wa ua).lookup ("_body" : Str) = some bv := (lkP (by decide +kernel)).trans ((lkP (by decide +kernel)).trans lkH)
theorem lk4 : (prF nm pv bv pa ka wa ua).lookup ("_parts" : Str) = some (.ref pa) := (lkP (by decide +kernel)).trans ((lkP (by decide +kernel)).trans ((lkP (by decide +kernel)).trans lkH))
theorem lk5 : (prF nm pv bv pa ka wa ua).lookup ("_kinds" : Str) = some (.ref ka) := (lkP (by decide +kernel)).trans ((lkP (by decide +kernel)).trans ((lkP (by decide +kernel)).trans ((lkP (by decide +kernel)).trans lkH)))
theorem lk6 : (prF nm pv bv pa ka wa ua).lookup ("_words" : Str) = some (.ref wa) := (lkP (by decide +kernel)).trans ((lkP (by decide +kernel)).trans ((lkP (by decide +kernel)).trans ((lkP (by decide +kernel)).trans ((lkP (by decide +kernel)).trans lkH))))
theorem lk7 : (prF nm pv bv pa ka wa ua).lookup ("_uses" : Str) = some (.ref ua) := (lkP (by decide +kernel)).trans ((lkP (by decide +kernel)).trans ((lkP (by decide +kernel)).trans ((lkP (by decide +kernel)).trans ((lkP (by decide +kernel)).trans ((lkP (by decide +kernel)).trans lkH)))))
end
end FS
namespace FS
open PySem PySem.Spec PyProof.Rows L2
theorem len_app (a b : Str) : (a ++ b).length = a.length + b.length := by
  show (a.cps ++ b.cps).size = a.cps.size + b.cps.size
  exact Array.size_append ..
theorem small_log (n : Nat) (h : n < 100) : ((n : Int)).natAbs.log2 < 1920 := by
  have e : ((n : Int)).natAbs = n := rfl
  rw [e]
  exact Nat.lt_of_le_of_lt (Nat.log2_le_self n) (by omega)
end FS

set_option Elab.async false
set_option linter.all false
namespace FS
open PySem PySem.Spec PyProof.Rows L2
def topS (i : Nat) : Stmt := PySem.Challenge.pw_blockshanded_k02_whole_terms_by_form.main.body.getD i (.Pass ⟨0, 0, 0, 0⟩)
abbrev s_wall : Stmt := topS 0
abbrev sis_integer_in : Stmt := topS 2
abbrev sis_name : Stmt := topS 5
abbrev skind_of : Stmt := topS 11
abbrev sparts_in : Stmt := topS 12
abbrev skinds_in : Stmt := topS 13
abbrev sall_parts : Stmt := topS 14
abbrev sis_deed_table : Stmt := topS 15
abbrev shas_form : Stmt := topS 16
abbrev sHandError : Stmt := topS 18
abbrev sInvalidProgram : Stmt := topS 19
abbrev sis_parameter : Stmt := topS 24
abbrev sare_parameters : Stmt := topS 25
abbrev sis_term : Stmt := topS 26
abbrev sProcedure : Stmt := topS 27
abbrev sProcedure__init__ : Stmt := inClass sProcedure 0
abbrev sProcedurenamed : Stmt := inClass sProcedure 1
abbrev sProcedureparameters : Stmt := inClass sProcedure 2
abbrev sProcedurebody : Stmt := inClass sProcedure 3
abbrev sProcedurekinds : Stmt := inClass sProcedure 4
abbrev sProcedurewords : Stmt := inClass sProcedure 5
abbrev sProcedureuses : Stmt := inClass sProcedure 6
abbrev sProcedure__len__ : Stmt := inClass sProcedure 7
abbrev sProcedure__eq__ : Stmt := inClass sProcedure 8
abbrev sProcedure__str__ : Stmt := inClass sProcedure 9
abbrev s_law_numbers : Stmt := topS 29
abbrev s_law_cast : Stmt := topS 30
abbrev s_law_pick : Stmt := topS 31
abbrev s_law_shuffle : Stmt := topS 32
abbrev s_law_bent_tuple : Stmt := topS 33
abbrev s_law_is_word : Stmt := topS 34
abbrev s_law_is_number : Stmt := topS 35
abbrev s_law_odd_one : Stmt := topS 36
abbrev s_law_own_names : Stmt := topS 37
abbrev s_law_is_piece : Stmt := topS 38
abbrev s_law_all_in : Stmt := topS 39
abbrev s_law_are_parameters : Stmt := topS 40
abbrev s_law_any_deed : Stmt := topS 41
abbrev s_law_any_given : Stmt := topS 42
abbrev s_law_any_wrap : Stmt := topS 43
abbrev s_law_any_term : Stmt := topS 44
abbrev s_law_bend : Stmt := topS 45
abbrev s_law_met : Stmt := topS 46
abbrev s_law_is_body : Stmt := topS 47
abbrev s_law_near : Stmt := topS 48
abbrev s_law_right : Stmt := topS 49
abbrev slaw : Stmt := topS 50
end FS

set_option Elab.async false
set_option linter.all false
set_option maxRecDepth 100000
set_option maxHeartbeats 4000000
namespace FS
open PySem PySem.Spec PyProof.Rows L2
section
variable {P : Program} {w : World} {K : PySem.W.Frag} {mg : Str → Option Value} {base : Heap}
abbrev Nkind_of : List Str := ["value"]
theorem sckind_of : FnScope Nkind_of ["value"] (defScope skind_of) := ⟨rfl, rfl, rfl, by decide +kernel, rfl, by decide +kernel, by decide +kernel⟩
theorem ok_kind_of {f : Addr} {fd : FuncData} (F : Fun K "kind_of" "kind_of" skind_of f fd) (T : Nm K mg) : FnOk P w K mg base CX0 1 f fd ["value"] (spKind K) := by
  have nd := sckind_of.nd
  refine F.ok sckind_of (fun vs H Q E h => ?_) (fun cdv A outer s H vs Q E hr h => ?_)
  · obtain ⟨own, v, t, rfl, _⟩ := h
    rfl
  · obtain ⟨own, v, t, rfl, tm, q⟩ := h
    obtain ⟨aT, gT, sT⟩ := T.g_TERM_TAGS
    obtain ⟨aW, gW, sW⟩ := T.g_WRAP_TAGS
    refine ⟨_, (pss_cons (ps_if (PW.pt (pw_or (pt_not (pt_val (pe_callB call_isi (by rfl) T.b_isinstance (by decide +kernel) (pa_cons (pv 0) (pa_cons (pe_bltn (v := .ty "tuple") (by rfl) T.b_tuple (by decide +kernel) rfl) pa_nil))))) (pw_or1 (pt_cmpR (op_eqD hr.units) (pv 0) (pe_tup pa_nil) (nomark _)))))
  (pss_one (ps_ret pe_non))
  pss_nil)
  (pss_cons (ps_if (pt_cmpR op_in_seq (pe_ix ix_tup (pv 0) pe_int (fun _ _ => rfl)) (pe_glob (v := .ref aT) (by rfl) gT rfl) (by rfl))
  (pss_one (ps_ret pe_str))
  pss_nil)
  (pss_cons (ps_if (pt_cmpR op_in_seq (pe_ix ix_tup (pv 0) pe_int (fun _ _ => rfl)) (pe_glob (v := .ref aW) (by rfl) gW rfl) (by rfl))
  (pss_one (ps_ret pe_str))
  pss_nil)
  (pss_one (ps_ret pe_non))))), ?_⟩
    obtain ⟨h, ks⟩ := t
    obtain ⟨a, rs, kv, rfl, sq, r1, r2⟩ := tm_open tm.dp
    refine ⟨_, rfl, _, _, _, _, true, rfl, .ty "tuple", ty_tup sq, kit_ty (by decide +kernel), true, rfl, ?_⟩
    refine iteF ?_
    refine ⟨_, rfl, Nat.zero_le _, fun p np => ?_⟩
    have s1 : Same H (upd H p (.tup [])) := same_upd np
    have sq1 := Same.sqT s1 sq
    refine ⟨_, _, (tm.same s1).dp, .tup (.inl (.inl upd_same)) .nil, tm.good.shaped tm.po.nms tm.low, rfl, _, rfl, ?_⟩
    refine iteF ?_
    have at0 : ∀ {x : V} {l : List V}, atI (x :: l) 0 = some x := atI_nat (j := 0) rfl
    refine ⟨_, rfl, a, _, 0, _, rfl, rfl, sq1, at0, aT, _, rfl, .inr (sT _), rfl, flat_strs _, _, rfl, ?_⟩
    rw [inV_strs]
    cases h with
    | deed w t => exact iteT (q _ s1)
    | seq => exact iteT (q _ s1)
    | alt => exact iteT (q _ s1)
    | run x => exact iteT (q _ s1)
    | call n => exact iteT (q _ s1)
    | wrp => exact iteT (q _ s1)
    | own x =>
      refine iteF ?_
      refine ⟨_, rfl, a, _, 0, _, rfl, rfl, sq1, at0, aW, _, rfl, .inr (sW _), rfl, flat_strs _, _, rfl, ?_⟩
      rw [inV_strs]
      exact iteT (q _ s1)
    | wth n =>
      refine iteF ?_
      refine ⟨_, rfl, a, _, 0, _, rfl, rfl, sq1, at0, aW, _, rfl, .inr (sW _), rfl, flat_strs _, _, rfl, ?_⟩
      rw [inV_strs]
      exact iteT (q _ s1)
end
end FS

set_option Elab.async false
set_option linter.all false
set_option maxRecDepth 100000
set_option maxHeartbeats 4000000
namespace FS
open PySem PySem.Spec PyProof.Rows L2
section
variable {P : Program} {w : World} {K : PySem.W.Frag} {mg : Str → Option Value} {base : Heap}
abbrev Nparts_in : List Str := ["part"]
theorem scparts_in : FnScope Nparts_in ["part"] (defScope sparts_in) := ⟨rfl, rfl, rfl, by decide +kernel, rfl, by decide +kernel, by decide +kernel⟩
theorem ok_parts_in {f : Addr} {fd : FuncData} (F : Fun K "parts_in" "parts_in" sparts_in f fd) (T : Nm K mg) : FnOk P w K mg base CX0 1 f fd ["part"] (spParts K) := by
  have nd := scparts_in.nd
  refine F.ok scparts_in (fun vs H Q E h => ?_) (fun cdv A outer s H vs Q E hr h => ?_)
  · obtain ⟨own, v, t, rfl, _⟩ := h
    rfl
  · obtain ⟨own, v, t, rfl, dp, gd, q⟩ := h
    refine ⟨_, (pss_cons (ps_if (pt_cmpR op_in_seq (pe_ix ix_tup (pv 0) pe_int (fun _ _ => rfl)) (pe_tup (pa_cons pe_str (pa_cons pe_str (pa_cons pe_str pa_nil)))) (by rfl))
  (pss_one (ps_ret (pe_slice sl_tupA (pv 0) (po_some pe_int) po_none)))
  pss_nil)
  (pss_cons (ps_if (pt_cmpR op_in_seq (pe_ix ix_tup (pv 0) pe_int (fun _ _ => rfl)) (pe_tup (pa_cons pe_str (pa_cons pe_str pa_nil))) (by rfl))
  (pss_one (ps_ret (pe_slice sl_tupA (pv 0) (po_some pe_int) po_none)))
  pss_nil)
  (pss_one (ps_ret (pe_tup pa_nil))))), ?_⟩
    obtain ⟨h, ks⟩ := t
    have nl := noL_datas ks
    obtain ⟨a, rs, kv, rfl, sq, r1, r2⟩ := tm_open dp
    refine ⟨_, rfl, a, _, 0, _, rfl, rfl, sq, at0, (by show 3 ≤ sizeLine; decide), fun p np => ?_⟩
    have s1 : Same H (upd H p (.tup ([("seq" : Str), "or", "wrap"].map V.str))) := same_upd np
    refine ⟨p, [("seq" : Str), "or", "wrap"].map V.str, rfl, .inr (.inl (.inl upd_same)), rfl, flat_strs _, _, rfl, ?_⟩
    rw [inV_strs, tag3]
    refine ite2 (fun e3 => ?_) (fun e3 => ?_)
    · cases Hd.rest0 r1 e3
      exact ⟨_, rfl, _, rfl, cut_tup (k := 1) (Same.sqT s1 sq) (by decide) (List.cons_ne_nil _ _) fun H' p' s2 sq2 => q H' p' kv (s1.trans s2) sq2 (DpAll.stay (.of (s1.trans s2)) nl r2)⟩
    · refine ⟨_, rfl, a, _, 0, _, rfl, rfl, Same.sqT s1 sq, at0, (by show 2 ≤ sizeLine; decide), fun p2 np2 => ?_⟩
      have s2 : Same H (upd (upd H p (.tup ([("seq" : Str), "or", "wrap"].map V.str))) p2 (.tup ([("call" : Str), "with"].map V.str))) := s1.trans (same_upd np2)
      refine ⟨p2, [("call" : Str), "with"].map V.str, rfl, .inr (.inl (.inl upd_same)), rfl, flat_strs _, _, rfl, ?_⟩
      rw [inV_strs, tag2]
      refine ite2 (fun e2 => ?_) (fun e2 => ?_)
      · obtain ⟨x, rfl⟩ := Hd.rest1 r1 e2
        exact ⟨_, rfl, _, rfl, cut_tup (k := 2) (Same.sqT s2 sq) (by decide) (List.cons_ne_nil _ _) fun H' p' s3 sq3 => q H' p' kv (s2.trans s3) sq3 (DpAll.stay (.of (s2.trans s3)) nl r2)⟩
      · have e2 : ks = [] := gd.kids0 e3 e2
        subst e2
        exact ⟨Nat.zero_le _, fun p3 np3 => q _ p3 [] (s2.trans (same_upd np3)) (.inl (.inl upd_same)) .nil⟩
end
end FS

set_option Elab.async false
set_option linter.all false
set_option maxRecDepth 100000
set_option maxHeartbeats 4000000
namespace FS
open PySem PySem.Spec PyProof.Rows L2
section
variable {P : Program} {w : World} {K : PySem.W.Frag} {mg : Str → Option Value} {base : Heap}
abbrev Nkinds_in : List Str := ["part"]
theorem sckinds_in : FnScope Nkinds_in ["part"] (defScope skinds_in) := ⟨rfl, rfl, rfl, by decide +kernel, rfl, by decide +kernel, by decide +kernel⟩
theorem ok_kinds_in {f : Addr} {fd : FuncData} (F : Fun K "kinds_in" "kinds_in" skinds_in f fd) (T : Nm K mg) (Cparts_in : Cal P w K mg base 1 "parts_in" ["part"] (spParts K)) : FnOk P w K mg base CX0 3 f fd ["part"] (spKinds K) := by
  have nd := sckinds_in.nd
  refine F.ok sckinds_in (fun vs H Q E h => ?_) (fun cdv A outer s H vs Q E hr h => ?_)
  · obtain ⟨own, v, t, rfl, dp, gd, few, q⟩ := h
    rfl
  · obtain ⟨own, v, t, rfl, dp, gd, few, q⟩ := h
    obtain ⟨aK, gK, sK⟩ := T.g_KINDS
    refine ⟨_, (pss_cons (ps_if (pt_cmpR op_eq (pe_ix ix_tup (pv 0) pe_int (fun _ _ => rfl)) pe_str (nomark _))
  (pss_one (ps_ret (pe_tup (pa_cons (pe_tup (pa_cons pe_str pa_nil)) (pa_cons (pe_tup (pa_cons pe_str pa_nil)) pa_nil)))))
  pss_nil)
  (pss_cons (ps_if (pt_cmpR op_in_seq (pe_ix ix_tup (pv 0) pe_int (fun _ _ => rfl)) (pe_tup (pa_cons pe_str (pa_cons pe_str pa_nil))) (by rfl))
  (pss_one (ps_ret (pe_op op_repA (pe_tup (pa_cons (pe_glob (v := .ref aK) (by rfl) gK rfl) pa_nil)) (pe_callB call_len (by rfl) T.b_len PySem.boot_len (pa_cons (pe_own Cparts_in (hr.mono (by decide)) (by rfl) (pa_cons (pv 0) pa_nil)) pa_nil)))))
  pss_nil)
  (pss_one (ps_ret (pe_op op_repA (pe_tup (pa_cons (pe_tup (pa_cons pe_str pa_nil)) pa_nil)) (pe_callB call_len (by rfl) T.b_len PySem.boot_len (pa_cons (pe_own Cparts_in (hr.mono (by decide)) (by rfl) (pa_cons (pv 0) pa_nil)) pa_nil))))))), ?_⟩

    obtain ⟨h, ks⟩ := t
    obtain ⟨a, rs, kv, rfl, sq, r1, r2⟩ := tm_open dp
    have few2 : ks.length ≤ 100 := few
    have blk : ∀ {H p}, SqT K H p [V.str "block"] → Dp K H (.ref p) (kindsD [false]) := fun s => .tup s (.cons (.str _) .nil)
    have wrp : ∀ {H p}, SqT K H p [V.str "wrap"] → Dp K H (.ref p) (kindsD [true]) := fun s => .tup s (.cons (.str _) .nil)
    have both : ∀ {H}, Dp K H (.ref aK) (kindsD [false, true]) := fun {H} => .tup (sK H) (.cons (.str _) (.cons (.str _) .nil))
    refine ⟨_, rfl, a, _, 0, _, rfl, rfl, sq, at0, rfl, _, rfl, ?_⟩
    rw [tag_dec h (j := 5)]
    refine ite2 (fun e5 => ?_) (fun e5 => ?_)
    · have hw : h = .wrp := by
        have e6 := of_decide_eq_true e5
        cases h <;> first | rfl | (simp [Hd.num] at e6)
      subst hw
      refine ⟨by show 1 ≤ sizeLine; decide, fun p1 n1 => ?_⟩
      refine ⟨by show 1 ≤ sizeLine; decide, fun p2 n2 => ?_⟩
      refine ⟨by show 2 ≤ sizeLine; decide, fun p3 n3 => ?_⟩
      have s1 := same_upd (o := .tup [V.str "wrap"]) n1
      have s2 := same_upd (o := .tup [V.str "block"]) n2
      have s3 := same_upd (o := .tup [V.ref p1, V.ref p2]) n3
      exact q _ p3 _ (s1.trans (s2.trans s3)) (.inl (.inl upd_same)) (.cons (wrp (Same.sqT (s2.trans s3) (.inl (.inl upd_same)))) (.cons (blk (Same.sqT s3 (.inl (.inl upd_same)))) .nil))
    · refine ⟨_, rfl, a, _, 0, _, rfl, rfl, sq, at0, by show 2 ≤ sizeLine; decide, fun p np => ?_⟩
      have s1 : Same H (upd H p (.tup ([("call" : Str), "with"].map V.str))) := same_upd np
      refine ⟨p, [("call" : Str), "with"].map V.str, rfl, .inr (.inl (.inl upd_same)), rfl, flat_strs _, _, rfl, ?_⟩
      rw [inV_strs, tag2]
      have len : ∀ {H xs}, DpAll K H xs (datas ks) → xs.length = ks.length := fun r => by rw [DpAll.len r, datas_len]
      refine ite2 (fun e2 => ?_) (fun e2 => ?_)
      · refine ⟨by show 1 ≤ sizeLine; decide, fun p1 n1 => ?_⟩
        have s2 := s1.trans (same_upd (o := .tup [V.ref aK]) n1)
        refine ⟨_, rfl, own, _, _, rfl, Dp.stay (.of s2) (Tm.noL _) dp, gd, fun H2 p2 kv2 s3 sq2 r3 => ?_⟩
        have hl : ((kv2.length : Nat) : Int) = (ks.length : Int) := by rw [len r3]
        refine ⟨_, _, rfl, .inr ⟨_, sq2, rfl⟩, ?_⟩
        rw [hl]
        refine ⟨p1, ks.length, [V.ref aK], rfl, rfl, Same.sqT s3 (.inl (.inl upd_same)), List.cons_ne_nil _ _, by omega, by show 1 ≤ 1000; decide, fun p4 H4 s4 sq4 => q _ p4 _ (s2.trans (s3.trans s4)) sq4 ?_⟩
        rw [rep_flat]
        cases h <;> first | (show DpAll K H4 _ ((List.replicate ks.length [false, true]).map kindsD); rw [List.map_replicate]; exact DpAll.rep both _) | cases e2
      · refine ⟨by show 1 ≤ sizeLine; decide, fun p0 n0 => ?_⟩
        have s2 := s1.trans (same_upd (o := .tup [V.str "block"]) n0)
        refine ⟨by show 1 ≤ sizeLine; decide, fun p1 n1 => ?_⟩
        have s2b := same_upd (o := .tup [V.ref p0]) n1
        have s3 := s2.trans s2b
        refine ⟨_, rfl, own, _, _, rfl, Dp.stay (.of s3) (Tm.noL _) dp, gd, fun H2 p2 kv2 s4 sq2 r3 => ?_⟩
        have hl : ((kv2.length : Nat) : Int) = (ks.length : Int) := by rw [len r3]
        refine ⟨_, _, rfl, .inr ⟨_, sq2, rfl⟩, ?_⟩
        rw [hl]
        refine ⟨p1, ks.length, [V.ref p0], rfl, rfl, Same.sqT s4 (.inl (.inl upd_same)), List.cons_ne_nil _ _, by omega, by show 1 ≤ 1000; decide, fun p4 H4 s5 sq4 => q _ p4 _ (s3.trans (s4.trans s5)) sq4 ?_⟩
        rw [rep_flat]
        have b := blk (H := H4) (p := p0) (Same.sqT (s2b.trans (s4.trans s5)) (.inl (.inl upd_same)))
        cases h <;> first | exact absurd rfl e2 | exact absurd (decide_eq_true rfl) e5 | (show DpAll K H4 _ ((List.replicate ks.length [false]).map kindsD); rw [List.map_replicate]; exact DpAll.rep b _)
end
end FS

set_option Elab.async false
set_option linter.all false
set_option maxRecDepth 100000
set_option maxHeartbeats 4000000
namespace FS
open PySem PySem.Spec PyProof.Rows L2
section
variable {P : Program} {w : World} {K : PySem.W.Frag} {mg : Str → Option Value} {base : Heap}
abbrev Nall_parts : List Str := ["part", "found", "inner"]
theorem scall_parts : FnScope Nall_parts ["part"] (defScope sall_parts) := ⟨rfl, rfl, rfl, by decide +kernel, rfl, by decide +kernel, by decide +kernel⟩
theorem ok_all_parts {n k : Nat} (hk : 1 ≤ k) {f : Addr} {fd : FuncData} (F : Fun K "all_parts" "all_parts" sall_parts f fd) (T : Nm K mg) (Cparts_in : Cal P w K mg base 1 "parts_in" ["part"] (spParts K)) (Call_parts : Cal P w K mg base k "all_parts" ["part"] (spAll K n)) : FnOk P w K mg base CX0 (k + 1) f fd ["part"] (spAll K (n + 1)) := by
  have nd := scall_parts.nd
  refine F.ok scall_parts (fun vs H Q E h => ?_) (fun cdv A outer s H vs Q E hr h => ?_)
  · obtain ⟨own, v, t, rfl, _⟩ := h
    rfl
  · obtain ⟨own, v, t, rfl, dp, gd, low, few, q⟩ := h
    refine ⟨_, (pss_cons (ps_set (i := 1) nd rfl (Or.inl rfl) (pe_lst (pa_cons (pv 0) pa_nil)))
  (pss_cons (ps_for PassesOwn.never rfl (pi_tup (pe_own Cparts_in (hr.mono hk) (by rfl) (pa_cons (pv 0) pa_nil))) (pg_name (i := 2) nd rfl (Or.inl rfl))
  (pss_one (ps_expr (pe_bm PySem.F.plainAttrs_list PySem.F.slot_list_extend PySem.F.type_list_extend mt_extend (pv 1) (pa_cons (pe_own Call_parts hr (by rfl) (pa_cons (pv 2) pa_nil)) pa_nil)))))
  (pss_one (ps_ret (pv 1))))), ?_⟩
    refine ⟨_, rfl, by show 1 ≤ sizeLine; decide, fun p np => ?_⟩
    have s1 := same_upd (o := .lst [v]) np
    have h1 : upd H p (.lst [v]) p = some (.lst [v]) := upd_same
    generalize upd H p (.lst [v]) = H1 at s1 h1 ⊢
    refine ⟨_, rfl, own, v, t, rfl, Dp.stay (.of s1) t.noL dp, gd, fun H2 p2 kv s2 sq2 r2 => ?_⟩
    have cnt := count_eq t
    refine ⟨p2, rfl, ⟨kv, sq2⟩, for_tup (xs := kv) (fun i σ H' => (∃ y, σ = [some v, some (.ref p), y]) ∧ Same H H' ∧ Stay H2 H' ∧ ∃ xs, H' p = some (.lst xs) ∧ DpAll K H' xs (datas (t :: alls (t.kids.take i)))) ?_ ?_ ?_ ?_⟩
    · exact ⟨⟨_, rfl⟩, s1.trans s2, .refl _, [v], s2 _ _ h1, .cons (Dp.stay (.of (s1.trans s2)) t.noL dp) .nil⟩
    · rintro i σ H' hi ⟨_, _, st, _⟩
      exact st.sqT sq2
    · rintro i x σ H' hx ⟨⟨y, rfl⟩, sm, st, xs, hp, rx⟩
      obtain ⟨u, hu, du⟩ := DpAll.kid r2 hx
      have mu : u ∈ t.kids := List.mem_of_getElem? hu
      have du2 : Dp K H' x u.data := Dp.stay st u.noL du
      have c1 := counts_take t.kids (i + 1)
      rw [take_more hu, counts_app] at c1
      have c2 : counts [u] = u.count := by
        rw [counts_cons]
        rfl
      refine ⟨_, rfl, .inl ⟨rfl, xs, .inl (.inl hp)⟩, _, rfl, own, x, u, rfl, du2, gd.kid mu, by have := deep_kid mu; omega, by omega, fun H3 b zs s3 nb hb rz => ?_⟩
      refine ⟨p, b, xs, zs, rfl, rfl, s3 _ _ hp, hb, ?_, ?_⟩
      · rw [DpAll.len rx, DpAll.len rz, datas_len, datas_len]
        have e1 : (t :: alls (t.kids.take i)).length = counts (t.kids.take i) + 1 := rfl
        have e2 : u.all.length = u.count := rfl
        rw [e1, e2, sizeLine_eq]
        omega
      · have ss := Stay.set (ys := xs ++ zs) (s3 _ _ hp)
        refine ⟨⟨_, rfl⟩, Same.set (sm.trans s3) np, (st.trans (.of s3)).trans ss, xs ++ zs, upd_same, ?_⟩
        rw [take_more hu, alls_app, alls_one, ← List.cons_append, datas_app]
        exact DpAll.app (DpAll.stay ((Stay.of s3).trans ss) (noL_datas _) rx) (DpAll.stay ss (noL_datas _) rz)
    · rintro σ H' ⟨⟨y, rfl⟩, sm, st, xs, hp, rx⟩
      refine ⟨_, rfl, q H' p xs sm np hp ?_⟩
      have l : kv.length = t.kids.length := by rw [DpAll.len r2, datas_len]
      rw [l, List.take_length] at rx
      rw [all_eq]
      exact rx
theorem ok_all_parts0 {f : Addr} {fd : FuncData} (F : Fun K "all_parts" "all_parts" sall_parts f fd) : FnOk P w K mg base CX0 1 f fd ["part"] (spAll K 0) := by
  have no : ∀ {vs H Q E}, spAll K 0 vs H Q E → False := fun {vs H Q E} h => by
    obtain ⟨own, v, t, rfl, dp, gd, low, _⟩ := h
    obtain ⟨hd, ks⟩ := t
    have : deeps ks + 1 ≤ 0 := low
    omega
  exact F.ok scall_parts (fun vs H Q E h => (no h).elim) (fun cdv A outer s H vs Q E hr h => (no h).elim)
theorem no_all_parts {f : Addr} {fd : FuncData} (F : Fun K "all_parts" "all_parts" sall_parts f fd) (T : Nm K mg) (C : Cal P w K mg base 1 "parts_in" ["part"] (spParts K)) (m : mg "all_parts" = some (.ref f)) (kp : PySem.W.keepIn K (.ref f) = true) (b : Binds K fd ["part"] []) :
    ∀ n, Cal P w K mg base (1 + n) "all_parts" ["part"] (spAll K n)
  | 0 => ⟨f, fd, ok_all_parts0 F, m, kp, b⟩
  | n + 1 => ⟨f, fd, ok_all_parts (k := 1 + n) (by omega) F T C (no_all_parts F T C m kp b n), m, kp, b⟩
end
end FS

set_option Elab.async false
set_option linter.all false
set_option maxRecDepth 100000
set_option maxHeartbeats 4000000
namespace FS
open PySem PySem.Spec PyProof.Rows L2
section
variable {P : Program} {w : World} {K : PySem.W.Frag} {mg : Str → Option Value} {base : Heap}
abbrev Nis_name : List Str := ["value", "letter"]
theorem scis_name : FnScope Nis_name ["value"] (defScope sis_name) := ⟨rfl, rfl, rfl, by decide +kernel, rfl, by decide +kernel, by decide +kernel⟩
theorem ok_is_name {f : Addr} {fd : FuncData} (F : Fun K "is_name" "is_name" sis_name f fd) (T : Nm K mg) : FnOk P w K mg base CX0 1 f fd ["value"] (spName) := by
  have nd := scis_name.nd
  refine F.ok scis_name (fun vs H Q E h => ?_) (fun cdv A outer s H vs Q E hr h => ?_)
  · obtain ⟨z, rfl, hl, q⟩ := h
    rfl
  · obtain ⟨z, rfl, hl, q⟩ := h
    obtain ⟨t8, g8⟩ := T.g_MAX_LETTERS
    refine ⟨_, (pss_cons (ps_if (PW.pt (pw_or (pt_not (pt_val (pe_callB call_isi (by rfl) T.b_isinstance (by decide +kernel) (pa_cons (pv 0) (pa_cons (pe_bltn (v := .ty "str") (by rfl) T.b_str (by decide +kernel) rfl) pa_nil))))) (pw_or1 (pt_not (pt_chain op_le op_le pe_int (pe_callB call_len (by rfl) T.b_len PySem.boot_len (pa_cons (pv 0) pa_nil)) (pe_glob (v := .int 8) (by rfl) g8 ⟨_, rfl⟩))))))
  (pss_one (ps_ret pe_bl))
  pss_nil)
  (pss_one (ps_ret (pe_callB (cr_all rfl) (by rfl) T.b_all (by decide +kernel) (pa_cons (pe_lc (own := [("letter", 1)]) (g := gName 1) (tt := tYes) rfl nd (pi_str (pv 0)) (blkOk_by (own := [("letter", 1)]) (N := Nis_name) (sc := defScope sis_name) (by decide +kernel)) (fun _ _ _ _ _ => (pg_name (i := 1) nd rfl (Or.inl rfl))) (fun _ _ _ _ _ => pts_nil) (fun _ _ _ _ _ => (pe_chain op_le_str op_le_str pe_str (pv 1) pe_str))) pa_nil))))), ?_⟩

    refine ⟨_, rfl, _, _, _, _, true, rfl, .ty "str", .base (.str z), kit_ty (show kitB "str" "str" = some true by decide +kernel), true, rfl, ?_⟩
    have hz : z.length ≤ sizeLine := Nat.le_trans hl (by decide)
    have ez : z.length = z.cps.toList.length := by simp [Str.length]
    refine iteF ?_
    refine ⟨_, rfl, _, _, rfl, ⟨hz, rfl⟩, _, _, rfl, rfl, _, rfl, ite2 (fun e1 => ?_) (fun e1 => ?_)⟩
    · refine ⟨_, _, rfl, rfl, _, rfl, ite2 (fun e2 => ?_) (fun e2 => ?_)⟩
      · have n8 : ¬ (z.length : Int) ≤ 8 := by simpa using e2
        have w0 : wordB z = false := by
          show (decide _ && _) = false
          rw [decide_eq_false (fun h => n8 h.2)]
          rfl
        have q1 := q H (.refl H)
        rw [w0] at q1
        exact q1
      · have n8 : (z.length : Int) ≤ 8 := by simpa using e2
        have n1 : 1 ≤ (z.length : Int) := of_decide_eq_true e1
        have w0 : wordB z = z.cps.toList.all sgn := by
          show (decide _ && _) = _
          rw [decide_eq_true ⟨n1, n8⟩]
          rfl
        refine ⟨_, rfl, z, rfl, fun D nD => ?_⟩
        refine lc_it walk_str (fun i H' => Same H H' ∧ H' D = some (.lst (((z.cps.toList.take i).map sgn).map V.bl))) ⟨same_upd nD, upd_same⟩ (fun _ _ _ _ => trivial) (fun i x H1 H2 hi hp hy => ?_) (fun H' hp => ?_)
        · obtain ⟨rfl, c, hc, rfl⟩ := hy
          obtain ⟨sm, eD⟩ := hp
          refine ⟨rfl, ?_⟩
          have fin : ∀ b : Bool, b = sgn c → ∃ acc, H2 D = some (.lst acc) ∧ acc.length < sizeLine ∧ Same H (upd H2 D (.lst (acc ++ [V.bl b]))) ∧ (upd H2 D (.lst (acc ++ [V.bl b]))) D = some (.lst (((z.cps.toList.take (i + 1)).map sgn).map V.bl)) := fun b hb => by
            refine ⟨_, eD, ?_, fun p o e => ?_, ?_⟩
            · rw [List.length_map, List.length_map, List.length_take]
              exact Nat.lt_of_le_of_lt (Nat.min_le_right _ _) (small1000 (by omega))
            · rw [upd_ne (ne_of_none e nD)]
              exact sm _ _ e
            · rw [upd_same, take_one sgn (getE hc), List.map_append, hb]
              rfl
          refine ⟨_, rfl, _, _, rfl, rfl, _, rfl, ite2 (fun e3 => ?_) (fun e3 => ?_)⟩
          · refine ⟨_, _, rfl, rfl, fin _ ?_⟩
            unfold sgn
            rw [e3, Bool.true_and]
          · refine fin _ ?_
            unfold sgn
            rw [Bool.not_eq_true _ |>.mp e3, Bool.false_and]
        · obtain ⟨sm, eD⟩ := hp
          refine ⟨D, _, rfl, .inl (.inl eD), ?_⟩
          have e4 : z.cps.toList.take z.cps.size = z.cps.toList := List.take_of_length_le (by simp)
          rw [e4, all_map, ← w0]
          exact q _ sm
    · have n1 : ¬ 1 ≤ (z.length : Int) := by simpa using e1
      have w0 : wordB z = false := by
        show (decide _ && _) = false
        rw [decide_eq_false (fun h => n1 h.1)]
        rfl
      have q1 := q H (.refl H)
      rw [w0] at q1
      exact ⟨_, rfl, q1⟩
end
end FS

set_option Elab.async false
set_option linter.all false
set_option maxRecDepth 100000
set_option maxHeartbeats 4000000
namespace FS
open PySem PySem.Spec PyProof.Rows L2
section
variable {P : Program} {w : World} {K : PySem.W.Frag} {mg : Str → Option Value} {base : Heap}
abbrev Nis_integer_in : List Str := ["value", "least", "greatest"]
theorem scis_integer_in : FnScope Nis_integer_in ["value", "least", "greatest"] (defScope sis_integer_in) := ⟨rfl, rfl, rfl, by decide +kernel, rfl, by decide +kernel, by decide +kernel⟩
theorem ok_is_integer_in {f : Addr} {fd : FuncData} (F : Fun K "is_integer_in" "is_integer_in" sis_integer_in f fd) (T : Nm K mg) : FnOk P w K mg base CX0 2 f fd ["value", "least", "greatest"] (spIntIn) := by
  have nd := scis_integer_in.nd
  refine F.ok scis_integer_in (fun vs H Q E h => ?_) (fun cdv A outer s H vs Q E hr h => ?_)
  · obtain ⟨i, a, b, rfl, q⟩ := h
    rfl
  · obtain ⟨i, a, b, rfl, q⟩ := h
    skip
    refine ⟨_, (pss_one (ps_ret (pe_and (pe_callB call_isi (by rfl) T.b_isinstance (by decide +kernel) (pa_cons (pv 0) (pa_cons (pe_bltn (v := .ty "int") (by rfl) T.b_int (by decide +kernel) rfl) pa_nil))) (pe_and (pe_not (pe_callB call_isi (by rfl) T.b_isinstance (by decide +kernel) (pa_cons (pv 0) (pa_cons (pe_bltn (v := .ty "bool") (by rfl) T.b_bool (by decide +kernel) rfl) pa_nil)))) (pe_one (pe_chain op_le op_le (pv 1) (pv 0) (pv 2))))))), ?_⟩

    refine ⟨_, rfl, _, _, _, _, true, rfl, .ty "int", .base (.int i), kit_ty (show kitB "int" "int" = some true by decide +kernel), true, rfl, ?_⟩
    refine ⟨_, rfl, _, _, _, _, false, rfl, .ty "bool", .base (.int i), kit_ty (show kitB "int" "bool" = some false by decide +kernel), false, rfl, ?_⟩
    refine ⟨true, rfl, ?_⟩
    refine iteT ?_
    refine ⟨_, rfl, _, rfl, _, _, rfl, rfl, _, rfl, ite2 (fun e1 => ?_) (fun e1 => ?_)⟩
    · refine ⟨_, rfl, _, _, rfl, rfl, ?_⟩
      rw [e1, Bool.true_and] at q
      exact q
    · rw [Bool.not_eq_true _ |>.mp e1, Bool.false_and] at q
      exact q
end
end FS

set_option Elab.async false
set_option linter.all false
set_option maxRecDepth 100000
set_option maxHeartbeats 4000000
namespace FS
open PySem PySem.Spec PyProof.Rows L2
section
variable {P : Program} {w : World} {K : PySem.W.Frag} {mg : Str → Option Value} {base : Heap}
abbrev Nis_deed_table : List Str := ["value", "entry"]
theorem scis_deed_table : FnScope Nis_deed_table ["value"] (defScope sis_deed_table) := ⟨rfl, rfl, rfl, by decide +kernel, rfl, by decide +kernel, by decide +kernel⟩
theorem ok_is_deed_table {f : Addr} {fd : FuncData} (F : Fun K "is_deed_table" "is_deed_table" sis_deed_table f fd) (T : Nm K mg) (Cis_integer_in : Cal P w K mg base 2 "is_integer_in" ["value", "least", "greatest"] spIntIn) : FnOk P w K mg base CX0 3 f fd ["value"] (spTable K) := by
  have nd := scis_deed_table.nd
  refine F.ok scis_deed_table (fun vs H Q E h => ?_) (fun cdv A outer s H vs Q E hr h => ?_)
  · obtain ⟨v, t, rfl, dp, few, q⟩ := h
    rfl
  · obtain ⟨v, t, rfl, dp, few, q⟩ := h
    obtain ⟨t3, g3⟩ := T.g_MAX_MODES
    let eb : Option Nat → Bool := fun e => match e with | none => true | some n => decide (n < 3)
    refine ⟨_, (pss_cons (ps_if (PW.pt (pw_or (pt_not (pt_val (pe_callB call_isi (by rfl) T.b_isinstance (by decide +kernel) (pa_cons (pv 0) (pa_cons (pe_bltn (v := .ty "tuple") (by rfl) T.b_tuple (by decide +kernel) rfl) pa_nil))))) (pw_or1 (pt_not (pt_chain op_le op_le pe_int (pe_callB call_len (by rfl) T.b_len PySem.boot_len (pa_cons (pv 0) pa_nil)) (pe_glob (v := .int 3) (by rfl) g3 ⟨_, rfl⟩))))))
  (pss_one (ps_ret pe_bl))
  pss_nil)
  (pss_one (ps_ret (pe_callB (cr_all rfl) (by rfl) T.b_all (by decide +kernel) (pa_cons (pe_lc (own := [("entry", 1)]) (g := gName 1) (tt := tYes) rfl nd (pi_tup (pv 0)) (blkOk_by (own := [("entry", 1)]) (N := Nis_deed_table) (sc := defScope sis_deed_table) (by decide +kernel)) (fun _ _ _ _ _ => (pg_name (i := 1) nd rfl (Or.inl rfl))) (fun _ _ _ _ _ => pts_nil) (fun _ _ _ _ _ => (pe_or (pe_cmpR op_isN (pv 1) pe_non (nomark _)) (pe_one (pe_own Cis_integer_in (hr.mono (by decide)) (by rfl) (pa_cons (pv 1) (pa_cons pe_int (pa_cons (pe_op op_sub (pe_glob (v := .int 3) (by rfl) g3 ⟨_, rfl⟩) pe_int) pa_nil)))))))) pa_nil))))), ?_⟩

    obtain ⟨a, xs, rfl, sq, r⟩ := Dp.tup_inv dp
    have l : xs.length = t.length := by rw [DpAll.len r, List.length_map]
    have tb : tableB t = (decide (1 ≤ t.length ∧ t.length ≤ 3) && t.all eb) := rfl
    refine ⟨_, rfl, _, _, _, _, true, rfl, .ty "tuple", ty_tup sq, kit_ty (by decide +kernel), true, rfl, ?_⟩
    refine iteF ?_
    refine ⟨_, rfl, _, _, rfl, .inr ⟨_, sq, rfl⟩, _, _, rfl, rfl, _, rfl, ite2 (fun e1 => ?_) (fun e1 => ?_)⟩
    · refine ⟨_, _, rfl, rfl, _, rfl, ite2 (fun e2 => ?_) (fun e2 => ?_)⟩
      · have n8 : ¬ (xs.length : Int) ≤ 3 := by simpa using e2
        have w0 : tableB t = false := by
          rw [tb, decide_eq_false (fun h => n8 (by rw [l]; omega))]
          rfl
        have q1 := q H (.refl H)
        rw [w0] at q1
        exact q1
      · have n8 : (xs.length : Int) ≤ 3 := by simpa using e2
        have n1 : 1 ≤ (xs.length : Int) := of_decide_eq_true e1
        have w0 : tableB t = t.all eb := by
          rw [tb, decide_eq_true ⟨by omega, by omega⟩]
          rfl
        refine ⟨_, rfl, a, rfl, ⟨xs, sq⟩, fun D nD => ?_⟩
        refine lc_tup (xs := xs) (fun i H' => Same H H' ∧ H' D = some (.lst (((t.take i).map eb).map V.bl))) ⟨same_upd nD, upd_same⟩ (fun i H' hi hp => Same.sqT hp.1 sq) (fun i x H2 hx hp => ?_) (fun H' hp => ?_)
        · obtain ⟨sm, eD⟩ := hp
          obtain ⟨d, hd, dx⟩ := DpAll.get r hx
          rw [List.getElem?_map] at hd
          obtain ⟨e, he, rfl⟩ := Option.map_eq_some_iff.mp hd
          refine ⟨rfl, ?_⟩
          have fin : ∀ b : Bool, b = eb e → ∃ acc, H2 D = some (.lst acc) ∧ acc.length < sizeLine ∧ Same H (upd H2 D (.lst (acc ++ [V.bl b]))) ∧ (upd H2 D (.lst (acc ++ [V.bl b]))) D = some (.lst (((t.take (i + 1)).map eb).map V.bl)) := fun b hb => by
            refine ⟨_, eD, ?_, Same.set sm nD, ?_⟩
            · rw [List.length_map, List.length_map, List.length_take]
              exact Nat.lt_of_le_of_lt (Nat.min_le_right _ _) (small1000 (by omega))
            · rw [upd_same, take_one eb he, List.map_append, hb]
              rfl
          cases e with
          | none =>
            cases dx
            refine ⟨_, rfl, ?_⟩
            exact ⟨rfl, _, rfl, iteT (fin true rfl)⟩
          | some n =>
            cases dx
            refine ⟨_, rfl, ?_⟩
            refine ⟨rfl, _, rfl, iteF ?_⟩
            refine ⟨_, rfl, _, _, rfl, rfl, ?_⟩
            refine ⟨(n : Int), 0, 2, rfl, ?_⟩
            refine fin _ ?_
            show (decide ((0:Int) ≤ (n : Int)) && decide ((n : Int) ≤ 2)) = decide (n < 3)
            rw [decide_eq_true (by omega : (0:Int) ≤ (n : Int)), Bool.true_and]
            exact decide_eq_decide.mpr (by omega)
        · obtain ⟨sm, eD⟩ := hp
          refine ⟨D, _, rfl, .inl (.inl eD), ?_⟩
          rw [l, List.take_length]
          have q1 := q H' sm
          have e4 : (t.map eb).all id = t.all eb := by
            rw [List.all_map]
            rfl
          rw [w0] at q1
          rw [e4]
          exact q1
    · have n1 : ¬ 1 ≤ (xs.length : Int) := by simpa using e1
      have w0 : tableB t = false := by
        rw [tb, decide_eq_false (fun h => n1 (by omega))]
        rfl
      have q1 := q H (.refl H)
      rw [w0] at q1
      exact ⟨_, rfl, q1⟩
end
end FS

set_option Elab.async false
set_option linter.all false
set_option maxRecDepth 100000
set_option maxHeartbeats 4000000
namespace FS
open PySem PySem.Spec PyProof.Rows L2
section
variable {P : Program} {w : World} {K : PySem.W.Frag} {mg : Str → Option Value} {base : Heap}
abbrev Nhas_form : List Str := ["part", "parameters", "tag", "many"]
theorem schas_form : FnScope Nhas_form ["part", "parameters"] (defScope shas_form) := ⟨rfl, rfl, rfl, by decide +kernel, rfl, by decide +kernel, by decide +kernel⟩
theorem ok_has_form {f : Addr} {fd : FuncData} (F : Fun K "has_form" "has_form" shas_form f fd) (T : Nm K mg) (Cis_name : Cal P w K mg base 1 "is_name" ["value"] spName) (Cis_deed_table : Cal P w K mg base 3 "is_deed_table" ["value"] (spTable K)) : FnOk P w K mg base CX0 4 f fd ["part", "parameters"] (spForm K) := by
  have nd := schas_form.nd
  refine F.ok schas_form (fun vs H Q E h => ?_) (fun cdv A outer s H vs Q E hr h => ?_)
  · obtain ⟨own, v, pw, t, rfl, tm, dw, q⟩ := h
    rfl
  · obtain ⟨own, v, pw, t, rfl, tm, dw, q⟩ := h
    skip
    refine ⟨_, (pss_cons (ps_par (i := 2) (j := 3) (by rfl) nd rfl rfl (by decide) rfl rfl (pa_cons (pe_ix ix_tup (pv 0) pe_int (fun _ _ => rfl)) (pa_cons (pe_callB call_len (by rfl) T.b_len PySem.boot_len (pa_cons (pv 0) pa_nil)) pa_nil)) (by rfl))
  (pss_cons (ps_if (pt_cmpR op_eq (pv 2) pe_str (nomark _))
  (pss_one (ps_ret (pe_and (pe_cmpR op_eq (pv 3) pe_int (nomark _)) (pe_and (pe_own Cis_name (hr.mono (by decide)) (by rfl) (pa_cons (pe_ix ix_tup (pv 0) pe_int (fun _ _ => rfl)) pa_nil)) (pe_one (pe_own Cis_deed_table (hr.mono (by decide)) (by rfl) (pa_cons (pe_ix ix_tup (pv 0) pe_int (fun _ _ => rfl)) pa_nil)))))))
  pss_nil)
  (pss_cons (ps_if (pt_cmpR op_eq (pv 2) pe_str (nomark _))
  (pss_one (ps_ret (pe_and (pe_cmpR op_eq (pv 3) pe_int (nomark _)) (pe_one (pe_cmpR (op_inT (u65 hr)) (pe_tup (pa_cons (pe_ix ix_tup (pv 0) pe_int (fun _ _ => rfl)) (pa_cons pe_str pa_nil))) (pv 1) (by rfl))))))
  pss_nil)
  (pss_cons (ps_if (pt_cmpR op_eq (pv 2) pe_str (nomark _))
  (pss_one (ps_ret (pe_and (pe_cmpR op_eq (pv 3) pe_int (nomark _)) (pe_one (pe_cmpR (op_inT (u65 hr)) (pe_tup (pa_cons (pe_ix ix_tup (pv 0) pe_int (fun _ _ => rfl)) (pa_cons pe_str pa_nil))) (pv 1) (by rfl))))))
  pss_nil)
  (pss_cons (ps_if (pt_cmpR op_in_seq (pv 2) (pe_tup (pa_cons pe_str (pa_cons pe_str pa_nil))) (by rfl))
  (pss_one (ps_ret (pe_and (pe_cmpR op_gt (pv 3) pe_int (nomark _)) (pe_one (pe_own Cis_name (hr.mono (by decide)) (by rfl) (pa_cons (pe_ix ix_tup (pv 0) pe_int (fun _ _ => rfl)) pa_nil))))))
  pss_nil)
  (pss_cons (ps_if (pt_cmpR op_eq (pv 2) pe_str (nomark _))
  (pss_one (ps_ret (pe_cmpR op_eq (pv 3) pe_int (nomark _))))
  pss_nil)
  (pss_cons (ps_if (pt_cmpR op_eq (pv 2) pe_str (nomark _))
  (pss_one (ps_ret (pe_cmpR op_gt (pv 3) pe_int (nomark _))))
  pss_nil)
  (pss_one (ps_ret (pe_cmpR op_eq (pv 2) pe_str (nomark _))))))))))), ?_⟩

    obtain ⟨h, ks⟩ := t
    obtain ⟨a, rs, kv, rfl, sq, r1, r2⟩ := tm_open tm.dp
    have lk : kv.length = ks.length := by rw [DpAll.len r2, datas_len]
    have gd := tm.good
    have po := tm.po
    refine ⟨_, rfl, a, _, 0, _, rfl, rfl, sq, at0, _, rfl, _, _, rfl, .inr ⟨_, sq, rfl⟩, _, _, rfl, ?_⟩
    have fin : ∀ {H'}, Same H H' → Q (.bl true) H' := fun s => q _ s
    cases h with
    | deed w tb =>
      have e0 := gd.leaf rfl
      subst e0
      cases r2
      cases r1 with
      | cons x1 r => cases r with
        | cons x2 r =>
        cases r
        cases Dp.str_inv x1
        cases gd with
        | mk ok kk kids =>
          have o1 := Bool.and_eq_true_iff.mp ok
          have o2 := Bool.and_eq_true_iff.mp o1.1
          have o3 := Bool.and_eq_true_iff.mp o2.1
          have tbt : tableB tb = true := by
            unfold tableB
            exact Bool.and_eq_true_iff.mpr ⟨o3.2, o2.2⟩
          have tl := of_decide_eq_true o3.2
          refine ⟨_, rfl, rfl, _, rfl, iteT ?_⟩
          refine ⟨_, rfl, rfl, _, rfl, iteT ?_⟩
          refine ⟨_, rfl, a, _, 1, _, rfl, rfl, sq, at1, w, rfl, by have := (word_ok o3.1).2; omega, fun H1 s1 => ?_⟩
          rw [o3.1]
          refine ⟨_, rfl, iteT ?_⟩
          refine ⟨_, rfl, a, _, 2, _, rfl, rfl, Same.sqT s1 sq, at2, _, tb, rfl, Dp.stay (.of s1) (entries_plain tb).1 x2, by omega, fun H2 s2 => ?_⟩
          rw [tbt]
          exact fin (s1.trans s2)
    | run x =>
      have e0 := gd.leaf rfl
      subst e0
      cases r2
      cases r1 with
      | cons x1 r =>
        cases r
        cases Dp.str_inv x1
        cases gd with
        | mk ok kk kids =>
          have o1 := of_decide_eq_true (Bool.and_eq_true_iff.mp ok).1
          refine ⟨_, rfl, rfl, _, rfl, iteF ?_⟩
          refine ⟨_, rfl, rfl, _, rfl, iteT ?_⟩
          refine ⟨_, rfl, rfl, _, rfl, iteT ?_⟩
          refine ⟨_, rfl, a, _, 1, _, rfl, rfl, sq, at1, by show 2 ≤ sizeLine; decide, fun p np => ?_⟩
          have s1 := same_upd (o := .tup [V.str x, V.str "block"]) np
          refine ⟨_, rfl, parD (x, false), own.map parD, .tup (.inl (.inl upd_same)) (.cons (.str _) (.cons (.str _) .nil)), Dp.stay (.of s1) (pars_noL own) dw, par_shaped false (word_ok (po.nms _ o1)).1, pars_shaped po, ?_⟩
          have e := any_par own x false
          rw [decide_eq_true o1] at e
          rw [e]
          exact fin s1
    | own x =>
      have e0 := gd.leaf rfl
      subst e0
      cases r2
      cases r1 with
      | cons x1 r =>
        cases r
        cases Dp.str_inv x1
        cases gd with
        | mk ok kk kids =>
          have o1 := of_decide_eq_true (Bool.and_eq_true_iff.mp ok).1
          refine ⟨_, rfl, rfl, _, rfl, iteF ?_⟩
          refine ⟨_, rfl, rfl, _, rfl, iteF ?_⟩
          refine ⟨_, rfl, rfl, _, rfl, iteT ?_⟩
          refine ⟨_, rfl, rfl, _, rfl, iteT ?_⟩
          refine ⟨_, rfl, a, _, 1, _, rfl, rfl, sq, at1, by show 2 ≤ sizeLine; decide, fun p np => ?_⟩
          have s1 := same_upd (o := .tup [V.str x, V.str "wrap"]) np
          refine ⟨_, rfl, parD (x, true), own.map parD, .tup (.inl (.inl upd_same)) (.cons (.str _) (.cons (.str _) .nil)), Dp.stay (.of s1) (pars_noL own) dw, par_shaped true (word_ok (po.nms _ o1)).1, pars_shaped po, ?_⟩
          have e := any_par own x true
          rw [decide_eq_true o1] at e
          rw [e]
          exact fin s1
    | call n =>
      cases r1 with
      | cons x1 r =>
        cases r
        cases Dp.str_inv x1
        cases gd with
        | mk ok kk kids =>
          have o1 : wordB n = true := ok
          refine ⟨_, rfl, rfl, _, rfl, iteF ?_⟩
          refine ⟨_, rfl, rfl, _, rfl, iteF ?_⟩
          refine ⟨_, rfl, rfl, _, rfl, iteF ?_⟩
          refine ⟨_, rfl, by show 2 ≤ sizeLine; decide, fun p2 np2 => ?_⟩
          have s1 : Same H (upd H p2 (.tup ([("call" : Str), "with"].map V.str))) := same_upd np2
          refine ⟨p2, [("call" : Str), "with"].map V.str, rfl, .inr (.inl (.inl upd_same)), rfl, flat_strs _, _, rfl, ?_⟩
          rw [inV_strs]
          refine iteT ?_
          refine ⟨_, rfl, _, _, rfl, rfl, _, rfl, ite2 (fun _ => ?_) (fun e => absurd (decide_eq_true (by show ((_ + 1 + 1 : Nat) : Int) > 1; omega)) e)⟩
          refine ⟨_, rfl, a, _, 1, _, rfl, rfl, Same.sqT s1 sq, at1, n, rfl, by have := (word_ok o1).2; omega, fun H1 s2 => ?_⟩
          rw [o1]
          exact fin (s1.trans s2)
    | wth n =>
      cases r1 with
      | cons x1 r =>
        cases r
        cases Dp.str_inv x1
        cases gd with
        | mk ok kk kids =>
          have o1 : wordB n = true := ok
          refine ⟨_, rfl, rfl, _, rfl, iteF ?_⟩
          refine ⟨_, rfl, rfl, _, rfl, iteF ?_⟩
          refine ⟨_, rfl, rfl, _, rfl, iteF ?_⟩
          refine ⟨_, rfl, by show 2 ≤ sizeLine; decide, fun p2 np2 => ?_⟩
          have s1 : Same H (upd H p2 (.tup ([("call" : Str), "with"].map V.str))) := same_upd np2
          refine ⟨p2, [("call" : Str), "with"].map V.str, rfl, .inr (.inl (.inl upd_same)), rfl, flat_strs _, _, rfl, ?_⟩
          rw [inV_strs]
          refine iteT ?_
          refine ⟨_, rfl, _, _, rfl, rfl, _, rfl, ite2 (fun _ => ?_) (fun e => absurd (decide_eq_true (by show ((_ + 1 + 1 : Nat) : Int) > 1; omega)) e)⟩
          refine ⟨_, rfl, a, _, 1, _, rfl, rfl, Same.sqT s1 sq, at1, n, rfl, by have := (word_ok o1).2; omega, fun H1 s2 => ?_⟩
          rw [o1]
          exact fin (s1.trans s2)
    | wrp =>
      cases r1
      cases gd with
      | mk ok kk kids =>
        have o1 : ks.length = 2 := of_decide_eq_true ok
        refine ⟨_, rfl, rfl, _, rfl, iteF ?_⟩
        refine ⟨_, rfl, rfl, _, rfl, iteF ?_⟩
        refine ⟨_, rfl, rfl, _, rfl, iteF ?_⟩
        refine ⟨_, rfl, by show 2 ≤ sizeLine; decide, fun p2 np2 => ?_⟩
        have s1 : Same H (upd H p2 (.tup ([("call" : Str), "with"].map V.str))) := same_upd np2
        refine ⟨p2, [("call" : Str), "with"].map V.str, rfl, .inr (.inl (.inl upd_same)), rfl, flat_strs _, _, rfl, ?_⟩
        rw [inV_strs]
        refine iteF ?_
        refine ⟨_, rfl, rfl, _, rfl, iteT ?_⟩
        refine ⟨_, rfl, rfl, ?_⟩
        have e : ((V.str (Hd.wrp.tag) :: ([] ++ kv)).length : Int) = 3 := by
          show ((kv.length + 1 : Nat) : Int) = 3
          omega
        rw [e]
        exact fin s1
    | alt =>
      cases r1
      cases gd with
      | mk ok kk kids =>
        have o1 : 0 < ks.length := of_decide_eq_true ok
        refine ⟨_, rfl, rfl, _, rfl, iteF ?_⟩
        refine ⟨_, rfl, rfl, _, rfl, iteF ?_⟩
        refine ⟨_, rfl, rfl, _, rfl, iteF ?_⟩
        refine ⟨_, rfl, by show 2 ≤ sizeLine; decide, fun p2 np2 => ?_⟩
        have s1 : Same H (upd H p2 (.tup ([("call" : Str), "with"].map V.str))) := same_upd np2
        refine ⟨p2, [("call" : Str), "with"].map V.str, rfl, .inr (.inl (.inl upd_same)), rfl, flat_strs _, _, rfl, ?_⟩
        rw [inV_strs]
        refine iteF ?_
        refine ⟨_, rfl, rfl, _, rfl, iteF ?_⟩
        refine ⟨_, rfl, rfl, _, rfl, iteT ?_⟩
        refine ⟨_, rfl, _, _, rfl, rfl, ?_⟩
        show Q (V.bl (decide ((1:Int) < ((kv.length + 1 : Nat) : Int)))) _
        rw [decide_eq_true (by omega)]
        exact fin s1
    | seq =>
      cases r1
      refine ⟨_, rfl, rfl, _, rfl, iteF ?_⟩
      refine ⟨_, rfl, rfl, _, rfl, iteF ?_⟩
      refine ⟨_, rfl, rfl, _, rfl, iteF ?_⟩
      refine ⟨_, rfl, by show 2 ≤ sizeLine; decide, fun p2 np2 => ?_⟩
      have s1 : Same H (upd H p2 (.tup ([("call" : Str), "with"].map V.str))) := same_upd np2
      refine ⟨p2, [("call" : Str), "with"].map V.str, rfl, .inr (.inl (.inl upd_same)), rfl, flat_strs _, _, rfl, ?_⟩
      rw [inV_strs]
      refine iteF ?_
      refine ⟨_, rfl, rfl, _, rfl, iteF ?_⟩
      refine ⟨_, rfl, rfl, _, rfl, iteF ?_⟩
      exact ⟨_, rfl, rfl, fin s1⟩
end
end FS

set_option Elab.async false
set_option linter.all false
set_option maxRecDepth 100000
set_option maxHeartbeats 4000000
namespace FS
open PySem PySem.Spec PyProof.Rows L2
section
variable {P : Program} {w : World} {K : PySem.W.Frag} {mg : Str → Option Value} {base : Heap}
abbrev Nis_parameter : List Str := ["value"]
theorem scis_parameter : FnScope Nis_parameter ["value"] (defScope sis_parameter) := ⟨rfl, rfl, rfl, by decide +kernel, rfl, by decide +kernel, by decide +kernel⟩
theorem ok_is_parameter {f : Addr} {fd : FuncData} (F : Fun K "is_parameter" "is_parameter" sis_parameter f fd) (T : Nm K mg) (Cis_name : Cal P w K mg base 1 "is_name" ["value"] spName) : FnOk P w K mg base CX0 2 f fd ["value"] (spPar K) := by
  have nd := scis_parameter.nd
  refine F.ok scis_parameter (fun vs H Q E h => ?_) (fun cdv A outer s H vs Q E hr h => ?_)
  · obtain ⟨v, p, rfl, dp, wd, q⟩ := h
    rfl
  · obtain ⟨v, p, rfl, dp, wd, q⟩ := h
    obtain ⟨aK, gK, sK⟩ := T.g_KINDS
    refine ⟨_, (pss_one (ps_ret (pe_and (pe_callB call_isi (by rfl) T.b_isinstance (by decide +kernel) (pa_cons (pv 0) (pa_cons (pe_bltn (v := .ty "tuple") (by rfl) T.b_tuple (by decide +kernel) rfl) pa_nil))) (pe_and (pe_cmpR op_eq (pe_callB call_len (by rfl) T.b_len PySem.boot_len (pa_cons (pv 0) pa_nil)) pe_int (nomark _)) (pe_and (pe_own Cis_name (hr.mono (by decide)) (by rfl) (pa_cons (pe_ix ix_tup (pv 0) pe_int (fun _ _ => rfl)) pa_nil)) (pe_one (pe_cmpR op_in_seq (pe_ix ix_tup (pv 0) pe_int (fun _ _ => rfl)) (pe_glob (v := .ref aK) (by rfl) gK rfl) (by rfl)))))))), ?_⟩

    obtain ⟨x, k⟩ := p
    obtain ⟨a, xs, rfl, sq, r⟩ := Dp.tup_inv (show Dp K H v (.tuple [.str x, .str (kd k)]) from dp)
    cases r with
    | cons x1 r => cases r with
      | cons x2 r =>
      cases r
      cases Dp.str_inv x1
      cases Dp.str_inv x2
      have wd1 : wordB x = true := wd
      refine ⟨_, rfl, _, _, _, _, true, rfl, .ty "tuple", ty_tup sq, kit_ty (by decide +kernel), true, rfl, iteT ?_⟩
      refine ⟨_, rfl, _, _, rfl, .inr ⟨_, sq, rfl⟩, rfl, _, rfl, iteT ?_⟩
      refine ⟨_, rfl, a, _, 0, _, rfl, rfl, sq, at0, x, rfl, by have := (word_ok wd1).2; omega, fun H1 s1 => ?_⟩
      rw [wd1]
      refine ⟨_, rfl, iteT ?_⟩
      refine ⟨_, rfl, a, _, 1, _, rfl, rfl, Same.sqT s1 sq, at1, aK, _, rfl, .inr (sK _), rfl, flat_strs _, ?_⟩
      rw [inV_strs]
      have e : decide (kd k ∈ [("block" : Str), "wrap"]) = true := by cases k <;> decide +kernel
      rw [e]
      exact q _ s1
end
end FS

set_option Elab.async false
set_option linter.all false
set_option maxRecDepth 100000
set_option maxHeartbeats 4000000
namespace FS
open PySem PySem.Spec PyProof.Rows L2
section
variable {P : Program} {w : World} {K : PySem.W.Frag} {mg : Str → Option Value} {base : Heap}
abbrev Nare_parameters : List Str := ["value", "pair"]
theorem scare_parameters : FnScope Nare_parameters ["value"] (defScope sare_parameters) := ⟨rfl, rfl, rfl, by decide +kernel, rfl, by decide +kernel, by decide +kernel⟩
theorem ok_are_parameters {f : Addr} {fd : FuncData} (F : Fun K "are_parameters" "are_parameters" sare_parameters f fd) (T : Nm K mg) (Cis_parameter : Cal P w K mg base 2 "is_parameter" ["value"] (spPar K)) : FnOk P w K mg base CX0 3 f fd ["value"] (spPars K) := by
  have nd := scare_parameters.nd
  refine F.ok scare_parameters (fun vs H Q E h => ?_) (fun cdv A outer s H vs Q E hr h => ?_)
  · obtain ⟨v, own, rfl, dp, po, q⟩ := h
    rfl
  · obtain ⟨v, own, rfl, dp, po, q⟩ := h
    obtain ⟨t3, g3⟩ := T.g_MAX_PARAMETERS
    refine ⟨_, (pss_cons (ps_if (PW.pt (pw_or (pt_not (pt_val (pe_callB call_isi (by rfl) T.b_isinstance (by decide +kernel) (pa_cons (pv 0) (pa_cons (pe_bltn (v := .ty "tuple") (by rfl) T.b_tuple (by decide +kernel) rfl) pa_nil))))) (pw_or1 (pt_cmpR op_gt (pe_callB call_len (by rfl) T.b_len PySem.boot_len (pa_cons (pv 0) pa_nil)) (pe_glob (v := .int 3) (by rfl) g3 ⟨_, rfl⟩) (nomark _)))))
  (pss_one (ps_ret pe_bl))
  pss_nil)
  (pss_cons (ps_if (pt_not (pt_val (pe_callB (cr_all rfl) (by rfl) T.b_all (by decide +kernel) (pa_cons (pe_lc (own := [("pair", 1)]) (g := gName 1) (tt := tYes) rfl nd (pi_tup (pv 0)) (blkOk_by (own := [("pair", 1)]) (N := Nare_parameters) (sc := defScope sare_parameters) (by decide +kernel)) (fun _ _ _ _ _ => (pg_name (i := 1) nd rfl (Or.inl rfl))) (fun _ _ _ _ _ => pts_nil) (fun _ _ _ _ _ => (pe_own Cis_parameter (hr.mono (by decide)) (by rfl) (pa_cons (pv 1) pa_nil)))) pa_nil))))
  (pss_one (ps_ret pe_bl))
  pss_nil)
  (pss_one (ps_ret (pe_cmpR op_eq (pe_callB cr_many (by rfl) T.b_len PySem.boot_len (pa_cons (pe_set (own := [("pair", 1)]) (g := gName 1) (tt := tYes) rfl nd (pi_tup (pv 0)) (blkOk_by (own := [("pair", 1)]) (N := Nare_parameters) (sc := defScope sare_parameters) (by decide +kernel)) (fun _ _ _ _ _ => (pg_name (i := 1) nd rfl (Or.inl rfl))) (fun _ _ _ _ _ => pts_nil) (fun _ _ _ _ _ => (pe_ix (ix_tupK (K := K) rfl) (pv 1) pe_int (fun _ _ => rfl)))) pa_nil)) (pe_callB call_len (by rfl) T.b_len PySem.boot_len (pa_cons (pv 0) pa_nil)) (nomark _)))))), ?_⟩

    obtain ⟨a, xs, rfl, sq, r⟩ := Dp.tup_inv (show Dp K H v (.tuple (own.map parD)) from dp)
    have l : xs.length = own.length := by rw [DpAll.len r, List.length_map]
    have f3 := po.few
    have nl : noLs (own.map parD) = true := pars_noL own
    have ent : ∀ {H' i x}, Same H H' → xs[i]? = some x → ∃ p, own[i]? = some p ∧ Dp K H' x (parD p) := fun {H' i x} sm hx => by
      obtain ⟨d, hd, dx⟩ := DpAll.get (DpAll.stay (.of sm) nl r) hx
      rw [List.getElem?_map] at hd
      obtain ⟨p, hp, rfl⟩ := Option.map_eq_some_iff.mp hd
      exact ⟨p, hp, dx⟩
    refine ⟨_, rfl, _, _, _, _, true, rfl, .ty "tuple", ty_tup sq, kit_ty (by decide +kernel), true, rfl, ?_⟩
    refine iteF ?_
    refine ⟨_, rfl, _, _, rfl, .inr ⟨_, sq, rfl⟩, _, _, rfl, rfl, _, rfl, ite2 (fun e => absurd (of_decide_eq_true e) (by omega)) (fun _ => ?_)⟩
    refine ⟨_, rfl, a, rfl, ⟨xs, sq⟩, fun D nD => ?_⟩
    refine lc_tup (xs := xs) (fun i H' => Same H H' ∧ H' D = some (.lst (List.replicate i (V.bl true)))) ⟨same_upd nD, upd_same⟩ (fun i H' hi hp => Same.sqT hp.1 sq) (fun i x H2 hx hp => ?_) (fun H' hp => ?_)
    · obtain ⟨sm, eD⟩ := hp
      obtain ⟨p, hp, dx⟩ := ent sm hx
      have li := (List.getElem?_eq_some_iff.mp hx).1
      refine ⟨rfl, _, rfl, x, p, rfl, dx, po.nms p (List.mem_of_getElem? hp), fun H3 s3 => ⟨_, s3 _ _ eD, ?_, Same.set (sm.trans s3) nD, ?_⟩⟩
      · rw [List.length_replicate]
        exact small1000 (by omega)
      · rw [upd_same, List.replicate_succ']
    · obtain ⟨sm, eD⟩ := hp
      have ea : ∀ n, (List.replicate n true).all id = true := fun n => List.all_eq_true.mpr fun b hb => (List.eq_of_mem_replicate hb)
      refine ⟨D, List.replicate xs.length true, rfl, .inl (.inl (by rw [List.map_replicate]; exact eD)), ?_⟩
      rw [ea]
      refine ⟨_, rfl, iteF ?_⟩
      refine ⟨_, rfl, a, rfl, ⟨xs, Same.sqT sm sq⟩, fun D2 nD2 => ?_⟩
      have n0 : H D2 = none := Same.free sm nD2
      refine set_tup (xs := xs) (fun i H2 => Same H H2 ∧ H2 D2 = some (SO w D2 ((own.take i).map (·.1)))) ⟨sm.trans (same_upd nD2), upd_same⟩ (fun i H' hi hp => Same.sqT hp.1 sq) (fun i x H2 hx hp => ?_) (fun H2 hp => ?_)
      · obtain ⟨sm2, e2⟩ := hp
        obtain ⟨p, hp, dx⟩ := ent sm2 hx
        have li := (List.getElem?_eq_some_iff.mp hx).1
        obtain ⟨b, ys, rfl, sb, rb⟩ := Dp.tup_inv (show Dp K H2 x (.tuple [.str p.1, .str (kd p.2)]) from dx)
        cases rb with
        | cons y1 rb =>
          cases Dp.str_inv y1
          refine ⟨rfl, _, rfl, b, _, 0, _, rfl, rfl, sb, at0, p.1, _, rfl, e2, ?_, Same.set sm2 n0, ?_⟩
          · rw [List.length_map, List.length_take]
            exact Nat.lt_of_le_of_lt (Nat.succ_le_succ (Nat.min_le_right _ _)) (Nat.lt_of_le_of_lt (Nat.succ_le_succ f3) (by decide))
          · rw [upd_same, take_one (·.1) hp, addS_new (take_new (·.1) po.nd hp)]
            rfl
      · obtain ⟨sm2, e2⟩ := hp
        refine ⟨D2, _, rfl, e2, _, rfl, _, _, rfl, .inr ⟨_, Same.sqT sm2 sq, rfl⟩, rfl, ?_⟩
        have e : (((own.take xs.length).map (·.1)).length : Int) = (xs.length : Int) := by
          rw [l, List.take_length, List.length_map]
        have e3 : decide (V.int (((own.take xs.length).map (·.1)).length : Int) = V.int (xs.length : Int)) = true := by
          rw [e]
          exact decide_eq_true rfl
        rw [e3]
        exact q _ sm2
end
end FS

set_option Elab.async false
set_option linter.all false
set_option maxRecDepth 100000
set_option maxHeartbeats 4000000
namespace FS
open PySem PySem.Spec PyProof.Rows L2
section
variable {P : Program} {w : World} {K : PySem.W.Frag} {mg : Str → Option Value} {base : Heap}
abbrev Nis_term : List Str := ["value", "parameters", "pending", "many", "part", "kinds", "depth", "inner", "allowed"]
theorem scis_term : FnScope Nis_term ["value", "parameters"] (defScope sis_term) := ⟨rfl, rfl, rfl, by decide +kernel, rfl, by decide +kernel, by decide +kernel⟩
theorem ok_is_term {f : Addr} {fd : FuncData} (F : Fun K "is_term" "is_term" sis_term f fd) (T : Nm K mg) (Care_parameters : Cal P w K mg base 3 "are_parameters" ["value"] (spPars K)) (Ckind_of : Cal P w K mg base 1 "kind_of" ["value"] (spKind K)) (Chas_form : Cal P w K mg base 4 "has_form" ["part", "parameters"] (spForm K)) (Cparts_in : Cal P w K mg base 1 "parts_in" ["part"] (spParts K)) (Ckinds_in : Cal P w K mg base 3 "kinds_in" ["part"] (spKinds K)) : FnOk P w K mg base CX0 5 f fd ["value", "parameters"] (spTerm K) := by
  have nd := scis_term.nd
  refine F.ok scis_term (fun vs H Q E h => ?_) (fun cdv A outer s H vs Q E hr h => ?_)
  · obtain ⟨own, v, pw, t, rfl, tm, dw, nw, few, low, q⟩ := h
    rfl
  · obtain ⟨own, v, pw, t, rfl, tm, dw, nw, few, low, q⟩ := h
    obtain ⟨t40, g40⟩ := T.g_MAX_TERMS
    obtain ⟨t6, g6⟩ := T.g_MAX_DEPTH
    refine ⟨_, (pss_cons (ps_if (pt_not (pt_val (pe_own Care_parameters (hr.mono (by decide)) (by rfl) (pa_cons (pv 1) pa_nil))))
  (pss_one ps_never)
  pss_nil)
  (pss_cons (ps_set (i := 2) nd rfl (Or.inl rfl) (pe_lst (pa_cons (pe_tup (pa_cons (pv 0) (pa_cons (pe_tup (pa_cons pe_str pa_nil)) (pa_cons pe_int pa_nil)))) pa_nil)))
  (pss_cons (ps_set (i := 3) nd rfl (Or.inl rfl) pe_int)
  (pss_cons (ps_while PassesOwn.never (pt_truth (pv 2) (fun _ => rfl))
  (pss_cons (ps_asg (pe_bm0 PySem.F.plainAttrs_list PySem.F.slot_list_pop PySem.F.type_list_pop mt_pop (pv 2)) (pg_tup rfl (pgs_cons (pg_name (i := 4) nd rfl (Or.inl rfl)) (pgs_cons (pg_name (i := 5) nd rfl (Or.inl rfl)) (pgs_cons (pg_name (i := 6) nd rfl (Or.inl rfl)) pgs_nil)))))
  (pss_cons (ps_aug (i := 3) nd rfl (.inl rfl) pe_int ip_add)
  (pss_cons (ps_if (PW.pt (pw_or (pt_cmpR op_gt (pv 3) (pe_glob (v := .int 40) (by rfl) g40 ⟨_, rfl⟩) (nomark _)) (pw_or1 (pt_cmpR op_gt (pv 6) (pe_glob (v := .int 6) (by rfl) g6 ⟨_, rfl⟩) (nomark _)))))
  (pss_one (ps_ret pe_bl))
  pss_nil)
  (pss_cons (ps_if (PW.pt (pw_or (pt_cmpR op_notIn_seq (pe_own Ckind_of (hr.mono (by decide)) (by rfl) (pa_cons (pv 4) pa_nil)) (pv 5) (by rfl)) (pw_or1 (pt_not (pt_val (pe_own Chas_form (hr.mono (by decide)) (by rfl) (pa_cons (pv 4) (pa_cons (pv 1) pa_nil))))))))
  (pss_one (ps_ret pe_bl))
  pss_nil)
  (pss_one (ps_for PassesOwn.never rfl (RZ.pi_zipA (by rfl) T.b_zip (pa_cons (pe_own Cparts_in (hr.mono (by decide)) (by rfl) (pa_cons (pv 4) pa_nil)) (pa_cons (pe_own Ckinds_in (hr.mono (by decide)) (by rfl) (pa_cons (pv 4) pa_nil)) pa_nil))) (pg_tup rfl (pgs_cons (pg_name (i := 7) nd rfl (Or.inl rfl)) (pgs_cons (pg_name (i := 8) nd rfl (Or.inl rfl)) pgs_nil)))
  (pss_one (ps_expr (pe_bm PySem.F.plainAttrs_list PySem.F.slot_list_append PySem.F.type_list_append mt_append (pv 2) (pa_cons (pe_tup (pa_cons (pv 7) (pa_cons (pv 8) (pa_cons (pe_op op_add (pv 6) pe_int) pa_nil)))) pa_nil)))))))))))
  (pss_one (ps_ret pe_bl)))))), ?_⟩

    have po := tm.po
    refine ⟨_, rfl, pw, own, rfl, dw, po, fun H1 s1 => ?_⟩
    refine ⟨_, rfl, iteF ?_⟩
    refine ⟨_, rfl, by show 1 ≤ sizeLine; decide, fun p1 n1 => ?_⟩
    have s2 := s1.trans (same_upd (o := .tup [V.str "block"]) n1)
    have e1 : upd H1 p1 (.tup [V.str "block"]) p1 = some (.tup [V.str "block"]) := upd_same
    generalize upd H1 p1 (.tup [V.str "block"]) = H2 at s2 e1 ⊢
    refine ⟨by show 3 ≤ sizeLine; decide, fun p2 n2 => ?_⟩
    have s3a := same_upd (o := .tup [v, V.ref p1, V.int 1]) n2
    have e2 : upd H2 p2 (.tup [v, V.ref p1, V.int 1]) p2 = some (.tup [v, V.ref p1, V.int 1]) := upd_same
    generalize upd H2 p2 (.tup [v, V.ref p1, V.int 1]) = H3 at s3a e2 ⊢
    refine ⟨by show 1 ≤ sizeLine; decide, fun pl n3 => ?_⟩
    have s4a := same_upd (o := .lst [V.ref p2]) n3
    have e3 : upd H3 pl (.lst [V.ref p2]) pl = some (.lst [V.ref p2]) := upd_same
    have s3 := s2.trans s3a
    have npl : H pl = none := Same.free s3 n3
    generalize upd H3 pl (.lst [V.ref p2]) = H4 at s4a e3 ⊢
    have s4 := s3.trans s4a
    have sgl : ∀ {x : V} {H' : Hp}, Same H4 H' → x = V.ref p2 → Dp K H' x (Tr.data ⟨t, [false], 1⟩) := fun {x H'} s e => by
      subst e
      exact .tup (.inl (.inl (s _ _ (s4a _ _ e2)))) (.cons (Dp.stay (.of (s4.trans s)) t.noL tm.dp) (.cons (.tup (.inl (.inl (s _ _ (s4a _ _ (s3a _ _ e1))))) (.cons (.str _) .nil)) (.cons (.int _) .nil)))
    refine ⟨fun m σ H' => ∃ (many : Nat) (y4 y5 y6 y7 y8 : Option V), σ = [some v, some pw, some (.ref pl), some (.int (many : Int)), y4, y5, y6, y7, y8] ∧ Same H H' ∧ ∃ (xs : List V) (trs : List Tr), H' pl = some (.lst xs) ∧ DpAll K H' xs (trs.map Tr.data) ∧ (∀ r ∈ trs, TrOk own r) ∧ many + counts (trs.map Tr.t) = t.count ∧ m = counts (trs.map Tr.t), ⟨_, 0, _, _, _, _, _, rfl, s4, [V.ref p2], [⟨t, [false], 1⟩], e3, .cons (sgl (.refl _) rfl) .nil, ?_, ?_, rfl⟩, fun m σ H5 hw => ?_⟩
    · intro r hr
      cases List.mem_singleton.mp hr
      exact ⟨tm.good, by rw [nw]; exact List.mem_cons_self, by show 1 + t.deep ≤ 7; omega⟩
    · show 0 + counts [t] = t.count
      rw [counts_cons]
      show 0 + (t.count + 0) = _
      omega
    · obtain ⟨many, y4, y5, y6, y7, y8, rfl, sm, xs, trs, hp, rx, ok, cnt, rfl⟩ := hw
      rcases List.eq_nil_or_concat trs with rfl | ⟨ini, r, rfl⟩
      · cases rx
        refine ⟨_, rfl, false, .inl ⟨[], .inl (.inl hp), rfl⟩, iteF ?_⟩
        exact q _ sm
      · rw [List.concat_eq_append] at *
        rw [List.map_append] at rx cnt
        have rx1 : DpAll K H5 xs (ini.map Tr.data ++ [r.data]) := rx
        obtain ⟨us, ws, rfl, ru, rw1⟩ := DpAll.split rx1
        cases rw1 with
        | @cons x _ _ _ hx r0 =>
        cases r0
        have okr := ok r (List.mem_append_right _ List.mem_cons_self)
        have oki : ∀ r ∈ ini, TrOk own r := fun r h => ok r (List.mem_append_left _ h)
        clear ok rx rx1
        have cr := count_eq r.t
        have cnt2 : many + (counts (ini.map Tr.t) + r.t.count) = t.count := by
          have h := counts_app (ini.map Tr.t) [r.t]
          have h2 : counts [r.t] = r.t.count := by
            rw [counts_cons]
            rfl
          rw [h2] at h
          rw [← h]
          exact cnt
        have em : counts ((ini ++ [r]).map Tr.t) = counts (ini.map Tr.t) + r.t.count := by
          rw [List.map_append, counts_app]
          show _ + counts [r.t] = _
          rw [counts_cons]
          rfl
        rw [em]
        clear cnt
        obtain ⟨a, ys, rfl, sq, ry⟩ := Dp.tup_inv (show Dp K H5 x (.tuple [r.t.data, kindsD r.k, .int (r.d : Int)]) from hx)
        cases ry with
        | @cons pv _ _ _ dpart ry => cases ry with
          | @cons kv _ _ _ dkind ry => cases ry with
            | cons ddep ry =>
            cases ry
            cases ddep
            refine ⟨_, rfl, true, .inl ⟨_, .inl (.inl hp), by cases us <;> rfl⟩, iteT ?_⟩
            refine ⟨fun σ2 H2 => ∃ (y4 y5 y6 y7 y8 : Option V), σ2 = [some v, some pw, some (.ref pl), some (.int ((many + 1 : Nat) : Int)), y4, y5, y6, y7, y8] ∧ Same H H2 ∧ ∃ (xs : List V) (trs : List Tr), H2 pl = some (.lst xs) ∧ DpAll K H2 xs (trs.map Tr.data) ∧ (∀ r ∈ trs, TrOk own r) ∧ many + 1 + counts (trs.map Tr.t) = t.count, fun σ2 H2 h => ?_, ?_⟩
            · obtain ⟨y4, y5, y6, y7, y8, rfl, sm2, xs2, trs2, hp2, rx2, ok2, c2⟩ := h
              exact ⟨counts (trs2.map Tr.t), by omega, many + 1, y4, y5, y6, y7, y8, rfl, sm2, xs2, trs2, hp2, rx2, ok2, c2, rfl⟩
            · refine ⟨_, rfl, .inl ⟨rfl, _, .inl (.inl hp)⟩, pl, us ++ [.ref a], .ref a, rfl, rfl, hp, by simp, ?_⟩
              have ed : (us ++ [V.ref a]).dropLast = us := by simp
              rw [ed]
              have st6 := Stay.set (ys := us) hp
              have sm6 := Same.set (o := .lst us) sm npl
              have hp6 : upd H5 pl (.lst us) pl = some (.lst us) := upd_same
              have sq6 := st6.sqT sq
              have dp6 := Dp.stay st6 r.t.noL dpart
              have dk6 := Dp.stay st6 (kinds_noL r.k) dkind
              have ru6 := DpAll.stay st6 (trs_noL ini) ru
              clear hp sq dpart dkind ru hx
              generalize upd H5 pl (.lst us) = H6 at st6 sm6 hp6 sq6 dp6 dk6 ru6 ⊢
              refine ⟨a, _, rfl, sq6, rfl, _, _, rfl, _, _, rfl, _, _, rfl, rfl, ?_⟩
              refine ⟨_, rfl, _, _, rfl, rfl, ?_⟩
              have e40 : ¬ ((40 : Int) < (many : Int) + 1) := by omega
              have e6 : ¬ ((6 : Int) < (r.d : Int)) := by
                have := okr.deep
                have : 0 < r.t.deep := by
                  obtain ⟨⟨h, ks⟩, _, _⟩ := r
                  exact Nat.succ_pos _
                omega
              refine ⟨_, rfl, _, _, rfl, rfl, _, rfl, ite2 (fun e => absurd (of_decide_eq_true e) e40) (fun _ => ?_)⟩
              refine ⟨_, rfl, _, _, rfl, rfl, _, rfl, ite2 (fun e => absurd (of_decide_eq_true e) e6) (fun _ => ?_)⟩
              have low6 : r.t.deep ≤ 60 := by
                have := okr.deep
                omega
              refine ⟨_, rfl, own, pv, r.t, rfl, ⟨dp6, okr.good, po, low6⟩, fun H7 s7 => ?_⟩
              obtain ⟨ak, rfl, sk⟩ := kinds_open (Dp.stay (.of s7) (kinds_noL r.k) dk6)
              refine ⟨_, rfl, ak, _, rfl, .inr sk, rfl, flat_strs _, _, rfl, ?_⟩
              rw [inV_strs]
              have ein : decide (kd r.t.isW ∈ r.k.map kd) = true := decide_eq_true (List.mem_map_of_mem okr.kind)
              rw [ein]
              refine iteF ?_
              have g7 := okr.good
              have dp7 := Dp.stay (.of s7) r.t.noL dp6
              refine ⟨_, rfl, _, rfl, own, pv, pw, r.t, rfl, ⟨dp7, g7, po, low6⟩, Dp.stay (.of (sm6.trans s7)) (pars_noL own) dw, fun H8 s8 => ?_⟩
              refine ⟨_, rfl, iteF ?_⟩
              refine ⟨_, rfl, own, pv, r.t, rfl, Dp.stay (.of s8) r.t.noL dp7, g7, fun H9 b1 kv1 s9 sq9 r9 => ?_⟩
              have lk : kv1.length = r.t.kids.length := by rw [DpAll.len r9, datas_len]
              have kf : r.t.kids.length ≤ counts r.t.kids := by
                exact len_counts _
              refine ⟨_, rfl, own, pv, r.t, rfl, Dp.stay (.of (s8.trans s9)) r.t.noL dp7, g7, by omega, fun H10 b2 kv2 s10 sq10 r10 => ?_⟩
              have la : (r.t.hd.allow r.t.kids.length).length = r.t.kids.length := allow_len _ _ fun e => by
                obtain ⟨⟨h, ks⟩, _, _⟩ := r
                cases (show h = .wrp from e)
                exact Good.wrp2 g7
              have lk2 : kv2.length = r.t.kids.length := by rw [DpAll.len r10, List.length_map, la]
              have s67 := s7.trans (s8.trans (s9.trans s10))
              have dall : noLs ((r.t.hd.allow r.t.kids.length).map kindsD) = true := by
                generalize r.t.hd.allow r.t.kids.length = l
                induction l with
                | nil => rfl
                | cons x l ih =>
                  show (noL (kindsD x) && noLs (l.map kindsD)) = true
                  rw [kinds_noL, ih]
                  rfl
              refine ⟨b1, b2, kv1, kv2, rfl, .inr ⟨Same.sqT s10 sq9, sq10, ?_⟩⟩
              refine RZ.for_zipT (xs := kv1) (ys := kv2) (by omega) (fun i σ2 H2 => ∃ (y7 y8 : Option V), σ2 = [some v, some pw, some (.ref pl), some (.int ((many + 1 : Nat) : Int)), some pv, some (.ref ak), some (.int (r.d : Int)), y7, y8] ∧ Same H H2 ∧ Stay H10 H2 ∧ ∃ (xs : List V) (new : List Tr), H2 pl = some (.lst xs) ∧ DpAll K H2 xs ((ini ++ new).map Tr.data) ∧ (∀ r ∈ new, TrOk own r) ∧ new.map Tr.t = r.t.kids.take i) ?_ ?_ ?_ ?_
              · exact ⟨_, _, rfl, sm6.trans s67, .refl _, us, [], s67 _ _ hp6, by rw [List.append_nil]; exact DpAll.stay (.of s67) (trs_noL ini) ru6, (fun r h => nomatch h), rfl⟩
              · rintro i σ2 H2 ⟨_, _, _, _, st, _⟩
                exact ⟨st.sqT (Same.sqT s10 sq9), st.sqT sq10⟩
              · rintro i x y T σ2 H2 hx hy ⟨y7, y8, rfl, sm2, st2, xs, new, hp2, rx2, okn, en⟩ nT
                obtain ⟨u, hu, du⟩ := DpAll.kid (DpAll.stay (.of s10) (noL_datas _) r9) hx
                obtain ⟨d, hd, dy⟩ := DpAll.get r10 hy
                rw [List.getElem?_map] at hd
                obtain ⟨al, ha, rfl⟩ := Option.map_eq_some_iff.mp hd
                have dx2 := Dp.stay st2 u.noL du
                have dy2 := Dp.stay st2 (kinds_noL al) dy
                have sT := same_upd (o := .tup [x, y]) nT
                have eT : upd H2 T (.tup [x, y]) T = some (.tup [x, y]) := upd_same
                have mu : u ∈ r.t.kids := List.mem_of_getElem? hu
                generalize upd H2 T (.tup [x, y]) = H3 at sT eT ⊢
                refine ⟨T, [x, y], rfl, .inl (.inl eT), rfl, _, _, rfl, _, _, rfl, rfl, ?_⟩
                refine ⟨_, rfl, .inl ⟨rfl, _, .inl (.inl (sT _ _ hp2))⟩, _, rfl, _, rfl, _, rfl, _, _, rfl, rfl, by show 3 ≤ sizeLine; decide, fun p3 n3 => ?_⟩
                have s3' := same_upd (o := .tup [x, y, .int ((r.d : Int) + 1)]) n3
                have e3' : upd H3 p3 (.tup [x, y, .int ((r.d : Int) + 1)]) p3 = some (.tup [x, y, .int ((r.d : Int) + 1)]) := upd_same
                have s4' := sT.trans s3'
                generalize upd H3 p3 (.tup [x, y, .int ((r.d : Int) + 1)]) = H4' at s3' e3' s4' ⊢
                have hp4 := s4' _ _ hp2
                refine ⟨pl, xs, .ref p3, rfl, rfl, hp4, ?_, ?_⟩
                · rw [DpAll.len rx2, List.length_map]
                  have e1 : (ini ++ new).length = ini.length + new.length := List.length_append
                  have e2 : new.length ≤ r.t.kids.length := by
                    have h := congrArg List.length en
                    rw [List.length_map, List.length_take] at h
                    omega
                  have e3 : ini.length ≤ counts (ini.map Tr.t) := by
                    exact trs_counts ini
                  exact small1000 (by omega)
                · have st5 := Stay.set (ys := xs ++ [V.ref p3]) hp4
                  have stA := (Stay.of s4').trans st5
                  refine ⟨_, _, rfl, Same.set (sm2.trans s4') npl, st2.trans stA, xs ++ [.ref p3], new ++ [⟨u, al, r.d + 1⟩], upd_same, ?_, ?_, ?_⟩
                  · rw [← List.append_assoc, List.map_append]
                    refine DpAll.app (DpAll.stay stA (trs_noL _) rx2) (.cons ?_ .nil)
                    exact .tup (st5.sqT (.inl (.inl e3'))) (.cons (Dp.stay stA u.noL dx2) (.cons (Dp.stay stA (kinds_noL al) dy2) (.cons (.int _) .nil)))
                  · intro z hz
                    rcases List.mem_append.mp hz with h | h
                    · exact okn z h
                    · cases List.mem_singleton.mp h
                      obtain ⟨⟨h, ks⟩, _, _⟩ := r
                      exact ⟨g7.kid mu, kid_allow g7 hu ha, by
                        have h1 := deep_kid mu
                        have h2 := okr.deep
                        show _ + 1 + u.deep ≤ 7
                        omega⟩
                  · rw [List.map_append, en, take_more hu]
                    rfl
              · rintro σ2 H2 ⟨y7, y8, rfl, sm2, st2, xs, new, hp2, rx2, okn, en⟩
                refine ⟨_, _, _, _, _, rfl, sm2, xs, ini ++ new, hp2, rx2, fun z hz => ?_, ?_⟩
                · rcases List.mem_append.mp hz with h | h
                  · exact oki z h
                  · exact okn z h
                · rw [List.map_append, counts_app, en, lk, List.take_length]
                  omega
end
end FS

set_option Elab.async false
set_option linter.all false
set_option maxRecDepth 100000
set_option maxHeartbeats 4000000
namespace FS
open PySem PySem.Spec PyProof.Rows L2
section
variable {P : Program} {w : World} {K : PySem.W.Frag} {mg : Str → Option Value} {base : Heap}
abbrev NProcedure__init__ : List Str := ["self", "name", "parameters", "body", "_", "kind", "part"]
theorem scProcedure__init__ : FnScope NProcedure__init__ ["self", "name", "parameters", "body"] (defScope sProcedure__init__) := ⟨rfl, rfl, rfl, by decide +kernel, rfl, by decide +kernel, by decide +kernel⟩
theorem ok_Procedure__init__ {f : Addr} {fd : FuncData} (F : Fun K "__init__" "Procedure.__init__" sProcedure__init__ f fd) (T : Nm K mg) {C : Addr} (PC : PrC K mg C) (Cis_name : Cal P w K mg base 1 "is_name" ["value"] spName) (Cis_term : Cal P w K mg base 5 "is_term" ["value", "parameters"] (spTerm K)) (Call_parts : Cal P w K mg base 8 "all_parts" ["part"] (spAll K 7)) : FnOk P w K mg base CX0 9 f fd ["self", "name", "parameters", "body"] (spInit K C) := by
  have nd := scProcedure__init__.nd
  refine F.ok scProcedure__init__ (fun vs H Q E h => ?_) (fun cdv A outer s H vs Q E hr h => ?_)
  · obtain ⟨p, dx, nm, pv', bv, own, t, rfl, hp, wd, dw, db, po, gd, nw, few, low, q⟩ := h
    rfl
  · obtain ⟨p, dx, nm, pv', bv, own, t, rfl, hp, wd, dw, db, po, gd, nw, few, low, q⟩ := h
    skip
    refine ⟨_, (pss_cons (ps_if (pt_not (pt_val (pe_own Cis_name (hr.mono (by decide)) (by rfl) (pa_cons (pv 1) pa_nil))))
  (pss_one ps_never)
  pss_nil)
  (pss_cons (ps_if (pt_not (pt_val (pe_own Cis_term (hr.mono (by decide)) (by rfl) (pa_cons (pv 3) (pa_cons (pv 2) pa_nil)))))
  (pss_one ps_never)
  pss_nil)
  (pss_cons (ps_fld (pv 0) (pv 1) rfl)
  (pss_cons (ps_fld (pv 0) (pv 2) rfl)
  (pss_cons (ps_fld (pv 0) (pv 3) rfl)
  (pss_cons (ps_fld (pv 0) (pe_own Call_parts (hr.mono (by decide)) (by rfl) (pa_cons (pv 3) pa_nil)) rfl)
  (pss_cons (ps_fld (pv 0) (pe_callTy call_tuple_of (by rfl) T.b_tuple (by decide +kernel) (pa_cons (pe_lc (own := [("_", 4), ("kind", 5)]) (g := gTup K 2 (gCons (gName 4) (gCons (gName 5) gNil))) (tt := tYes) rfl nd (pi_tup (pv 2)) (blkOk_by (own := [("_", 4), ("kind", 5)]) (N := NProcedure__init__) (sc := defScope sProcedure__init__) (by decide +kernel)) (fun _ _ _ _ _ => (pg_tup rfl (pgs_cons (pg_name (i := 4) nd rfl (Or.inl rfl)) (pgs_cons (pg_name (i := 5) nd rfl (Or.inl rfl)) pgs_nil)))) (fun _ _ _ _ _ => pts_nil) (fun _ _ _ _ _ => (pv 5))) pa_nil)) rfl)
  (pss_cons (ps_fld (pv 0) (pe_callTy call_tuple_of (by rfl) T.b_tuple (by decide +kernel) (pa_cons (pe_callB (cr_ranked rfl) (by rfl) T.b_sorted (by decide +kernel) (pa_cons (pe_set (own := [("part", 6)]) (g := gName 6) rfl nd (pi_list (pe_fld (pv 0) rfl)) (blkOk_by (own := [("part", 6)]) (N := NProcedure__init__) (sc := defScope sProcedure__init__) (by decide +kernel)) (fun _ _ _ _ _ => (pg_name (i := 6) nd rfl (Or.inl rfl))) (fun _ _ _ _ _ => pts_one (pt_cmpR op_eq (pe_ix (ix_tupK (K := K) rfl) (pv 6) pe_int (fun _ _ => rfl)) pe_str (nomark _))) (fun _ _ _ _ _ => (pe_ix (ix_tupK (K := K) rfl) (pv 6) pe_int (fun _ _ => rfl)))) pa_nil)) pa_nil)) rfl)
  (pss_one (ps_fld (pv 0) (pe_callTy call_tuple_of (by rfl) T.b_tuple (by decide +kernel) (pa_cons (pe_callB (cr_ranked rfl) (by rfl) T.b_sorted (by decide +kernel) (pa_cons (pe_set (own := [("part", 6)]) (g := gName 6) rfl nd (pi_list (pe_fld (pv 0) rfl)) (blkOk_by (own := [("part", 6)]) (N := NProcedure__init__) (sc := defScope sProcedure__init__) (by decide +kernel)) (fun _ _ _ _ _ => (pg_name (i := 6) nd rfl (Or.inl rfl))) (fun _ _ _ _ _ => pts_one (pt_cmpR (op_inK (K := K) rfl) (pe_ix (ix_tupK (K := K) rfl) (pv 6) pe_int (fun _ _ => rfl)) (pe_tup (pa_cons pe_str (pa_cons pe_str pa_nil))) (by rfl))) (fun _ _ _ _ _ => (pe_ix (ix_tupK (K := K) rfl) (pv 6) pe_int (fun _ _ => rfl)))) pa_nil)) pa_nil)) rfl)))))))))), ?_⟩

    refine ⟨_, rfl, nm, rfl, by have := (word_ok wd).2; omega, fun H1 s1 => ?_⟩
    rw [wd]
    refine ⟨_, rfl, iteF ?_⟩
    refine ⟨_, rfl, _, rfl, own, bv, pv', t, rfl, ⟨Dp.tk (.of s1) t.noL db, gd, po, by omega⟩, Dp.tk (.of s1) (pars_noL own) dw, nw, few, low, fun H2 s2 => ?_⟩
    refine ⟨_, rfl, iteF ?_⟩
    have s12 := s1.trans s2
    have hp2 := s12 _ _ hp
    have db2 := Dp.tk (.of s12) t.noL db
    have dw2 := Dp.tk (.of s12) (pars_noL own) dw
    have k2 : Kp p H H2 := .of s12
    clear s1 s2 s12 hp db dw
    have fin : ∀ {H' H'' : Hp} {fs : List (Str × V)} {y : V} {g : Str}, Kp p H H' → H' p = some (.ins C dx fs) → upd H' p (.ins C dx (putF g y fs)) = H'' → Kp p H H'' ∧ H'' p = some (.ins C dx (putF g y fs)) ∧ TK H' H'' ∧ Kp p H' H'' := fun k e h => by
      subst h
      exact ⟨k.trans .set, upd_same, TK.set e rfl, .set⟩
    refine ⟨_, rfl, _, rfl, p, C, dx, [], rfl, hp2, PC.cl, PC.a1, by show 0 < 1000; decide, ?_⟩
    generalize hh : upd H2 p _ = H3
    obtain ⟨k3, hp3, t3, -⟩ := fin k2 hp2 hh
    have db3 := Dp.tk t3 t.noL db2
    have dw3 := Dp.tk t3 (pars_noL own) dw2
    clear hh t3 hp2 k2 db2 dw2
    refine ⟨_, rfl, _, rfl, p, C, dx, _, rfl, hp3, PC.cl, PC.a2, by show 1 < 1000; decide, ?_⟩
    generalize hh : upd H3 p _ = H4
    obtain ⟨k4, hp4, t4, -⟩ := fin k3 hp3 hh
    rw [show putF "_named" (V.str nm) [] = [(("_named" : Str), V.str nm)] from rfl, pf2] at hp4
    have db4 := Dp.tk t4 t.noL db3
    have dw4 := Dp.tk t4 (pars_noL own) dw3
    rw [show putF "_named" (V.str nm) [] = [(("_named" : Str), V.str nm)] from rfl, pf2] at hh
    clear t4 hp3 k3 db3 dw3 hh
    refine ⟨_, rfl, _, rfl, p, C, dx, _, rfl, hp4, PC.cl, PC.a3, by show 2 < 1000; decide, ?_⟩
    generalize hh : upd H4 p _ = H5
    obtain ⟨k5, hp5, t5, -⟩ := fin k4 hp4 hh
    rw [pf3] at hp5
    have db5 := Dp.tk t5 t.noL db4
    have dw5 := Dp.tk t5 (pars_noL own) dw4
    clear t5 hp4 k4 db4 dw4 hh
    -- the parts
    refine ⟨_, rfl, own, bv, t, rfl, db5, gd, by omega, by omega, fun H6 pa xs s6 na hpa rx => ?_⟩
    have naH : H pa = none := by
      cases e : H pa with
      | none => rfl
      | some o =>
        have npa : pa ≠ p := fun z => by
          rw [z, hp5] at na
          cases na
        have := k5 _ _ npa e
        rw [this] at na
        cases na
    have hp6 := s6 _ _ hp5
    have k6 := k5.trans (.of s6)
    have db6 := Dp.tk (.of s6) t.noL db5
    have dw6 := Dp.tk (.of s6) (pars_noL own) dw5
    have npa : pa ≠ p := fun z => by
      rw [z, hp5] at na
      cases na
    clear hp5 k5 db5 dw5 s6 na
    refine ⟨_, rfl, p, C, dx, _, rfl, hp6, PC.cl, PC.a4, by show 3 < 1000; decide, ?_⟩
    generalize hh : upd H6 p _ = H7
    obtain ⟨k7, hp7, t7, j7⟩ := fin k6 hp6 hh
    rw [pf4] at hp7
    have db7 := Dp.tk t7 t.noL db6
    have dw7 := Dp.tk t7 (pars_noL own) dw6
    have hpa7 := j7 _ _ npa hpa
    have rx7 := DpAll.tk t7 (noL_datas _) rx
    clear t7 hp6 k6 db6 dw6 hh j7 hpa rx
    -- the kinds
    obtain ⟨aw, ps, rfl, sqp, rp⟩ := Dp.tup_inv (show Dp K H7 pv' (.tuple (own.map parD)) from dw7)
    have lp : ps.length = own.length := by rw [DpAll.len rp, List.length_map]
    refine ⟨_, rfl, aw, rfl, ⟨ps, sqp⟩, fun D nD => ?_⟩
    refine lc_tup (xs := ps) (fun i H' => Same H7 H' ∧ H' D = some (.lst ((own.take i).map fun z => V.str (kd z.2)))) ⟨same_upd nD, upd_same⟩ (fun i H' hi h => Same.sqT h.1 sqp) (fun i x H8 hx h => ?_) (fun H8 h => ?_)
    · obtain ⟨sm, eD⟩ := h
      obtain ⟨d, hd, dx'⟩ := DpAll.get (DpAll.stay (.of sm) (pars_noL own) rp) hx
      rw [List.getElem?_map] at hd
      obtain ⟨z, hz, rfl⟩ := Option.map_eq_some_iff.mp hd
      have li := (List.getElem?_eq_some_iff.mp hx).1
      have f3 := po.few
      obtain ⟨b, ys, rfl, sb, rb⟩ := Dp.tup_inv (show Dp K H8 x (.tuple [.str z.1, .str (kd z.2)]) from dx')
      cases rb with
      | cons y1 rb => cases rb with
        | cons y2 rb =>
        cases rb
        cases Dp.str_inv y1
        cases Dp.str_inv y2
        refine ⟨b, _, rfl, sb, rfl, _, _, rfl, _, _, rfl, rfl, ?_⟩
        refine ⟨rfl, _, rfl, _, eD, ?_, Same.set sm nD, ?_⟩
        · rw [List.length_map, List.length_take]
          exact Nat.lt_of_le_of_lt (Nat.min_le_right _ _) (small1000 (by omega))
        · rw [upd_same, take_one (fun z : Str × Bool => V.str (kd z.2)) hz]
    · obtain ⟨s8, eD⟩ := h
      rw [lp, List.take_length] at eD
      refine ⟨D, _, rfl, .inl ⟨.inl (.inl eD), fun ka nk => ?_⟩⟩
      have s9 := s8.trans (same_upd (o := .tup (own.map fun z => V.str (kd z.2))) nk)
      have ek : upd H8 ka (.tup (own.map fun z => V.str (kd z.2))) ka = some (.tup (own.map fun z => V.str (kd z.2))) := upd_same
      generalize upd H8 ka (.tup (own.map fun z => V.str (kd z.2))) = H9 at s9 ek ⊢
      have dk9 : Dp K H9 (.ref ka) (kindD own) := .tup (.inl (.inl ek)) (by
        have h : ∀ l : List (Str × Bool), DpAll K H9 (l.map fun z => V.str (kd z.2)) (l.map fun z => PyData.str (kd z.2)) := fun l => by
          induction l with
          | nil => exact .nil
          | cons x r ih => exact .cons (.str _) ih
        exact h own)
      have hp9 := s9 _ _ hp7
      have k9 := k7.trans (.of s9)
      have db9 := Dp.tk (.of s9) t.noL db7
      have dw9 := Dp.tk (.of s9) (pars_noL own) dw7
      have hpa9 := s9 _ _ hpa7
      have rx9 := DpAll.tk (.of s9) (noL_datas _) rx7
      clear s8 eD nk s9 ek hp7 k7 db7 dw7 hpa7 rx7 sqp rp nD
      refine ⟨_, rfl, p, C, dx, _, rfl, hp9, PC.cl, PC.a5, by show 4 < 1000; decide, ?_⟩
      generalize hh : upd H9 p _ = G0
      obtain ⟨k0, hp0, t0, j0⟩ := fin k9 hp9 hh
      rw [pf5] at hp0
      have db0 := Dp.tk t0 t.noL db9
      have dw0 := Dp.tk t0 (pars_noL own) dw9
      have hpa0 := j0 _ _ npa hpa9
      have rx0 := DpAll.tk t0 (noL_datas _) rx9
      have dk0 := Dp.tk t0 (kindD_noL own) dk9
      clear t0 hp9 k9 db9 dw9 hh j0 hpa9 rx9 dk9
      have lx : xs.length = t.count := by rw [DpAll.len rx0, datas_len]; rfl
      have la : t.all.length = t.count := rfl
      have ne : xs ≠ [] := fun z => by
        have := count_pos t
        rw [z] at lx
        simp at lx
        omega
      -- the words
      refine ⟨_, rfl, p, C, dx, _, _, rfl, hp0, PC.cl, PC.a4, lkq4, pa, rfl, ⟨xs, .inl (.inl hpa0)⟩, fun D2 nD2 => ?_⟩
      refine set_list (xs := xs) (fun i H' => Same G0 H' ∧ H' D2 = some (SO w D2 (uniq ((t.all.take i).filterMap wordOf)))) ⟨same_upd nD2, upd_same⟩ (fun i H' hi h => .inl (.inl (h.1 _ _ hpa0))) (fun i x G1 hx h => ?_) (fun G1 h => ?_)
      · obtain ⟨sm, eD⟩ := h
        obtain ⟨u, hu, du⟩ := datas_at (DpAll.tk (.of sm) (noL_datas _) rx0) hx
        obtain ⟨b, ys, rfl, sb, hw, -⟩ := deed_open du
        refine ⟨rfl, _, rfl, b, _, 0, _, rfl, rfl, sb, at0, rfl, _, rfl, ?_⟩
        rw [tag_dec u.hd (j := 0)]
        refine ite2 (fun e => ?_) (fun e => ?_)
        · rcases hw with ⟨_, wd', zs, ew, rfl⟩ | ⟨e0, _⟩
          · refine ⟨_, rfl, b, _, 1, _, rfl, rfl, sb, at1, wd', _, rfl, eD, uniq_small (fm_len _ _ _) (by omega), Same.set sm nD2, ?_⟩
            rw [upd_same, fm_some hu ew, uniq_more]
            rfl
          · exact absurd (of_decide_eq_true e) e0
        · rcases hw with ⟨e0, _⟩ | ⟨_, ew⟩
          · exact absurd (decide_eq_true e0) e
          · rw [fm_none hu ew]
            exact ⟨sm, eD⟩
      · obtain ⟨s1, eD⟩ := h
        rw [lx, ← la, List.take_length] at eD
        refine ⟨D2, _, rfl, eD, by have := uniq_small (fm_len t.all t.all.length wordOf) (by omega); rw [List.take_length] at this; have e : scanBound = 4096 := rfl; omega, fun ws q1 pm so nq => ?_⟩
        have s2 := s1.trans (same_upd (o := .lst (ws.map V.str)) nq)
        have e2 : upd G1 q1 (.lst (ws.map V.str)) q1 = some (.lst (ws.map V.str)) := upd_same
        generalize upd G1 q1 (.lst (ws.map V.str)) = G2 at s2 e2 ⊢
        refine ⟨q1, _, rfl, .inl ⟨.inl (.inl e2), fun wa nw' => ?_⟩⟩
        have s3 := s2.trans (same_upd (o := .tup (ws.map V.str)) nw')
        have e3 : upd G2 wa (.tup (ws.map V.str)) wa = some (.tup (ws.map V.str)) := upd_same
        generalize upd G2 wa (.tup (ws.map V.str)) = G3 at s3 e3 ⊢
        have dws3 : Dp K G3 (.ref wa) (strsD ws) := .tup (.inl (.inl e3)) (dp_strs ws)
        have rws : Ranks (t.all.filterMap wordOf) ws := ⟨pm, so⟩
        have hp3 := s3 _ _ hp0
        have k3 := k0.trans (.of s3)
        have db3 := Dp.tk (.of s3) t.noL db0
        have dw3 := Dp.tk (.of s3) (pars_noL own) dw0
        have hpa3 := s3 _ _ hpa0
        have rx3 := DpAll.tk (.of s3) (noL_datas _) rx0
        have dk3 := Dp.tk (.of s3) (kindD_noL own) dk0
        clear s1 eD pm so nq s2 e2 nw' s3 e3 hp0 k0 db0 dw0 hpa0 rx0 dk0 nD2
        refine ⟨_, rfl, p, C, dx, _, rfl, hp3, PC.cl, PC.a6, by show 5 < 1000; decide, ?_⟩
        generalize hh : upd G3 p _ = G4
        obtain ⟨k4, hp4, t4, j4⟩ := fin k3 hp3 hh
        rw [pf6] at hp4
        have db4 := Dp.tk t4 t.noL db3
        have dw4 := Dp.tk t4 (pars_noL own) dw3
        have hpa4 := j4 _ _ npa hpa3
        have rx4 := DpAll.tk t4 (noL_datas _) rx3
        have dk4 := Dp.tk t4 (kindD_noL own) dk3
        have dws4 := Dp.tk t4 (strs_noL ws) dws3
        clear t4 hp3 k3 db3 dw3 hh j4 hpa3 rx3 dk3 dws3
        -- the uses
        refine ⟨_, rfl, p, C, dx, _, _, rfl, hp4, PC.cl, PC.a4, lkr4, pa, rfl, ⟨xs, .inl (.inl hpa4)⟩, fun D3 nD3 => ?_⟩
        refine set_list (xs := xs) (fun i H' => Same G4 H' ∧ H' D3 = some (SO w D3 (uniq ((t.all.take i).filterMap useOf)))) ⟨same_upd nD3, upd_same⟩ (fun i H' hi h => .inl (.inl (h.1 _ _ hpa4))) (fun i x G5 hx h => ?_) (fun G5 h => ?_)
        · obtain ⟨sm, eD⟩ := h
          obtain ⟨u, hu, du⟩ := datas_at (DpAll.tk (.of sm) (noL_datas _) rx4) hx
          obtain ⟨b, ys, rfl, sb, -, hw⟩ := deed_open du
          refine ⟨rfl, _, rfl, b, _, 0, _, rfl, rfl, sb, at0, by show 2 ≤ sizeLine; decide, fun p2 np2 => ?_⟩
          have sm2 := sm.trans (same_upd (o := .tup ([("call" : Str), "with"].map V.str)) np2)
          have eD2 := same_upd (o := .tup ([("call" : Str), "with"].map V.str)) np2 _ _ eD
          have sb2 := Same.sqT (same_upd (o := .tup ([("call" : Str), "with"].map V.str)) np2) sb
          refine ⟨p2, [("call" : Str), "with"].map V.str, rfl, .inr (.inl (.inl upd_same)), rfl, flat_strs _, _, rfl, ?_⟩
          rw [inV_strs, tag2]
          refine ite2 (fun e => ?_) (fun e => ?_)
          · rcases hw with ⟨_, wd', zs, ew, rfl⟩ | ⟨e0, _⟩
            · refine ⟨_, rfl, b, _, 1, _, rfl, rfl, sb2, at1, wd', _, rfl, eD2, uniq_small (fm_len _ _ _) (by omega), Same.set sm2 nD3, ?_⟩
              rw [upd_same, fm_some hu ew, uniq_more]
              rfl
            · rw [e0] at e
              cases e
          · rcases hw with ⟨e0, _⟩ | ⟨_, ew⟩
            · exact absurd e0 e
            · rw [fm_none hu ew]
              exact ⟨sm2, eD2⟩
        · obtain ⟨s1, eD⟩ := h
          rw [lx, ← la, List.take_length] at eD
          refine ⟨D3, _, rfl, eD, by have := uniq_small (fm_len t.all t.all.length useOf) (by omega); rw [List.take_length] at this; have e : scanBound = 4096 := rfl; omega, fun us q1 pm so nq => ?_⟩
          have s2 := s1.trans (same_upd (o := .lst (us.map V.str)) nq)
          have e2 : upd G5 q1 (.lst (us.map V.str)) q1 = some (.lst (us.map V.str)) := upd_same
          generalize upd G5 q1 (.lst (us.map V.str)) = G6 at s2 e2 ⊢
          refine ⟨q1, _, rfl, .inl ⟨.inl (.inl e2), fun ua nu => ?_⟩⟩
          have s3 := s2.trans (same_upd (o := .tup (us.map V.str)) nu)
          have e3 : upd G6 ua (.tup (us.map V.str)) ua = some (.tup (us.map V.str)) := upd_same
          generalize upd G6 ua (.tup (us.map V.str)) = G7 at s3 e3 ⊢
          have dus3 : Dp K G7 (.ref ua) (strsD us) := .tup (.inl (.inl e3)) (dp_strs us)
          have hp5 := s3 _ _ hp4
          refine ⟨_, rfl, p, C, dx, _, rfl, hp5, PC.cl, PC.a7, by show 6 < 1000; decide, ?_⟩
          generalize hh : upd G7 p _ = G8
          obtain ⟨k8, hp8, t8, j8⟩ := fin (k4.trans (.of s3)) hp5 hh
          rw [pf7] at hp8
          have tt := (TK.of s3).trans t8
          have fin8 : ∀ D o, H D = some o → D ≠ p → PAtD K C G8 D p nm own t := fun D o hD nD => ⟨⟨dx, _, bv, pa, ka, wa, ua, xs, ws, us, hp8, Dp.tk tt (pars_noL own) dw4, Dp.tk tt t.noL db4, j8 _ _ npa (s3 _ _ hpa4), DpAll.tk tt (noL_datas _) rx4, Dp.tk tt (kindD_noL own) dk4, Dp.tk tt (strs_noL ws) dws4, Dp.tk t8 (strs_noL us) dus3, rws, ⟨pm, so⟩, fun z => by
            rw [z, hD] at naH
            cases naH⟩, fun z => nD z.symm, wd, po, gd, nw, few, low⟩
          exact q G8 ⟨⟨dx, _, bv, pa, ka, wa, ua, xs, ws, us, hp8, Dp.tk tt (pars_noL own) dw4, Dp.tk tt t.noL db4, j8 _ _ npa (s3 _ _ hpa4), DpAll.tk tt (noL_datas _) rx4, Dp.tk tt (kindD_noL own) dk4, Dp.tk tt (strs_noL ws) dws4, Dp.tk t8 (strs_noL us) dus3, rws, ⟨pm, so⟩⟩, wd, po, gd, nw, few, low⟩ k8 fin8
end
end FS

set_option Elab.async false
set_option linter.all false
set_option maxRecDepth 100000
set_option maxHeartbeats 4000000
namespace FS
open PySem PySem.Spec PyProof.Rows L2
section
variable {P : Program} {w : World} {K : PySem.W.Frag} {mg : Str → Option Value} {base : Heap}
abbrev NProcedurebody : List Str := ["self"]
theorem scProcedurebody : FnScope NProcedurebody ["self"] (defScope sProcedurebody) := ⟨rfl, rfl, rfl, by decide +kernel, rfl, by decide +kernel, by decide +kernel⟩
theorem ok_Procedurebody {f : Addr} {fd : FuncData} (F : Fun K "body" "Procedure.body" sProcedurebody f fd) (T : Nm K mg) {C : Addr} (PC : PrC K mg C) : FnOk P w K mg base CX0 1 f fd ["self"] (spGet K C "_body") := by
  have nd := scProcedurebody.nd
  refine F.ok scProcedurebody (fun vs H Q E h => ?_) (fun cdv A outer s H vs Q E hr h => ?_)
  · obtain ⟨a, dx, fs, v, rfl, ha, lk, q⟩ := h
    rfl
  · obtain ⟨a, dx, fs, v, rfl, ha, lk, q⟩ := h
    skip
    refine ⟨_, (pss_one (ps_ret (pe_fld (pv 0) rfl))), ?_⟩

    exact ⟨_, rfl, a, C, dx, fs, v, rfl, ha, PC.cl, PC.a3, lk, q⟩
end
end FS

set_option Elab.async false
set_option linter.all false
set_option maxRecDepth 100000
set_option maxHeartbeats 4000000
namespace FS
open PySem PySem.Spec PyProof.Rows L2
section
variable {P : Program} {w : World} {K : PySem.W.Frag} {mg : Str → Option Value} {base : Heap}
abbrev NProcedure__len__ : List Str := ["self"]
theorem scProcedure__len__ : FnScope NProcedure__len__ ["self"] (defScope sProcedure__len__) := ⟨rfl, rfl, rfl, by decide +kernel, rfl, by decide +kernel, by decide +kernel⟩
theorem ok_Procedure__len__ {f : Addr} {fd : FuncData} (F : Fun K "__len__" "Procedure.__len__" sProcedure__len__ f fd) (T : Nm K mg) {C : Addr} (PC : PrC K mg C) : FnOk P w K mg base CX0 1 f fd ["self"] (spLen K C) := by
  have nd := scProcedure__len__.nd
  refine F.ok scProcedure__len__ (fun vs H Q E h => ?_) (fun cdv A outer s H vs Q E hr h => ?_)
  · obtain ⟨a, nm, own, t, rfl, pt, q⟩ := h
    rfl
  · obtain ⟨a, nm, own, t, rfl, pt, q⟩ := h
    skip
    refine ⟨_, (pss_one (ps_ret (pe_callB call_len (by rfl) T.b_len PySem.boot_len (pa_cons (pe_fld (pv 0) rfl) pa_nil)))), ?_⟩

    obtain ⟨⟨dx, pv', bv, pa, ka, wa, ua, xs, ws, us, h1, h2, h3, h4, h5, h6, h7, h8, h9, h10⟩, b, c, d, e, f, g⟩ := pt
    have l : xs.length = t.count := by rw [DpAll.len h5, datas_len]; rfl
    refine ⟨_, rfl, a, C, dx, _, _, rfl, h1, PC.cl, PC.a4, lk4, _, _, rfl, .inl ⟨xs, .inl (.inl h4), rfl⟩, ?_⟩
    rw [l]
    exact q
end
end FS

set_option Elab.async false
set_option linter.all false
set_option maxRecDepth 100000
set_option maxHeartbeats 4000000
/-! the law's side: dice, drawn values, tables of parameters -/
namespace FS
open PySem PySem.Spec PyProof.Rows L2
section
variable {X : Cx}
def CPowW (i j : Int) : Prop := 0 ≤ j ∧ (Builtin.Int.intBits i : Int) * j ≤ 2 ^ 27
theorem op_powW : OpR X (binaryOp .Pow) (rI CPowW fun i j => .int (i ^ j.toNat)) := opI fun _ _ _ _ _ _ _ hc q => pow_int hc.1 hc.2 q
end
section
variable {X : Cx} {K : PySem.W.Frag}
theorem ix_listK (h : X.K = K) : IxR X (rIxL K) := by
  subst h
  exact ix_list
theorem sl_tupK (h : X.K = K) : SlR X (rSlA K) := by
  subst h
  exact sl_tupA
theorem op_catAK (h : X.K = K) : OpR X (binaryOp .Add) (rCatA K) := by
  subst h
  exact op_catA
theorem call_lenK (h : X.K = K) : CallR X (.builtin "len") (fun xs H Q => ∃ x n, xs = [x] ∧ LenV K x H n ∧ Q (.int n) H) := by
  subst h
  exact call_len
theorem op_eqDK (h : X.K = K) (hu : X.A.units + 64 < cLine) : OpR X (compareOp .Eq) (rEqD K) := by
  subst h
  exact op_eqD hu
theorem op_neDK (h : X.K = K) (hu : X.A.units + 64 < cLine) : OpR X (compareOp .NotEq) (rNeD K) := by
  subst h
  exact op_neD hu
theorem op_inTK (h : X.K = K) (hu : X.A.units + 65 < cLine) : OpR X (compareOp .In) (rInT K false) := by
  subst h
  exact op_inT hu
theorem pe_bmK {o e : Expr} {es : List Expr} {to : TE} {t : TA} {name : Str} {apos cpos : Pos} {T id : String} {r : V → List V → Hp → VK → Prop} (h : X.K = K) (pa : PlainAttrs T) (slot : Slot T name id) (hty : typeOf (.builtin id) = pure (.type "method_descriptor")) (hm : MtR X id r) (ho : PE X o to) (ha : PA X (e :: es) t)
    (hbase : attributeBase o name X.env (eval o X.env) = eval o X.env := by rfl)
    (hfew : ((backTo cpos (starEach (e :: es) X.env)).all (fun x => !x.1) && (backToKw cpos (keywordEach [] X.env)).all (fun x => x.1.isSome)
      && decide ((e :: es).length + ([] : List Keyword).length + (if ([] : List Keyword).isEmpty then 0 else 1) < 30)) = true := by rfl)
    (hline : (apos.endLine == cpos.line) = true := by rfl) (hs : starEach (e :: es) X.env = (false, eval e X.env) :: starEach es X.env := by rfl) (hplain : (backTo cpos (starEach es X.env)).any (·.1) = false := by rfl) :
    PE X (.Call (.Attribute o name apos) (e :: es) [] cpos) (tBM K T r to t) := by
  subst h
  exact pe_bm pa slot hty hm ho ha hbase hfew hline hs hplain
end
def Die (H : Hp) (a : Addr) : Prop := ∃ x y z : Int, H a = some (.lst [.int x, .int y, .int z])
/-- all but a is as it was, and a is a die -/
def Go (a : Addr) (H H' : Hp) : Prop := (∀ b o, b ≠ a → H b = some o → H' b = some o) ∧ Die H' a
theorem Die.same {H H' : Hp} {a : Addr} (d : Die H a) (s : Same H H') : Die H' a := by
  obtain ⟨x, y, z, e⟩ := d
  exact ⟨x, y, z, s _ _ e⟩
theorem Go.of {H H' : Hp} {a : Addr} (d : Die H a) (s : Same H H') : Go a H H' := ⟨fun b o _ e => s b o e, d.same s⟩
theorem Go.refl {H : Hp} {a : Addr} (d : Die H a) : Go a H H := .of d (.refl H)
theorem Go.trans {H H1 H2 : Hp} {a : Addr} (x : Go a H H1) (y : Go a H1 H2) : Go a H H2 := ⟨fun b o n e => y.1 b o n (x.1 b o n e), y.2⟩
theorem Go.same {H H1 H2 : Hp} {a : Addr} (x : Go a H H1) (y : Same H1 H2) : Go a H H2 := x.trans (.of x.2 y)
theorem Go.setDie {H : Hp} {a : Addr} {x y z : Int} : Go a H (upd H a (.lst [.int x, .int y, .int z])) := ⟨fun b o n e => by rw [upd_ne n]; exact e, x, y, z, upd_same⟩
theorem Go.new {H : Hp} {a p : Addr} {o : HO} (d : Die H a) (h : H p = none) : Go a H (upd H p o) := .of d (same_upd h)
theorem Die.ne {H : Hp} {a p : Addr} (d : Die H a) (h : H p = none) : p ≠ a := fun e => by
  obtain ⟨x, y, z, q⟩ := d
  rw [← e, h] at q
  cases q
/-- a fresh thing may change -/
theorem Go.upd {H H1 : Hp} {a p : Addr} {o : HO} (g : Go a H H1) (np : H p = none) (n : p ≠ a) : Go a H (upd H1 p o) := ⟨fun b u nb e => by
  rw [upd_ne (ne_of_none e np)]
  exact g.1 b u nb e, by
  obtain ⟨x, y, z, e⟩ := g.2
  exact ⟨x, y, z, by rw [upd_ne n.symm]; exact e⟩⟩
theorem Go.seq {K : PySem.W.Frag} {H H' : Hp} {a b : Addr} {xs : List V} (g : Go a H H') (n : b ≠ a) (h : SqL K H b xs) : SqL K H' b xs := by
  rcases h with (h | ⟨o, h⟩) | h
  · exact .inl (.inl (g.1 _ _ n h))
  · exact .inl (.inr ⟨o, g.1 _ _ n h⟩)
  · exact .inr h
theorem Go.tk {H H' : Hp} {a : Addr} (d : Die H a) (g : Go a H H') : TK H H' := fun b o t e => g.1 b o (fun z => by
  subst z
  obtain ⟨x, y, w, q⟩ := d
  rw [q] at e
  cases Option.some.inj e
  cases t) e
def Asc (z : Str) : Prop := ∀ c ∈ z.cps.toList, c < 128
/-- the values that are drawn: none of them the die -/
inductive Knd (H : Hp) (a : Addr) : V → Prop
  | non : Knd H a .non
  | bl (b : Bool) : Knd H a (.bl b)
  | int (i : Int) : Knd H a (.int i)
  | str (z : Str) (h : z.length ≤ 30000) (h2 : Asc z) : Knd H a (.str z)
  | tup {p : Addr} {xs : List V} (n : p ≠ a) (e : H p = some (.tup xs)) : Knd H a (.ref p)
  | lst {p : Addr} {xs : List V} (n : p ≠ a) (e : H p = some (.lst xs)) : Knd H a (.ref p)
  | dct {p : Addr} {kvs : List (Key × V)} (n : p ≠ a) (e : H p = some (.dK kvs)) : Knd H a (.ref p)
theorem Knd.go {H H' : Hp} {a : Addr} {v : V} (k : Knd H a v) (g : Go a H H') : Knd H' a v := by
  cases k with
  | non => exact .non
  | bl b => exact .bl b
  | int i => exact .int i
  | str z h h2 => exact .str z h h2
  | tup n e => exact .tup n (g.1 _ _ n e)
  | lst n e => exact .lst n (g.1 _ _ n e)
  | dct n e => exact .dct n (g.1 _ _ n e)
theorem Knd.nw {H : Hp} {a p : Addr} {o : HO} {v : V} (d : Die H a) (h : H p = none) (k : Knd H a v) : Knd (upd H p o) a v := k.go (.new d h)
def KL (H : Hp) (a : Addr) (xs : List V) : Prop := ∀ v ∈ xs, Knd H a v
theorem KL.go {H H' : Hp} {a : Addr} {xs : List V} (k : KL H a xs) (g : Go a H H') : KL H' a xs := fun v h => (k v h).go g
theorem KL.nil {H : Hp} {a : Addr} : KL H a [] := fun v h => nomatch h
theorem KL.cons {H : Hp} {a : Addr} {x : V} {xs : List V} (h : Knd H a x) (k : KL H a xs) : KL H a (x :: xs) := fun v hv => by
  rcases List.mem_cons.mp hv with rfl | e
  · exact h
  · exact k v e
/-- one new object more among the known ones; which heap it is is forgotten -/
theorem nwT {H0 H H' : Hp} {a p : Addr} {xs ys : List V} (e : upd H p (.tup ys) = H') (g : Go a H0 H) (k : KL H a xs) (h : H p = none) : Go a H0 H' ∧ KL H' a (.ref p :: xs) ∧ Go a H H' ∧ H' p = some (.tup ys) ∧ p ≠ a := by
  subst e
  exact ⟨g.trans (.new g.2 h), .cons (.tup (g.2.ne h) upd_same) (k.go (.new g.2 h)), .new g.2 h, upd_same, g.2.ne h⟩
theorem nwL {H0 H H' : Hp} {a p : Addr} {xs ys : List V} (e : upd H p (.lst ys) = H') (g : Go a H0 H) (k : KL H a xs) (h : H p = none) : Go a H0 H' ∧ KL H' a (.ref p :: xs) ∧ Go a H H' ∧ H' p = some (.lst ys) ∧ p ≠ a := by
  subst e
  exact ⟨g.trans (.new g.2 h), .cons (.lst (g.2.ne h) upd_same) (k.go (.new g.2 h)), .new g.2 h, upd_same, g.2.ne h⟩
theorem nwD {H0 H H' : Hp} {a p : Addr} {xs : List V} {ys : List (Key × V)} (e : upd H p (.dK ys) = H') (g : Go a H0 H) (k : KL H a xs) (h : H p = none) : Go a H0 H' ∧ KL H' a (.ref p :: xs) ∧ Go a H H' ∧ H' p = some (.dK ys) ∧ p ≠ a := by
  subst e
  exact ⟨g.trans (.new g.2 h), .cons (.dct (g.2.ne h) upd_same) (k.go (.new g.2 h)), .new g.2 h, upd_same, g.2.ne h⟩
/-- the drawn values are no procedures -/
structure NoP (K : PySem.W.Frag) (C : Addr) : Prop where
  kn : PySem.W.kitOne K (.type "NoneType") (.ref C) = some false
  kb : PySem.W.kitOne K (.type "bool") (.ref C) = some false
  ki : PySem.W.kitOne K (.type "int") (.ref C) = some false
  ks : PySem.W.kitOne K (.type "str") (.ref C) = some false
  kt : PySem.W.kitOne K (.type "tuple") (.ref C) = some false
  kl : PySem.W.kitOne K (.type "list") (.ref C) = some false
  kd : PySem.W.kitOne K (.type "dict") (.ref C) = some false
  nn : PySem.W.notFirst K C (.type "NoneType") = true
  nb : PySem.W.notFirst K C (.type "bool") = true
  ni : PySem.W.notFirst K C (.type "int") = true
  ns : PySem.W.notFirst K C (.type "str") = true
  nt : PySem.W.notFirst K C (.type "tuple") = true
  nl : PySem.W.notFirst K C (.type "list") = true
  nd : PySem.W.notFirst K C (.type "dict") = true
theorem Knd.nop {K : PySem.W.Frag} {C : Addr} {H : Hp} {a : Addr} {v : V} (k : Knd H a v) (n : NoP K C) : ∃ t, TyX K H v t ∧ PySem.W.kitOne K t (.ref C) = some false ∧ PySem.W.notFirst K C t = true := by
  cases k with
  | non => exact ⟨_, .base .non, n.kn, n.nn⟩
  | bl b => exact ⟨_, .base (.bl b), n.kb, n.nb⟩
  | int i => exact ⟨_, .base (.int i), n.ki, n.ni⟩
  | str z h h2 => exact ⟨_, .base (.str z), n.ks, n.ns⟩
  | tup _ e => exact ⟨_, .base (.tup e), n.kt, n.nt⟩
  | lst _ e => exact ⟨_, .base (.lst e), n.kl, n.nl⟩
  | dct _ e => exact ⟨_, .base (.dK e), n.kd, n.nd⟩
theorem seq_at {k n : Nat} (h : k < n) : seqIndex? (k : Int) n = some k := by
  unfold seqIndex?
  have h1 : ¬ ((k : Int) < 0) := by omega
  rw [if_neg h1]
  have h2 : (decide ((0 : Int) ≤ (k : Int)) && decide ((k : Int) < (n : Int))) = true := by
    rw [decide_eq_true (by omega : (0 : Int) ≤ (k : Int)), decide_eq_true (by omega : (k : Int) < (n : Int))]
    rfl
  simp only [h2, if_true]
  rfl
theorem erase_perm {α : Type} : ∀ {l : List α} {k : Nat} (h : k < l.length), (l[k] :: l.eraseIdx k).Perm l
  | x :: r, 0, _ => .refl _
  | x :: r, k + 1, h => by
    show (r[k]'(by simpa using h) :: x :: r.eraseIdx k).Perm (x :: r)
    exact (List.Perm.swap _ _ _).trans ((erase_perm (l := r) (k := k) (by simpa using h)).cons x)
theorem erase_map {α β : Type} (f : α → β) : ∀ (l : List α) (k : Nat), (l.map f).eraseIdx k = (l.eraseIdx k).map f
  | [], _ => rfl
  | _ :: _, 0 => rfl
  | x :: r, k + 1 => by
    show f x :: (r.map f).eraseIdx k = f x :: (r.eraseIdx k).map f
    rw [erase_map f r k]
theorem cut_ne {α : Type} {xs : List α} {k : Nat} (hk : 0 < k) (hne : xs ≠ []) : HT.sIx xs.length 0 (some (k : Int)) ≠ 0 := by
  rw [HT.sIx_nat]
  have : 0 < xs.length := List.length_pos_iff.mpr hne
  omega
/-! ### tables of parameters -/
abbrev Tbl := List (Str × List (Str × Bool))
inductive TabV (K : PySem.W.Frag) (H : Hp) : List (Key × V) → Tbl → Prop
  | nil : TabV K H [] []
  | cons {x : Str} {v : V} {own : List (Str × Bool)} {kvs : List (Key × V)} {tb : Tbl} (h : Dp K H v (parsD own)) (po : ParOk own) (wd : wordB x = true) (r : TabV K H kvs tb) : TabV K H ((Sum.inr x, v) :: kvs) ((x, own) :: tb)
def TabAt (K : PySem.W.Frag) (H : Hp) (a : Addr) (tb : Tbl) : Prop := ∃ kvs, H a = some (.dK kvs) ∧ TabV K H kvs tb ∧ tb.length ≤ 8
theorem TabV.tk {K : PySem.W.Frag} {H H' : Hp} (e : TK H H') {kvs : List (Key × V)} {tb : Tbl} (t : TabV K H kvs tb) : TabV K H' kvs tb := by
  induction t with
  | nil => exact .nil
  | cons h po wd r ih => exact .cons (Dp.tk e (pars_noL _) h) po wd ih
theorem TabV.keys {K : PySem.W.Frag} {H : Hp} {kvs : List (Key × V)} {tb : Tbl} (t : TabV K H kvs tb) : kvs.map (·.1) = (tb.map (·.1)).map Sum.inr := by
  induction t with
  | nil => rfl
  | cons h po wd r ih => rw [List.map_cons, ih]; rfl
theorem TabV.get {K : PySem.W.Frag} {H : Hp} {kvs : List (Key × V)} {tb : Tbl} (t : TabV K H kvs tb) {x : Str} (h : x ∈ tb.map (·.1)) : ∃ v own, valV kvs (Sum.inr x) = some v ∧ Dp K H v (parsD own) ∧ ParOk own ∧ (x, own) ∈ tb ∧ wordB x = true ∧ tb.lookup x = some own := by
  induction t with
  | nil => cases h
  | @cons y v own kvs tb hd po wd r ih =>
    by_cases e : y = x
    · subst e
      exact ⟨v, own, valV_pos rfl, hd, po, List.mem_cons_self, wd, by simp [List.lookup]⟩
    · have h2 : x ∈ tb.map (·.1) := by
        rcases List.mem_cons.mp h with z | z
        · exact absurd z.symm e
        · exact z
      obtain ⟨v2, own2, h3, h4, h5, h6, h7, h8⟩ := ih h2
      refine ⟨v2, own2, ?_, h4, h5, List.mem_cons_of_mem _ h6, h7, ?_⟩
      · rw [valV_neg (fun z => e (Sum.inr.inj z))]
        exact h3
      · have : (x == y) = false := by simpa using fun z : x = y => e z.symm
        simp only [List.lookup, this]
        exact h8
theorem TabAt.go {K : PySem.W.Frag} {H H' : Hp} {D a : Addr} {tb : Tbl} (d : Die H D) (g : Go D H H') (t : TabAt K H a tb) : TabAt K H' a tb := by
  obtain ⟨kvs, h1, h2, h3⟩ := t
  refine ⟨kvs, g.1 _ _ (fun z => ?_) h1, h2.tk (g.tk d), h3⟩
  subst z
  obtain ⟨x, y, w, q⟩ := d
  rw [q] at h1
  cases h1
theorem TabAt.same {K : PySem.W.Frag} {H H' : Hp} {a : Addr} {tb : Tbl} (s : Same H H') (t : TabAt K H a tb) : TabAt K H' a tb := by
  obtain ⟨kvs, h1, h2, h3⟩ := t
  exact ⟨kvs, s _ _ h1, h2.tk (.of s), h3⟩
/-! ### the promises -/
def spNumbers (K : PySem.W.Frag) : Sp := fun vs H Q _ => ∃ (a : Addr) (ns : List Int) (i : Nat), vs = [.ref a, .int (i : Int)] ∧ SqL K H a (ns.map V.int) ∧ i ≤ 1000 ∧ ∀ H' p, Same H H' → H p = none → Die H' p → Q (.ref p) H'
def spCast : Sp := fun vs H Q _ => ∃ (a : Addr) (n : Int), vs = [.ref a, .int n] ∧ Die H a ∧ 0 < n ∧ n < 1000000 ∧ ∀ r H', 0 ≤ r → r < n → Go a H H' → (∀ b, b ≠ a → H' b = H b) → Q (.int r) H'
def spPick (K : PySem.W.Frag) : Sp := fun vs H Q _ => ∃ (a b : Addr) (xs : List V), Die H a ∧ vs = [.ref a, .ref b] ∧ SqL K H b xs ∧ b ≠ a ∧ xs ≠ [] ∧ xs.length < 1000 ∧ ∀ v H', v ∈ xs → Go a H H' → (∀ b, b ≠ a → H' b = H b) → Q v H'
def spOdd : Sp := fun vs H Q _ => ∃ (a : Addr), vs = [.ref a] ∧ Die H a ∧ ∀ v H', Go a H H' → Knd H' a v → Q v H'
def spShuffle (K : PySem.W.Frag) : Sp := fun vs H Q _ => ∃ (a b : Addr) (ys : List Str), vs = [.ref a, .ref b] ∧ Die H a ∧ SqL K H b (ys.map V.str) ∧ b ≠ a ∧ ys.length ≤ 100 ∧ ∀ (zs : List Str) H' p, zs.Perm ys → Go a H H' → H p = none → p ≠ a → H' p = some (.lst (zs.map V.str)) → Q (.ref p) H'
def namesOf (own : List (Str × Bool)) (k : Bool) : List Str := (own.filter fun p => p.2 == k).map (·.1)
def spOwn (K : PySem.W.Frag) : Sp := fun vs H Q _ => ∃ (v : V) (own : List (Str × Bool)) (k : Bool), vs = [v, .str (kd k)] ∧ Dp K H v (parsD own) ∧ own.length ≤ 100 ∧ ∀ H' p, Same H H' → H p = none → H' p = some (.lst ((namesOf own k).map V.str)) → Q (.ref p) H'
def cb : Nat → Nat
  | 0 => 0
  | n + 1 => 1 + 3 * cb n
/-- how a head fits the modes and the table -/
def fitH (m : Int) (tb : Tbl) : Hd → List Bool → Bool
  | .deed _ t, _ => decide ((t.length : Int) = m) && t.all (fun e => match e with | none => true | some n => decide ((n : Int) < m))
  | .call x, ks => decide ((tb.lookup x).map (fun o => o.map (·.2)) = some ks)
  | .wth x, ks => decide ((tb.lookup x).map (fun o => o.map (·.2)) = some (ks ++ [false]))
  | _, _ => true
/-- right by its form, and fits -/
inductive GF (m : Int) (tb : Tbl) (own : List (Str × Bool)) : Tm → Prop
  | mk {h : Hd} {ks : List Tm} (ok : h.ok own ks.length = true) (kk : h.kidsOk (ks.map Tm.isW) = true) (kids : ∀ t ∈ ks, GF m tb own t) (fit : fitH m tb h (ks.map Tm.isW) = true) : GF m tb own (.mk h ks)
theorem GF.good {m : Int} {tb : Tbl} {own : List (Str × Bool)} {t : Tm} (g : GF m tb own t) : Good own t := by
  induction g with
  | mk ok kk _ _ ih => exact .mk ok kk ih
mutual
theorem fits_all {m : Int} {tb : Tbl} {own : List (Str × Bool)} : ∀ (t : Tm), GF m tb own t → ∀ u ∈ t.all, fitH m tb u.hd (u.kids.map Tm.isW) = true
  | .mk h ks, g, u, hu => by
    cases g with
    | mk ok kk kids fit =>
      rcases List.mem_cons.mp (show u ∈ Tm.mk h ks :: alls ks from hu) with rfl | hu
      · exact fit
      · exact fits_alls ks kids u hu
theorem fits_alls {m : Int} {tb : Tbl} {own : List (Str × Bool)} : ∀ (ks : List Tm), (∀ t ∈ ks, GF m tb own t) → ∀ u ∈ alls ks, fitH m tb u.hd (u.kids.map Tm.isW) = true
  | t :: r, g, u, hu => by
    rcases List.mem_append.mp (show u ∈ t.all ++ alls r from hu) with hu | hu
    · exact fits_all t (g t List.mem_cons_self) u hu
    · exact fits_alls r (fun x hx => g x (List.mem_cons_of_mem _ hx)) u hu
end
/-- v is a drawn part -/
structure Got (K : PySem.W.Frag) (H : Hp) (m : Int) (tb : Tbl) (own : List (Str × Bool)) (n : Nat) (b : Bool) (v : V) (t : Tm) : Prop where
  dp : Dp K H v t.data
  good : GF m tb own t
  kind : t.isW = b
  deep : t.deep ≤ n
  few : t.count ≤ cb n
theorem Got.tk {K : PySem.W.Frag} {H H' : Hp} {m : Int} {tb : Tbl} {own : List (Str × Bool)} {n : Nat} {b : Bool} {v : V} {t : Tm} (g : Got K H m tb own n b v t) (e : TK H H') : Got K H' m tb own n b v t := ⟨Dp.tk e t.noL g.dp, g.good, g.kind, g.deep, g.few⟩
theorem got_ne {K : PySem.W.Frag} {H : Hp} {m : Int} {tb : Tbl} {own : List (Str × Bool)} {n : Nat} {b : Bool} {v : V} {t : Tm} (g : Got K H m tb own n b v t) : v ≠ .non := fun z => by
  obtain ⟨h, ks⟩ := t
  obtain ⟨a, rs, kv, e, _⟩ := tm_open g.dp
  rw [z] at e
  cases e
/-- what a drawer of parts is called with -/
structure Ask (K : PySem.W.Frag) (H : Hp) (D ta : Addr) (m : Int) (tb : Tbl) (ov : V) (own : List (Str × Bool)) : Prop where
  die : Die H D
  tab : TabAt K H ta tb
  ne : tb ≠ []
  par : Dp K H ov (parsD own)
  po : ParOk own
  m1 : 1 ≤ m
  m3 : m ≤ 3
theorem Ask.go {K : PySem.W.Frag} {H H' : Hp} {D ta : Addr} {m : Int} {tb : Tbl} {ov : V} {own : List (Str × Bool)} (a : Ask K H D ta m tb ov own) (g : Go D H H') : Ask K H' D ta m tb ov own :=
  ⟨g.2, a.tab.go a.die g, a.ne, Dp.tk (g.tk a.die) (pars_noL own) a.par, a.po, a.m1, a.m3⟩
theorem Ask.same {K : PySem.W.Frag} {H H' : Hp} {D ta : Addr} {m : Int} {tb : Tbl} {ov : V} {own : List (Str × Bool)} (a : Ask K H D ta m tb ov own) (s : Same H H') : Ask K H' D ta m tb ov own := a.go (.of a.die s)
def entB (e : Option Nat) : Bool := match e with | none => true | some n => decide (n < 3)
def entryV : Option Nat → V
  | none => .non
  | some n => .int n
def entK (k : Nat) (e : Option Nat) : Bool := match e with | none => true | some n => decide (n < k)
theorem entK_B {k : Nat} {e : Option Nat} (h3 : k ≤ 3) (h : entK k e = true) : entB e = true := by
  cases e with
  | none => rfl
  | some n => exact decide_eq_true (Nat.lt_of_lt_of_le (of_decide_eq_true h) h3)
theorem deed_fit {k : Nat} {z : Str} {es : List (Option Nat)} {tb : Tbl} (l : es.length = k) (h : ∀ e ∈ es, entK k e = true) : fitH (k : Int) tb (.deed z es) [] = true := by
  show (decide ((es.length : Int) = (k : Int)) && es.all (fun e => match e with | none => true | some n => decide ((n : Int) < (k : Int)))) = true
  rw [decide_eq_true (by omega), List.all_eq_true.mpr fun e he => ?_]
  · rfl
  · have := h e he
    cases e with
    | none => rfl
    | some n =>
      have l := of_decide_eq_true this
      exact decide_eq_true (by omega)
def spDeed (K : PySem.W.Frag) : Sp := fun vs H Q _ => ∃ (D : Addr) (m : Int), vs = [.ref D, .int m] ∧ Die H D ∧ 1 ≤ m ∧ m ≤ 3 ∧ ∀ v H' t, Go D H H' → (∀ tb own, Got K H' m tb own 1 false v t) → Q v H'
/-- the parts that are given for some kinds -/
def Gives (K : PySem.W.Frag) (H : Hp) (m : Int) (tb : Tbl) (own : List (Str × Bool)) (n : Nat) (ks : List Bool) (us : List Tm) : Prop := (∀ u ∈ us, GF m tb own u ∧ u.deep ≤ n ∧ u.count ≤ cb n) ∧ us.map Tm.isW = ks
def spTermD (K : PySem.W.Frag) (n : Nat) : Sp := fun vs H Q _ => ∃ (D ta : Addr) (m : Int) (tb : Tbl) (ov : V) (own : List (Str × Bool)), vs = [.ref D, .int m, .ref ta, ov, .int (n : Int)] ∧ Ask K H D ta m tb ov own ∧ 1 ≤ n ∧ n ≤ 6 ∧ ∀ v H' t, Go D H H' → Got K H' m tb own n false v t → Q v H'
def spWrap (K : PySem.W.Frag) (n : Nat) : Sp := fun vs H Q _ => ∃ (D ta : Addr) (m : Int) (tb : Tbl) (ov : V) (own : List (Str × Bool)), vs = [.ref D, .int m, .ref ta, ov, .int (n : Int)] ∧ Ask K H D ta m tb ov own ∧ 1 ≤ n ∧ n ≤ 6 ∧
  (∀ H', Go D H H' → Q .non H') ∧ ∀ v H' t, Go D H H' → Got K H' m tb own n true v t → Q v H'
def spGiven (K : PySem.W.Frag) (n : Nat) : Sp := fun vs H Q _ => ∃ (D ta kl : Addr) (m : Int) (tb : Tbl) (ov : V) (own : List (Str × Bool)) (ks : List Bool), vs = [.ref D, .int m, .ref ta, ov, .ref kl, .int (n : Int)] ∧ Ask K H D ta m tb ov own ∧ n ≤ 6 ∧ H kl = some (.lst ((ks.map kd).map V.str)) ∧ kl ≠ D ∧ ks.length ≤ 3 ∧
  (∀ H', Go D H H' → Q .non H') ∧ ∀ p vs' us H', Go D H H' → SqT K H' p vs' → DpAll K H' vs' (datas us) → Gives K H' m tb own n ks us → Q (.ref p) H'
end FS

set_option Elab.async false
set_option linter.all false
set_option maxRecDepth 100000
set_option maxHeartbeats 4000000
namespace FS
open PySem PySem.Spec PyProof.Rows L2
section
variable {P : Program} {w : World} {K : PySem.W.Frag} {mg : Str → Option Value} {base : Heap}
abbrev N_law_numbers : List Str := ["_law_script", "_law_at", "_law_cell", "_law_whole", "_law_mixed"]
theorem sc_law_numbers : FnScope N_law_numbers ["_law_script", "_law_at"] (defScope s_law_numbers) := ⟨rfl, rfl, rfl, by decide +kernel, rfl, by decide +kernel, by decide +kernel⟩
theorem ok_l_numbers {f : Addr} {fd : FuncData} (F : Fun K "_law_numbers" "_law_numbers" s_law_numbers f fd) (T : Nm K mg) : FnOk P w K mg base CX0 1 f fd ["_law_script", "_law_at"] (spNumbers K) := by
  have nd := sc_law_numbers.nd
  refine F.ok sc_law_numbers (fun vs H Q E h => ?_) (fun cdv A outer s H vs Q E hr h => ?_)
  · obtain ⟨a, ns, i, rfl, sq, hi, q⟩ := h
    rfl
  · obtain ⟨a, ns, i, rfl, sq, hi, q⟩ := h
    skip
    refine ⟨_, (pss_cons (ps_set (i := 2) nd rfl (Or.inl rfl) (pe_ifExp (pt_cmpR op_lt (pv 1) (pe_callB call_len (by rfl) T.b_len PySem.boot_len (pa_cons (pv 0) pa_nil)) (nomark _)) (pe_ix ix_list (pv 0) (pv 1) (fun _ _ => rfl)) (pe_op op_add (pe_op op_mul pe_int (pv 1)) pe_int)))
  (pss_cons (ps_set (i := 3) nd rfl (Or.inl rfl) (pe_op op_mod (pe_callTy call_int1 (by rfl) T.b_int (by decide +kernel) (pa_cons (pe_callB call_abs (by rfl) T.b_abs (by decide +kernel) (pa_cons (pv 2) pa_nil)) pa_nil)) (pe_op op_powW (pe_op op_pow pe_int pe_int) pe_int)))
  (pss_cons (ps_set (i := 4) nd rfl (Or.inl rfl) (pe_op op_add (pe_op op_add (pe_op op_add (pe_op op_mul (pv 3) pe_int) (pe_op op_mul pe_int (pv 1))) (pe_op op_mul pe_int (pe_callTy call_int1 (by rfl) T.b_int (by decide +kernel) (pa_cons (pe_cmpR op_lt (pv 2) pe_int (nomark _)) pa_nil)))) pe_int))
  (pss_one (ps_ret (pe_lst (pa_cons (pe_callB (call_max2 rfl) (by rfl) T.b_max (by decide +kernel) (pa_cons pe_int (pa_cons (pe_op op_sub (pv 3) (pe_op op_pow pe_int pe_int)) pa_nil))) (pa_cons (pe_op op_mod (pe_callTy call_int1 (by rfl) T.b_int (by decide +kernel) (pa_cons (pv 4) pa_nil)) pe_int) (pa_cons pe_int pa_nil))))))))), ?_⟩

    -- the cell
    refine ⟨_, rfl, _, rfl, _, _, rfl, .inl ⟨_, sq, rfl⟩, _, _, rfl, rfl, _, rfl, ite2 (fun e => ?A) (fun _ => ?B)⟩
    case' A =>
      have hl : i < ns.length := by
        have e1 := of_decide_eq_true e
        rw [List.length_map] at e1
        omega
      have g : (ns.map V.int)[i]? = some (.int ns[i]) := by
        rw [List.getElem?_map, List.getElem?_eq_getElem hl]
        rfl
      refine ⟨_, rfl, _, rfl, a, _, (i : Int), _, rfl, rfl, sq, atI_nat g, ?_⟩
      generalize ns[i] = c
    case' B =>
      refine ⟨_, rfl, _, _, rfl, rfl, .inl ⟨by decide, by decide⟩, _, _, rfl, rfl, ?_⟩
      generalize (73 : Int) * (i : Int) + 41 = c
    all_goals
      refine ⟨_, rfl, _, rfl, .inl ⟨_, rfl, ?_⟩⟩
      generalize (if c < 0 then -c else c) = c1
      refine ⟨_, _, rfl, rfl, ⟨by decide, by decide, by decide⟩, _, _, rfl, rfl, ⟨by decide, by decide +kernel⟩, ?_⟩
      refine ⟨_, _, rfl, rfl, Int.pow_pos (Int.pow_pos (by decide)), ?_⟩
      generalize c1 % _ = c2
      refine ⟨_, rfl, _, _, rfl, rfl, .inr ⟨by decide, by decide⟩, ?_⟩
      refine ⟨_, rfl, _, _, rfl, rfl, .inl ⟨by decide, by decide⟩, ?_⟩
      refine ⟨_, _, rfl, rfl, ?_⟩
      refine ⟨_, rfl, _, _, rfl, rfl, .inr ⟨_, rfl, ?_⟩⟩
      refine ⟨_, _, rfl, rfl, .inl ⟨by decide, by decide⟩, _, _, rfl, rfl, _, _, rfl, rfl, ?_⟩
      refine ⟨_, rfl, _, _, rfl, rfl, ⟨by decide, by decide, by decide⟩, ?_⟩
      refine ⟨_, _, rfl, rfl, _, _, rfl, ?_⟩
      refine ⟨_, rfl, .inl ⟨_, rfl, ?_⟩⟩
      refine ⟨_, _, rfl, rfl, (by show (0:Int) < 1152921504606846931; decide), ?_⟩
      refine ⟨(by show 3 ≤ sizeLine; decide), fun p hp => q _ p (same_upd hp) hp ⟨_, _, _, upd_same⟩⟩
end
end FS

set_option Elab.async false
set_option linter.all false
set_option maxRecDepth 100000
set_option maxHeartbeats 4000000
namespace FS
open PySem PySem.Spec PyProof.Rows L2
section
variable {P : Program} {w : World} {K : PySem.W.Frag} {mg : Str → Option Value} {base : Heap}
abbrev N_law_cast : List Str := ["_law_die", "_law_total", "_law_found", "_law_one", "_law_two"]
theorem sc_law_cast : FnScope N_law_cast ["_law_die", "_law_total"] (defScope s_law_cast) := ⟨rfl, rfl, rfl, by decide +kernel, rfl, by decide +kernel, by decide +kernel⟩
theorem ok_l_cast {f : Addr} {fd : FuncData} (F : Fun K "_law_cast" "_law_cast" s_law_cast f fd) (T : Nm K mg) : FnOk P w K mg base CX0 1 f fd ["_law_die", "_law_total"] (spCast) := by
  have nd := sc_law_cast.nd
  refine F.ok sc_law_cast (fun vs H Q E h => ?_) (fun cdv A outer s H vs Q E hr h => ?_)
  · obtain ⟨a, n, rfl, ⟨x, y, z, hd⟩, n0, n1, q⟩ := h
    rfl
  · obtain ⟨a, n, rfl, ⟨x, y, z, hd⟩, n0, n1, q⟩ := h
    skip
    refine ⟨_, (pss_cons (ps_if (pt_cmpR op_gt (pe_ix ix_list (pv 0) pe_int (fun _ _ => rfl)) pe_int (nomark _))
  (pss_cons (ps_set (i := 2) nd rfl (Or.inl rfl) (pe_op op_mod (pe_callTy call_int1 (by rfl) T.b_int (by decide +kernel) (pa_cons (pe_ix ix_list (pv 0) pe_int (fun _ _ => rfl)) pa_nil)) (pv 1)))
  (pss_cons (ps_asg (pe_op op_fdiv (pe_ix ix_list (pv 0) pe_int (fun _ _ => rfl)) (pv 1)) (pg_sub (pv 0) pe_int L2.set_list))
  (pss_one (ps_ret (pv 2)))))
  pss_nil)
  (pss_cons (ps_asg (pe_op op_add (pe_ix ix_list (pv 0) pe_int (fun _ _ => rfl)) pe_int) (pg_sub (pv 0) pe_int L2.set_list))
  (pss_cons (ps_set (i := 3) nd rfl (Or.inl rfl) (pe_op op_mod (pe_callTy call_int1 (by rfl) T.b_int (by decide +kernel) (pa_cons (pe_op op_add (pe_ix ix_list (pv 0) pe_int (fun _ _ => rfl)) (pe_op op_mul pe_int (pe_ix ix_list (pv 0) pe_int (fun _ _ => rfl)))) pa_nil)) pe_int))
  (pss_cons (ps_set (i := 4) nd rfl (Or.inl rfl) (pe_op op_add (pe_op op_mul (pe_op op_mod (pe_callTy call_int1 (by rfl) T.b_int (by decide +kernel) (pa_cons (pe_op op_mul (pv 3) (pv 3)) pa_nil)) pe_int) (pv 3)) (pe_op op_mul pe_int (pe_ix ix_list (pv 0) pe_int (fun _ _ => rfl)))))
  (pss_one (ps_ret (pe_op op_mod (pe_callTy call_int1 (by rfl) T.b_int (by decide +kernel) (pa_cons (pe_op op_fdiv (pe_op op_mod (pe_callTy call_int1 (by rfl) T.b_int (by decide +kernel) (pa_cons (pe_op op_add (pv 4) (pe_ix ix_list (pv 0) pe_int (fun _ _ => rfl))) pa_nil)) pe_int) pe_int) pa_nil)) (pv 1)))))))), ?_⟩

    have sq : SqL K H a [.int x, .int y, .int z] := .inl (.inl hd)
    have a0 : ∀ {p q r : V}, atI [p, q, r] 0 = some p := atI_nat (j := 0) rfl
    have a1 : ∀ {p q r : V}, atI [p, q, r] 1 = some q := atI_nat (j := 1) rfl
    have a2 : ∀ {p q r : V}, atI [p, q, r] 2 = some r := atI_nat (j := 2) rfl
    -- die[0] > 0
    refine ⟨_, rfl, a, _, 0, _, rfl, rfl, sq, a0, _, _, rfl, rfl, _, rfl, ite2 (fun _ => ?_) (fun _ => ?_)⟩
    · refine ⟨_, rfl, a, _, 0, _, rfl, rfl, sq, a0, .inl ⟨_, rfl, ?_⟩⟩
      refine ⟨_, rfl, _, _, rfl, rfl, n0, ?_⟩
      refine ⟨_, rfl, a, _, 0, _, rfl, rfl, sq, a0, _, rfl, _, _, rfl, rfl, ⟨n0, by omega⟩, ?_⟩
      refine ⟨_, rfl, a, _, 0, 0, rfl, rfl, hd, rfl, ?_⟩
      refine ⟨_, rfl, ?_⟩
      exact q _ _ (Int.emod_nonneg _ (by omega)) (Int.emod_lt_of_pos _ n0) Go.setDie (fun b hb => upd_ne hb)
    · refine ⟨_, rfl, a, _, 2, _, rfl, rfl, sq, a2, _, _, rfl, rfl, _, rfl, a, _, 2, 2, rfl, rfl, hd, rfl, ?_⟩
      have sq2 : SqL K (upd H a (.lst [.int x, .int y, .int (z + 1)])) a [.int x, .int y, .int (z + 1)] := .inl (.inl upd_same)
      refine ⟨_, rfl, a, _, 1, _, rfl, rfl, sq2, a1, _, rfl, a, _, 2, _, rfl, rfl, sq2, a2, _, _, rfl, rfl, .inl (by decide), _, _, rfl, rfl, .inl ⟨_, rfl, ?_⟩⟩
      refine ⟨_, _, rfl, rfl, by show (0:Int) < 2305843009213693879; decide, ?_⟩
      have b1 : (0:Int) ≤ (y + 681463489 * (z + 1)) % 2305843009213693879 := Int.emod_nonneg _ (by decide)
      have b2 : (y + 681463489 * (z + 1)) % 2305843009213693879 < 2305843009213693879 := Int.emod_lt_of_pos _ (by decide)
      generalize (y + 681463489 * (z + 1)) % 2305843009213693879 = o at b1 b2 ⊢
      refine ⟨_, rfl, _, rfl, _, _, rfl, rfl, .inl ⟨by omega, by omega⟩, .inl ⟨_, rfl, ?_⟩⟩
      refine ⟨_, _, rfl, rfl, by show (0:Int) < 1152921504606846739; decide, ?_⟩
      refine ⟨_, rfl, _, _, rfl, rfl, .inr ⟨by omega, by omega⟩, ?_⟩
      refine ⟨_, rfl, a, _, 2, _, rfl, rfl, sq2, a2, _, _, rfl, rfl, .inl (by decide), ?_⟩
      refine ⟨_, _, rfl, rfl, ?_⟩
      refine ⟨_, rfl, _, rfl, a, _, 1, _, rfl, rfl, sq2, a1, _, _, rfl, rfl, .inl ⟨_, rfl, ?_⟩⟩
      refine ⟨_, _, rfl, rfl, by show (0:Int) < 8796093022141; decide, ?_⟩
      refine ⟨_, _, rfl, rfl, by constructor <;> decide, .inl ⟨_, rfl, ?_⟩⟩
      refine ⟨_, rfl, _, _, rfl, rfl, n0, ?_⟩
      exact q _ _ (Int.emod_nonneg _ (by omega)) (Int.emod_lt_of_pos _ n0) Go.setDie (fun b hb => upd_ne hb)
end
end FS

set_option Elab.async false
set_option linter.all false
set_option maxRecDepth 100000
set_option maxHeartbeats 4000000
namespace FS
open PySem PySem.Spec PyProof.Rows L2
section
variable {P : Program} {w : World} {K : PySem.W.Frag} {mg : Str → Option Value} {base : Heap}
abbrev N_law_pick : List Str := ["_law_die", "_law_items"]
theorem sc_law_pick : FnScope N_law_pick ["_law_die", "_law_items"] (defScope s_law_pick) := ⟨rfl, rfl, rfl, by decide +kernel, rfl, by decide +kernel, by decide +kernel⟩
theorem ok_l_pick {f : Addr} {fd : FuncData} (F : Fun K "_law_pick" "_law_pick" s_law_pick f fd) (T : Nm K mg) (Cl_cast : Cal P w K mg base 1 "_law_cast" ["_law_die", "_law_total"] spCast) : FnOk P w K mg base CX0 2 f fd ["_law_die", "_law_items"] (spPick K) := by
  have nd := sc_law_pick.nd
  refine F.ok sc_law_pick (fun vs H Q E h => ?_) (fun cdv A outer s H vs Q E hr h => ?_)
  · obtain ⟨a, b, xs, d, rfl, sq, nb, hne, hlen, q⟩ := h
    rfl
  · obtain ⟨a, b, xs, d, rfl, sq, nb, hne, hlen, q⟩ := h
    skip
    refine ⟨_, (pss_one (ps_ret (pe_ix ix_list (pv 1) (pe_own Cl_cast (hr.mono (by decide)) (by rfl) (pa_cons (pv 0) (pa_cons (pe_callB call_len (by rfl) T.b_len PySem.boot_len (pa_cons (pv 1) pa_nil)) pa_nil))) (fun _ _ => rfl)))), ?_⟩

    have hl : 0 < xs.length := List.length_pos_iff.mpr hne
    refine ⟨_, rfl, _, rfl, _, rfl, _, _, rfl, .inl ⟨_, sq, rfl⟩, a, _, rfl, d, by omega, by omega, fun r H' r0 r1 g fr => ?_⟩
    obtain ⟨j, rfl⟩ : ∃ j : Nat, r = (j : Int) := ⟨r.toNat, by omega⟩
    have hj : j < xs.length := by omega
    refine ⟨b, xs, _, xs[j], rfl, rfl, g.seq nb sq, atI_nat (List.getElem?_eq_getElem hj), ?_⟩
    exact q _ _ (List.getElem_mem hj) g fr
end
end FS

set_option Elab.async false
set_option linter.all false
set_option maxRecDepth 100000
set_option maxHeartbeats 4000000
namespace FS
open PySem PySem.Spec PyProof.Rows L2
theorem u1 {k : Nat} {A : Around} (r : L2.Room k A) : A.units + 1 < cLine := by
  have := r.un
  omega
theorem strs_lay : ∀ ys : List Str, (∀ z ∈ ys, PyData.strOk z = true) → PyData.canLayAll0 (ys.map PyData.str) = true ∧ PyData.depthAll (ys.map PyData.str) = 0
  | [], _ => ⟨rfl, rfl⟩
  | y :: r, h => by
    obtain ⟨h1, h2⟩ := strs_lay r fun z hz => h z (List.mem_cons_of_mem _ hz)
    refine ⟨?_, ?_⟩
    · show (PyData.strOk y && PyData.canLayAll0 (r.map PyData.str)) = true
      rw [h y List.mem_cons_self, h1]
      rfl
    · show max 0 (PyData.depthAll (r.map PyData.str)) = 0
      rw [h2]
      rfl
theorem list_shaped {ys : List Str} (h : ∀ z ∈ ys, PyData.strOk z = true) : SeqAt.shaped (.list (ys.map PyData.str)) = true := by
  obtain ⟨h1, h2⟩ := strs_lay ys h
  unfold SeqAt.shaped
  rw [show PyData.canLay0 (.list (ys.map PyData.str)) = true from h1, decide_eq_true (show PyData.depth (.list (ys.map PyData.str)) ≤ 64 by
    show PyData.depthAll (ys.map PyData.str) + 1 ≤ 64
    omega)]
  rfl
theorem ne_nil {K : PySem.W.Frag} {H : Hp} {p q : Addr} {ys : List Str} {Q : VK} (e : H p = some (.lst (ys.map V.str))) (f : H q = some (.lst [])) (ok : ∀ z ∈ ys, PyData.strOk z = true) (h : Q (.bl (!ys.isEmpty)) H) : rNeD K (.ref p) (.ref q) H Q := by
  refine ⟨.list (ys.map PyData.str), .list [], .lst (.inl (.inl e)) (dp_strs ys), .lst (.inl (.inl f)) .nil, list_shaped ok, rfl, ?_⟩
  have : PyData.eqv (.list (ys.map PyData.str)) (.list []) = ys.isEmpty := by
    cases ys <;> rfl
  rw [this]
  exact h
theorem neg_ix (n d : Nat) : HT.sIx n d (some (-1)) = n - 1 := by
  show (if (-1 : Int) < 0 then ((-1 : Int) + (n : Int)).toNat else min (-1 : Int).toNat n) = n - 1
  rw [if_pos (by omega)]
  omega
/-- xs[-1:] -/
theorem cut_last {K : PySem.W.Frag} {H : Hp} {a : Addr} {xs : List V} {Q : VK} (sq : SqT K H a xs) (q : ∀ H' p, Same H H' → SqT K H' p (xs.drop (xs.length - 1)) → Q (.ref p) H') : rSlA K (.ref a) (some (-1)) none H Q := by
  refine ⟨a, xs, rfl, sq, fun z => ?_, fun _ p np => q _ p (same_upd np) (.inl (.inl ?_))⟩
  · have e := z.1
    rw [neg_ix] at e
    have := q H a (.refl H)
    rw [e] at this
    exact this sq
  · rw [upd_same]
    show some (HO.tup ((xs.drop (HT.sIx xs.length 0 (some (-1)))).take (xs.length - HT.sIx xs.length 0 (some (-1))))) = _
    rw [neg_ix, List.take_of_length_le (by rw [List.length_drop]; exact Nat.le_refl _)]
/-- xs[:-1] -/
theorem cut_init {K : PySem.W.Frag} {H : Hp} {a : Addr} {xs : List V} {Q : VK} (sq : SqT K H a xs) (q : ∀ H' p, Same H H' → SqT K H' p (xs.take (xs.length - 1)) → Q (.ref p) H') : rSlA K (.ref a) none (some (-1)) H Q := by
  refine ⟨a, xs, rfl, sq, fun z => ?_, fun _ p np => q _ p (same_upd np) (.inl (.inl ?_))⟩
  · have e := z.2
    rw [neg_ix] at e
    have := q H a (.refl H)
    rw [e, List.take_length] at this
    exact this sq
  · rw [upd_same]
    show some (HO.tup ((xs.drop 0).take (HT.sIx xs.length xs.length (some (-1)) - 0))) = _
    rw [neg_ix]
    rfl
/-- xs + ys, of tuples -/
theorem cat_tup {K : PySem.W.Frag} {H : Hp} {a b : Addr} {xs ys : List V} {Q : VK} (sx : SqT K H a xs) (sy : SqT K H b ys) (hne : xs ≠ []) (hl : xs.length + ys.length < 16000) (q : ∀ H' p, Same H H' → SqT K H' p (xs ++ ys) → Q (.ref p) H') : rCatA K (.ref a) (.ref b) H Q := by
  refine ⟨a, b, xs, ys, rfl, rfl, sx, sy, Nat.le_of_lt (small16 hl), fun z => absurd z hne, fun _ e => ?_, fun _ _ p np => q _ p (same_upd np) (.inl (.inl upd_same))⟩
  subst e
  have := q H a (.refl H)
  rw [List.append_nil] at this
  exact this sx
theorem gives_deep {us : List Tm} {j c : Nat} (h : ∀ u ∈ us, u.deep ≤ j ∧ u.count ≤ c) : deeps us ≤ j ∧ counts us ≤ us.length * c := by
  induction us with
  | nil => exact ⟨Nat.zero_le _, Nat.zero_le _⟩
  | cons u r ih =>
    obtain ⟨h1, h2⟩ := ih fun z hz => h z (List.mem_cons_of_mem _ hz)
    obtain ⟨h3, h4⟩ := h u List.mem_cons_self
    refine ⟨?_, ?_⟩
    · show max u.deep (deeps r) ≤ j
      omega
    · rw [counts_cons, List.length_cons, Nat.succ_mul]
      omega
theorem names_ok {own : List (Str × Bool)} {k : Bool} {z : Str} (h : z ∈ namesOf own k) : (z, k) ∈ own := by
  obtain ⟨p, hp, rfl⟩ := List.mem_map.mp h
  obtain ⟨h1, h2⟩ := List.mem_filter.mp hp
  rw [← beq_iff_eq.mp h2]
  exact h1
theorem names_word {own : List (Str × Bool)} (po : ParOk own) {k : Bool} {z : Str} (h : z ∈ namesOf own k) : PyData.strOk z = true := (word_ok (po.nms _ (names_ok h))).1
theorem names_few {own : List (Str × Bool)} (po : ParOk own) (k : Bool) : (namesOf own k).length ≤ 3 := by
  unfold namesOf
  rw [List.length_map]
  exact Nat.le_trans (List.length_filter_le _ _) po.few
theorem cb_pos {n : Nat} (h : 1 ≤ n) : 1 ≤ cb n := by
  cases n with
  | zero => omega
  | succ n =>
    show 1 ≤ 1 + 3 * cb n
    omega
/-- own and run -/
theorem got_leaf {K : PySem.W.Frag} {H : Hp} {mo : Int} {tb : Tbl} {own : List (Str × Bool)} {n : Nat} {p : Addr} {z : Str} {k : Bool} (hn : 1 ≤ n) (e : SqT K H p [V.str (if k then "own" else "run"), V.str z]) (m : (z, k) ∈ own) : ∃ t, Got K H mo tb own n k (.ref p) t := by
  have c1 := cb_pos hn
  cases k with
  | true => exact ⟨.mk (.own z) [], .tup e (.cons (.str _) (.cons (.str _) .nil)), .mk (by show (decide ((z, true) ∈ own) && decide (([] : List Tm).length = 0)) = true; rw [decide_eq_true m]; rfl) rfl (fun t h => nomatch h) rfl, rfl, hn, c1⟩
  | false => exact ⟨.mk (.run z) [], .tup e (.cons (.str _) (.cons (.str _) .nil)), .mk (by show (decide ((z, false) ∈ own) && decide (([] : List Tm).length = 0)) = true; rw [decide_eq_true m]; rfl) rfl (fun t h => nomatch h) rfl, rfl, hn, c1⟩
/-- a call, or with, of given parts -/
theorem got_call {K : PySem.W.Frag} {H : Hp} {mo : Int} {tb : Tbl} {own : List (Str × Bool)} {j : Nat} {p : Addr} {x : Str} {vs : List V} {us : List Tm} {ks : List Bool} (b : Bool) (wd : wordB x = true) (e : SqT K H p (V.str (if b then "with" else "call") :: V.str x :: vs)) (r : DpAll K H vs (datas us)) (g : Gives K H mo tb own j ks us) (k3 : ks.length ≤ 3) (ft : (tb.lookup x).map (fun o => o.map (·.2)) = some (if b then ks ++ [false] else ks)) : ∃ t, Got K H mo tb own (j + 1) b (.ref p) t := by
  obtain ⟨g1, g2⟩ := g
  obtain ⟨d1, d2⟩ := gives_deep fun u hu => (g1 u hu).2
  have l : us.length ≤ 3 := by rw [← g2, List.length_map] at k3; exact k3
  have c : 1 + counts us ≤ cb (j + 1) := by
    show 1 + counts us ≤ 1 + 3 * cb j
    have := Nat.mul_le_mul_right (cb j) l
    omega
  cases b with
  | true => exact ⟨.mk (.wth x) us, .tup e (.cons (.str _) (.cons (.str _) r)), .mk wd rfl (fun u hu => (g1 u hu).1) (by rw [g2]; exact decide_eq_true ft), rfl, Nat.succ_le_succ d1, by rw [count_eq]; exact c⟩
  | false => exact ⟨.mk (.call x) us, .tup e (.cons (.str _) (.cons (.str _) r)), .mk wd rfl (fun u hu => (g1 u hu).1) (by rw [g2]; exact decide_eq_true ft), rfl, Nat.succ_le_succ d1, by rw [count_eq]; exact c⟩
end FS
namespace FS
open PySem PySem.Spec PyProof.Rows L2
theorem ParOk.sub {o l : List (Str × Bool)} (h : ParOk o) (s : l.Sublist o) : ParOk l := ⟨Nat.le_trans s.length_le h.few, fun p hp => h.nms p (s.mem hp), (h.nd.sublist (s.map _))⟩
theorem eqv_pars (l : List (Str × Bool)) : PyData.eqv (.tuple (l.map parD)) (.tuple []) = l.isEmpty := by
  cases l <;> rfl
theorem last_empty {α : Type} (l : List α) : (l.drop (l.length - 1)).isEmpty = l.isEmpty := by
  cases l with
  | nil => rfl
  | cons x r =>
    have h : ((x :: r).drop ((x :: r).length - 1)).length = 1 := by
      rw [List.length_drop, List.length_cons]
      omega
    cases e : (x :: r).drop ((x :: r).length - 1) with
    | nil => rw [e] at h; cases h
    | cons a b => rfl
theorem at_last {l : List V} {x : V} (h : l[l.length - 1]? = some x) : atI l (-1) = some x := by
  have hl : 0 < l.length := by
    have := (List.getElem?_eq_some_iff.mp h).1
    omega
  unfold atI ixN
  rw [if_neg (by omega)]
  have e : (((-1 : Int) + (l.length : Int)).toNat) = l.length - 1 := by omega
  first
    | (rw [if_pos (by omega)]; show l[((-1 : Int) + (l.length : Int)).toNat]? = _; rw [e]; exact h)
    | (simp; rw [e]; exact h)
theorem DpAll.take9 {K : PySem.W.Frag} {H : Hp} : ∀ (n : Nat) {vs : List V} {ds : List PyData}, DpAll K H vs ds → DpAll K H (vs.take n) (ds.take n)
  | 0, _, _, _ => .nil
  | n + 1, _, _, .nil => .nil
  | n + 1, _, _, .cons h r => .cons h (DpAll.take9 n r)
theorem cb_mono {n : Nat} : cb 1 ≤ cb (n + 1) := by
  show 1 + 3 * 0 ≤ 1 + 3 * cb n
  omega
theorem got_up {K : PySem.W.Frag} {H : Hp} {mo : Int} {tb : Tbl} {own : List (Str × Bool)} {n : Nat} {b : Bool} {v : V} {t : Tm} (g : Got K H mo tb own 1 b v t) : Got K H mo tb own (n + 1) b v t := ⟨g.dp, g.good, g.kind, Nat.le_trans g.deep (by omega), Nat.le_trans g.few cb_mono⟩
/-- seq and or -/
theorem got_seq {K : PySem.W.Frag} {H : Hp} {mo : Int} {tb : Tbl} {own : List (Str × Bool)} {j : Nat} {p : Addr} {vs : List V} {us : List Tm} (b : Bool) (hb : b = true → 0 < us.length) (e : SqT K H p (V.str (if b then "or" else "seq") :: vs)) (r : DpAll K H vs (datas us)) (g : ∀ u ∈ us, GF mo tb own u ∧ u.isW = false ∧ u.deep ≤ j ∧ u.count ≤ cb j) (k3 : us.length ≤ 3) : ∃ t, Got K H mo tb own (j + 1) false (.ref p) t := by
  obtain ⟨d1, d2⟩ := gives_deep fun u hu => (g u hu).2.2
  have c : 1 + counts us ≤ cb (j + 1) := by
    show 1 + counts us ≤ 1 + 3 * cb j
    have := Nat.mul_le_mul_right (cb j) k3
    omega
  have al : (us.map Tm.isW).all (! ·) = true := by
    rw [List.all_map]
    exact List.all_eq_true.mpr fun u hu => by
      show (!u.isW) = true
      rw [(g u hu).2.1]
      rfl
  cases b with
  | true => exact ⟨.mk .alt us, .tup e (.cons (.str _) r), .mk (decide_eq_true (hb rfl)) al (fun u hu => (g u hu).1) rfl, rfl, Nat.succ_le_succ d1, by rw [count_eq]; exact c⟩
  | false => exact ⟨.mk .seq us, .tup e (.cons (.str _) r), .mk rfl al (fun u hu => (g u hu).1) rfl, rfl, Nat.succ_le_succ d1, by rw [count_eq]; exact c⟩
theorem got_wrap {K : PySem.W.Frag} {H : Hp} {mo : Int} {tb : Tbl} {own : List (Str × Bool)} {j : Nat} {p : Addr} {v1 v2 : V} {t1 t2 : Tm} (e : SqT K H p [V.str "wrap", v1, v2]) (g1 : Got K H mo tb own j true v1 t1) (g2 : Got K H mo tb own j false v2 t2) : ∃ t, Got K H mo tb own (j + 1) false (.ref p) t := by
  refine ⟨.mk .wrp [t1, t2], .tup e (.cons (.str _) (.cons g1.dp (.cons g2.dp .nil))), .mk rfl ?_ ?_ rfl, rfl, ?_, ?_⟩
  · show decide ([t1.isW, t2.isW] = [true, false]) = true
    rw [g1.kind, g2.kind]
    rfl
  · intro u hu
    rcases List.mem_cons.mp hu with rfl | hu
    · exact g1.good
    · rw [List.mem_singleton.mp hu]
      exact g2.good
  · show max t1.deep (max t2.deep 0) + 1 ≤ j + 1
    have := g1.deep
    have := g2.deep
    omega
  · rw [count_eq]
    show 1 + counts [t1, t2] ≤ 1 + 3 * cb j
    have := g1.few
    have := g2.few
    rw [counts_cons, counts_cons]
    show 1 + (t1.count + (t2.count + 0)) ≤ _
    omega
theorem last_block {o : List (Str × Bool)} (h : o.length - 1 < o.length) (e : (o[o.length - 1]).2 = false) : o.map (·.2) = (o.take (o.length - 1)).map (·.2) ++ [false] := by
  have : o.take (o.length - 1) ++ [o[o.length - 1]] = o := by
    rw [List.take_append_getElem h, show o.length - 1 + 1 = o.length by omega, List.take_length]
  conv => lhs; rw [← this, List.map_append]
  show _ ++ [(o[o.length - 1]).2] = _
  rw [e]
theorem kd_block {b : Bool} (h : decide (V.str (kd b) = V.str "block") = true) : b = false := by
  cases b with
  | false => rfl
  | true => exact absurd (V.str.inj (of_decide_eq_true h)) (by decide +kernel)
end FS

set_option Elab.async false
set_option linter.all false
set_option maxRecDepth 100000
set_option maxHeartbeats 4000000
/-! any value that is drawn, as far as it is looked into -/
namespace FS
open PySem PySem.Spec PyProof.Rows L2
inductive Dat
  | non
  | bl (b : Bool)
  | int (i : Int)
  | str (z : Str)
  | tup (ds : List Dat)
  | oth
mutual
inductive At (K : PySem.W.Frag) (H : Hp) (D : Addr) : V → Dat → Prop
  | non : At K H D .non .non
  | bl (b : Bool) : At K H D (.bl b) (.bl b)
  | int (i : Int) : At K H D (.int i) (.int i)
  | str (z : Str) (h : z.length ≤ 1000 ∧ PyData.strOk z = true) : At K H D (.str z) (.str z)
  | tup {a : Addr} {xs : List V} {ds : List Dat} (s : SqT K H a xs) (r : AtAll K H D xs ds) : At K H D (.ref a) (.tup ds)
  | lst {p : Addr} {xs : List V} (n : p ≠ D) (e : H p = some (.lst xs)) : At K H D (.ref p) .oth
  | dct {p : Addr} {kvs : List (Key × V)} (n : p ≠ D) (e : H p = some (.dK kvs)) : At K H D (.ref p) .oth
inductive AtAll (K : PySem.W.Frag) (H : Hp) (D : Addr) : List V → List Dat → Prop
  | nil : AtAll K H D [] []
  | cons {v : V} {d : Dat} {vs : List V} {ds : List Dat} (h : At K H D v d) (r : AtAll K H D vs ds) : AtAll K H D (v :: vs) (d :: ds)
end
mutual
theorem At.tk {K : PySem.W.Frag} {H H' : Hp} {D : Addr} (k : TK H H') (g : ∀ b o, b ≠ D → H b = some o → (∀ ps, o ≠ .tbl ps) → H' b = some o) : ∀ {v : V} {d : Dat}, At K H D v d → At K H' D v d
  | _, _, .non => .non
  | _, _, .bl b => .bl b
  | _, _, .int i => .int i
  | _, _, .str z h => .str z h
  | _, _, .tup s r => .tup (k.sqT s) (AtAll.tk k g r)
  | _, _, .lst n e => .lst n (g _ _ n e (fun ps z => nomatch z))
  | _, _, .dct n e => .dct n (g _ _ n e (fun ps z => nomatch z))
theorem AtAll.tk {K : PySem.W.Frag} {H H' : Hp} {D : Addr} (k : TK H H') (g : ∀ b o, b ≠ D → H b = some o → (∀ ps, o ≠ .tbl ps) → H' b = some o) : ∀ {vs : List V} {ds : List Dat}, AtAll K H D vs ds → AtAll K H' D vs ds
  | _, _, .nil => .nil
  | _, _, .cons h r => .cons (At.tk k g h) (AtAll.tk k g r)
end
section
variable {K : PySem.W.Frag} {H H' : Hp} {D : Addr} {v : V} {d : Dat} {vs ws : List V} {ds es : List Dat}
theorem At.same (x : At K H D v d) (s : Same H H') : At K H' D v d := x.tk (.of s) fun b o _ e _ => s b o e
theorem AtAll.same (x : AtAll K H D vs ds) (s : Same H H') : AtAll K H' D vs ds := x.tk (.of s) fun b o _ e _ => s b o e
theorem At.go (x : At K H D v d) (y : Die H D) (g : Go D H H') : At K H' D v d := x.tk (g.tk y) fun b o n e _ => g.1 b o n e
theorem AtAll.go (x : AtAll K H D vs ds) (y : Die H D) (g : Go D H H') : AtAll K H' D vs ds := x.tk (g.tk y) fun b o n e _ => g.1 b o n e
theorem AtAll.len : ∀ {vs : List V} {ds : List Dat}, AtAll K H D vs ds → vs.length = ds.length
  | _, _, .nil => rfl
  | _, _, .cons _ r => congrArg (· + 1) (AtAll.len r)
theorem AtAll.get : ∀ {vs : List V} {ds : List Dat}, AtAll K H D vs ds → ∀ {i : Nat} {v : V}, vs[i]? = some v → ∃ d, ds[i]? = some d ∧ At K H D v d
  | _, _, .nil, i, v, h => by simp at h
  | _, _, .cons h r, 0, v, e => ⟨_, rfl, by
      rw [← Option.some.inj e]
      exact h⟩
  | _, _, .cons h r, i + 1, v, e => AtAll.get r e
theorem AtAll.put : ∀ {vs : List V} {ds : List Dat}, AtAll K H D vs ds → ∀ {i : Nat} {d : Dat}, ds[i]? = some d → ∃ v, vs[i]? = some v ∧ At K H D v d
  | _, _, .nil, i, v, h => by simp at h
  | _, _, .cons h r, 0, v, e => ⟨_, rfl, by
      rw [← Option.some.inj e]
      exact h⟩
  | _, _, .cons h r, i + 1, v, e => AtAll.put r e
theorem AtAll.app : ∀ {vs : List V} {ds : List Dat}, AtAll K H D vs ds → AtAll K H D ws es → AtAll K H D (vs ++ ws) (ds ++ es)
  | _, _, .nil, r => r
  | _, _, .cons h r, r2 => .cons h (AtAll.app r r2)
theorem AtAll.drop : ∀ (n : Nat) {vs : List V} {ds : List Dat}, AtAll K H D vs ds → AtAll K H D (vs.drop n) (ds.drop n)
  | 0, _, _, r => r
  | n + 1, _, _, .nil => .nil
  | n + 1, _, _, .cons _ r => AtAll.drop n r
theorem AtAll.take : ∀ (n : Nat) {vs : List V} {ds : List Dat}, AtAll K H D vs ds → AtAll K H D (vs.take n) (ds.take n)
  | 0, _, _, r => by simpa using AtAll.nil
  | n + 1, _, _, .nil => by simpa using AtAll.nil
  | n + 1, _, _, .cons h r => by
    rw [List.take_succ_cons, List.take_succ_cons]
    exact .cons h (AtAll.take n r)
theorem AtAll.rev : ∀ {vs : List V} {ds : List Dat}, AtAll K H D vs ds → AtAll K H D vs.reverse ds.reverse
  | _, _, .nil => .nil
  | _, _, .cons h r => by
    rw [List.reverse_cons, List.reverse_cons]
    exact AtAll.app (AtAll.rev r) (.cons h .nil)
theorem AtAll.split : ∀ {ds es : List Dat} {vs : List V}, AtAll K H D vs (ds ++ es) → ∃ us ws, vs = us ++ ws ∧ AtAll K H D us ds ∧ AtAll K H D ws es
  | [], es, vs, r => ⟨[], vs, rfl, .nil, r⟩
  | d :: ds, es, _, .cons h r => by
    obtain ⟨us, ws, rfl, h1, h2⟩ := AtAll.split r
    exact ⟨_ :: us, ws, rfl, .cons h h1, h2⟩
theorem At.tup_inv (h : At K H D v (.tup ds)) : ∃ a xs, v = .ref a ∧ SqT K H a xs ∧ AtAll K H D xs ds := by
  cases h with
  | tup s r => exact ⟨_, _, rfl, s, r⟩
theorem At.str_inv {x : Str} (h : At K H D v (.str x)) : v = .str x ∧ x.length ≤ 1000 ∧ PyData.strOk x = true := by
  cases h with
  | str z h => exact ⟨rfl, h⟩
/-! ### of which type it is -/
def Dat.isT : Dat → Bool
  | .tup _ => true
  | _ => false
def Dat.isS : Dat → Bool
  | .str _ => true
  | _ => false
theorem At.isTup (h : At K H D v d) : ∃ t, TyX K H v t ∧ PySem.W.kitOne K t (.type "tuple") = some d.isT := by
  cases h with
  | non => exact ⟨_, .base .non, kit_ty (show kitB "NoneType" "tuple" = some false by decide +kernel)⟩
  | bl b => exact ⟨_, .base (.bl b), kit_ty (show kitB "bool" "tuple" = some false by decide +kernel)⟩
  | int i => exact ⟨_, .base (.int i), kit_ty (show kitB "int" "tuple" = some false by decide +kernel)⟩
  | str z h => exact ⟨_, .base (.str z), kit_ty (show kitB "str" "tuple" = some false by decide +kernel)⟩
  | tup s r => exact ⟨_, ty_tup s, kit_ty (show kitB "tuple" "tuple" = some true by decide +kernel)⟩
  | lst n e => exact ⟨_, .base (.lst e), kit_ty (show kitB "list" "tuple" = some false by decide +kernel)⟩
  | dct n e => exact ⟨_, .base (.dK e), kit_ty (show kitB "dict" "tuple" = some false by decide +kernel)⟩
theorem At.isStr (h : At K H D v d) : ∃ t, TyX K H v t ∧ PySem.W.kitOne K t (.type "str") = some d.isS := by
  cases h with
  | non => exact ⟨_, .base .non, kit_ty (show kitB "NoneType" "str" = some false by decide +kernel)⟩
  | bl b => exact ⟨_, .base (.bl b), kit_ty (show kitB "bool" "str" = some false by decide +kernel)⟩
  | int i => exact ⟨_, .base (.int i), kit_ty (show kitB "int" "str" = some false by decide +kernel)⟩
  | str z h => exact ⟨_, .base (.str z), kit_ty (show kitB "str" "str" = some true by decide +kernel)⟩
  | tup s r => exact ⟨_, ty_tup s, kit_ty (show kitB "tuple" "str" = some false by decide +kernel)⟩
  | lst n e => exact ⟨_, .base (.lst e), kit_ty (show kitB "list" "str" = some false by decide +kernel)⟩
  | dct n e => exact ⟨_, .base (.dK e), kit_ty (show kitB "dict" "str" = some false by decide +kernel)⟩
def Dat.isI : Dat → Bool
  | .int _ => true
  | .bl _ => true
  | _ => false
def Dat.isB : Dat → Bool
  | .bl _ => true
  | _ => false
theorem At.isInt (h : At K H D v d) : ∃ t, TyX K H v t ∧ PySem.W.kitOne K t (.type "int") = some d.isI := by
  cases h with
  | non => exact ⟨_, .base .non, kit_ty (show kitB "NoneType" "int" = some false by decide +kernel)⟩
  | bl b => exact ⟨_, .base (.bl b), kit_ty (show kitB "bool" "int" = some true by decide +kernel)⟩
  | int i => exact ⟨_, .base (.int i), kit_ty (show kitB "int" "int" = some true by decide +kernel)⟩
  | str z h => exact ⟨_, .base (.str z), kit_ty (show kitB "str" "int" = some false by decide +kernel)⟩
  | tup s r => exact ⟨_, ty_tup s, kit_ty (show kitB "tuple" "int" = some false by decide +kernel)⟩
  | lst n e => exact ⟨_, .base (.lst e), kit_ty (show kitB "list" "int" = some false by decide +kernel)⟩
  | dct n e => exact ⟨_, .base (.dK e), kit_ty (show kitB "dict" "int" = some false by decide +kernel)⟩
theorem At.isBool (h : At K H D v d) : ∃ t, TyX K H v t ∧ PySem.W.kitOne K t (.type "bool") = some d.isB := by
  cases h with
  | non => exact ⟨_, .base .non, kit_ty (show kitB "NoneType" "bool" = some false by decide +kernel)⟩
  | bl b => exact ⟨_, .base (.bl b), kit_ty (show kitB "bool" "bool" = some true by decide +kernel)⟩
  | int i => exact ⟨_, .base (.int i), kit_ty (show kitB "int" "bool" = some false by decide +kernel)⟩
  | str z h => exact ⟨_, .base (.str z), kit_ty (show kitB "str" "bool" = some false by decide +kernel)⟩
  | tup s r => exact ⟨_, ty_tup s, kit_ty (show kitB "tuple" "bool" = some false by decide +kernel)⟩
  | lst n e => exact ⟨_, .base (.lst e), kit_ty (show kitB "list" "bool" = some false by decide +kernel)⟩
  | dct n e => exact ⟨_, .base (.dK e), kit_ty (show kitB "dict" "bool" = some false by decide +kernel)⟩
end
/-! ### a text against any value -/
def Dat.eqS : Dat → Str → Bool
  | .str y, z => z == y
  | _, _ => false
theorem dict_eq_declines_strA (l : Addr) (es : Array DictEntry) (n : Nat) (dd : Option Addr) (sl : Array (Option Value)) (b : Str) (u : Tok) :
    Meets (Builtin.«dict.__eq__» ⟨[.ref l, .str b u], []⟩) (fun _ R s => s.heap.get? l = some { cls := .type "dict", dict := dd, data := .dict es n, slots := sl } ∧ R (.ok (.ret .notImplemented)) s) :=
  .of_wp fun prog w A R s h => by
    obtain ⟨hp, g, d, tk, os⟩ := s
    obtain ⟨hl, h⟩ := h
    have f1 := PySem.F.sub_str_dict
    wp_walk using SeqAt.wpAny_loadPart' hl, wpAny_load hl
    exact ⟨_, rfl, h⟩
end FS

set_option Elab.async false
set_option linter.all false
set_option maxRecDepth 100000
set_option maxHeartbeats 4000000
/-! == and in, a text on one side and any value on the other -/
namespace FS
open PySem PySem.Spec PyProof.Rows L2
open PySem.SeqAt
open AutoSeq1 (wpAny_loadPart')
theorem str_eq_declinesA (b : Str) (u : Tok) (l : Addr) (c : Value) (es : Array DictEntry) (n : Nat) (dd : Option Addr) (sl : Array (Option Value)) :
    Meets (Builtin.«str.__eq__» ⟨[.str b u, .ref l], []⟩) (fun _ R s => s.heap.get? l = some { cls := c, dict := dd, data := .dict es n, slots := sl } ∧ R (.ok (.ret .notImplemented)) s) :=
  .of_wp fun prog w A R s h => by
    obtain ⟨hp, g, d, tk, os⟩ := s
    obtain ⟨hl, h⟩ := h
    wp_walk using wpAny_loadPart' hl, wpAny_load hl
    exact ⟨_, rfl, h⟩
theorem str_ne_declinesA (b : Str) (u : Tok) (l : Addr) (c : Value) (es : Array DictEntry) (n : Nat) (dd : Option Addr) (sl : Array (Option Value)) :
    Meets (Builtin.«str.__ne__» ⟨[.str b u, .ref l], []⟩) (fun _ R s => s.heap.get? l = some { cls := c, dict := dd, data := .dict es n, slots := sl } ∧ R (.ok (.ret .notImplemented)) s) :=
  .of_wp fun prog w A R s h => by
    obtain ⟨hp, g, d, tk, os⟩ := s
    obtain ⟨hl, h⟩ := h
    wp_walk using wpAny_loadPart' hl, wpAny_load hl
    exact ⟨_, rfl, h⟩
theorem dict_ne_declinesA (l : Addr) (es : Array DictEntry) (n : Nat) (dd : Option Addr) (sl : Array (Option Value)) (b : Str) (u : Tok) :
    Meets (Builtin.«dict.__ne__» ⟨[.ref l, .str b u], []⟩) (fun _ R s => s.heap.get? l = some { cls := .type "dict", dict := dd, data := .dict es n, slots := sl } ∧ R (.ok (.ret .notImplemented)) s) :=
  .of_wp fun prog w A R s h => by
    obtain ⟨hp, g, d, tk, os⟩ := s
    obtain ⟨hl, h⟩ := h
    have f1 := PySem.F.sub_str_dict
    wp_walk using wpAny_loadPart' hl, wpAny_load hl
    exact ⟨_, rfl, h⟩
theorem str_dict_A {A : Around} {s : Shared} {l : Addr} {es : Array DictEntry} {n : Nat} {dd : Option Addr} {sl : Array (Option Value)} (b : Str) (u : Tok) (ho : s.heap.get? l = some { cls := .type "dict", dict := dd, data := .dict es n, slots := sl }) (hu : A.units < cLine) : EqAt A s (.str b u) (.ref l) false := fun prog w E Q h => by
  unfold eqBool
  refine wpAny_holding ?_
  refine wpAny_ite_split (fun hab => absurd (eq_of_beq hab) nofun) (fun _ => ?_)
  exact wpAny_bind (rc_eq_decline_or (k := false) (typeIs_str s b u) ⟨_, ho, rfl⟩ (by decide) PySem.F.sub_dict_str PySem.F.slot_str_eq PySem.F.slot_dict_eq_refl
    (fun _ hq => call_meets PySem.F.slot_str_eq (typeIs_str s b u) PySem.F.entry_str_eq (PySem.F.args_str_eq_2 _ _) (str_eq_declinesA b u l (.type "dict") es n dd sl) ⟨ho, hq⟩)
    (fun _ hq => call_meets PySem.F.slot_dict_eq_refl ⟨_, ho, rfl⟩ PySem.F.entry_dict_eq (PySem.F.args_dict_eq_2 _ _) (dict_eq_declines_strA l es n dd sl b u) ⟨ho, hq⟩)
    (fun _ hq => wpAny_of_eq (rfl : isSame (.str b u) (.ref l) = pure false) hq) (.inr hu) (wpAny_truthy_bool h))
theorem ne_dict_str {A : Around} {s : Shared} {l : Addr} {es : Array DictEntry} {n : Nat} {dd : Option Addr} {sl : Array (Option Value)} (b : Str) (u : Tok) (ho : s.heap.get? l = some { cls := .type "dict", dict := dd, data := .dict es n, slots := sl }) (hu : A.units < cLine) : RcNeAt A s (.ref l) (.str b u) true := fun prog w E Q h =>
  rc_ne_decline_or (k := false) ⟨_, ho, rfl⟩ (typeIs_str s b u) (by decide) PySem.F.sub_str_dict PySem.F.slot_dict_ne PySem.F.slot_str_ne_refl
    (fun _ hq => call_meets PySem.F.slot_dict_ne ⟨_, ho, rfl⟩ PySem.F.entry_dict_ne (PySem.F.args_dict_ne_2 _ _) (dict_ne_declinesA l es n dd sl b u) ⟨ho, hq⟩)
    (fun _ hq => call_meets PySem.F.slot_str_ne_refl (typeIs_str s b u) PySem.F.entry_str_ne (PySem.F.args_str_ne_2 _ _) (str_ne_declinesA b u l (.type "dict") es n dd sl) ⟨ho, hq⟩)
    (fun _ hq => wpAny_of_eq (rfl : isSame (.ref l) (.str b u) = pure false) hq) (.inr hu) h
section
variable {X : Cx} {K : PySem.W.Frag} {D : Addr} {pins : List (Addr × Obj)} {σ : L2.St} {H : Hp} {s : Shared}
theorem Inv.dictO (I : Inv X pins σ H s) {a : Addr} {kvs : List (Key × V)} (h : H a = some (.dK kvs)) : ∃ es n dd sl, s.heap.get? a = some { cls := .type "dict", dict := dd, data := .dict es n, slots := sl } := by
  obtain ⟨-, -, vs, -, ob, es, ep, e1, e2, e3, -⟩ := (show ObjOk X.prog X.w H s.heap a (.dK kvs) from I.hok a _ h)
  obtain ⟨cls, dd, data, sl⟩ := ob
  have hc : cls = .type "dict" := e2.1
  simp only at e3
  subst hc e3
  exact ⟨es, ep, dd, sl, e1⟩
theorem Inv.listO (I : Inv X pins σ H s) {a : Addr} {xs : List V} (h : H a = some (.lst xs)) : ∃ its, s.heap.IsList a its := by
  obtain ⟨-, its, n, -, e⟩ := (show ObjOk X.prog X.w H s.heap a (.lst xs) from I.hok a _ h)
  exact ⟨_, _, e, rfl, n, rfl⟩
theorem eqS_at {A : Around} (I : Inv X pins σ H s) (hu : A.units < cLine) {v : V} {u : Value} {d : Dat} (h : At X.K H D v d) (r : RelV v u) (z : Str) (tk : Tok) : EqAt A s (.str z tk) u (d.eqS z) := by
  cases h with
  | non =>
    cases r
    exact .str_none z tk
  | bl b =>
    cases r
    exact .str_bool z tk b
  | int i =>
    obtain ⟨t, rfl⟩ := r
    exact .str_int z tk i t
  | str y hy =>
    obtain ⟨t, rfl⟩ := r
    exact .str_str z tk y t
  | tup sq _ =>
    cases r
    obtain ⟨its, _, tp, _⟩ := I.tuple sq
    exact .str_tuple z tk tp hu
  | lst n e =>
    cases r
    obtain ⟨its, hl⟩ := Inv.listO I e
    exact .str_list z tk hl hu
  | dct n e =>
    cases r
    obtain ⟨es, m, dd, sl, ho⟩ := Inv.dictO I e
    exact str_dict_A z tk ho hu
theorem neS_at {A : Around} (I : Inv X pins σ H s) (hu : A.units < cLine) {v : V} {u : Value} {d : Dat} (h : At X.K H D v d) (r : RelV v u) (z : Str) (tk : Tok) : RcNeAt A s u (.str z tk) (!(d.eqS z)) := by
  cases h with
  | non =>
    cases r
    exact .none_str z tk
  | bl b =>
    cases r
    exact .bool_str b z tk
  | int i =>
    obtain ⟨t, rfl⟩ := r
    exact .int_str i t z tk
  | str y hy =>
    obtain ⟨t, rfl⟩ := r
    have h := RcNeAt.str_str (A := A) (s := s) y t z tk
    have e : (y == z) = (z == y) := by
      by_cases q : y = z
      · subst q
        rfl
      · have q2 : ¬ z = y := fun w => q w.symm
        rw [show (y == z) = false by simpa using q, show (z == y) = false by simpa using q2]
    rw [e] at h
    exact h
  | tup sq _ =>
    cases r
    obtain ⟨its, _, tp, _⟩ := I.tuple sq
    exact .tuple_str z tk tp hu
  | lst n e =>
    cases r
    obtain ⟨its, hl⟩ := Inv.listO I e
    exact .list_str z tk hl hu
  | dct n e =>
    cases r
    obtain ⟨es, m, dd, sl, ho⟩ := Inv.dictO I e
    exact ne_dict_str z tk ho hu
theorem vals_txtA : ∀ {zs : List Str} {its : List Value}, Vals (zs.map V.str) its → ∀ y ∈ its, ∃ z tk, y = Value.str z tk
  | [], _, .nil, y, hy => by cases hy
  | z :: zs, _, .cons h r, y, hy => by
    rcases List.mem_cons.mp hy with e | e
    · subst e
      obtain ⟨tk, e⟩ := (show ∃ tk, y = Value.str z tk from h)
      exact ⟨z, tk, e⟩
    · exact vals_txtA r y e
def eqSV (d : Dat) : Value → Bool
  | .str z _ => d.eqS z
  | _ => false
theorem any_txtA (d : Dat) : ∀ {zs : List Str} {its : List Value}, Vals (zs.map V.str) its → its.any (eqSV d) = zs.any d.eqS
  | [], _, .nil => rfl
  | z :: zs, _, .cons h r => by
    obtain ⟨tk, rfl⟩ := (show ∃ tk, _ = Value.str z tk from h)
    rw [List.any_cons, List.any_cons, any_txtA d r]
    rfl
/-- any value in a tuple of texts -/
def rInA (K : PySem.W.Frag) (neg : Bool) : R2 := fun x y H Q => ∃ (D : Addr) (d : Dat) (p : Addr) (zs : List Str), At K H D x d ∧ y = .ref p ∧ SqT K H p (zs.map V.str) ∧ Q (.bl (if neg then !(zs.any d.eqS) else zs.any d.eqS)) H
theorem op_inA (hk : X.K = K) {k : Nat} (hr : Room (k + 1) X.A) : OpR X (compareOp .In) (rInA K false) := by
  subst hk
  intro pins s σ H x y v u Q I rx ry hq
  obtain ⟨D, d, p, zs, hd, rfl, sq, q⟩ := hq
  cases ry
  obtain ⟨its, r, pl, hz⟩ := I.tuple sq
  refine SeqAt.in_tupleAt (eqSV d) pl (fun y hy => ?_) ?_
  · obtain ⟨z, tk, rfl⟩ := vals_txtA r y (by simpa using hy)
    exact eqS_at I hr.in1.units0 hd rx z tk
  · rw [List.any_toArray, any_txtA d r]
    exact ⟨.bl _, H, I, rfl, q⟩
theorem op_notInA (hk : X.K = K) {k : Nat} (hr : Room (k + 1) X.A) : OpR X (compareOp .NotIn) (rInA K true) := by
  subst hk
  intro pins s σ H x y v u Q I rx ry hq
  obtain ⟨D, d, p, zs, hd, rfl, sq, q⟩ := hq
  cases ry
  obtain ⟨its, r, pl, hz⟩ := I.tuple sq
  refine SeqAt.notIn_tupleAt (eqSV d) pl (fun y hy => ?_) ?_
  · obtain ⟨z, tk, rfl⟩ := vals_txtA r y (by simpa using hy)
    exact eqS_at I hr.in1.units0 hd rx z tk
  · rw [List.any_toArray, any_txtA d r]
    exact ⟨.bl _, H, I, rfl, q⟩
/-- any value in a list of texts -/
def rInLA (K : PySem.W.Frag) : R2 := fun x y H Q => ∃ (D : Addr) (d : Dat) (p : Addr) (zs : List Str), At K H D x d ∧ y = .ref p ∧ H p = some (.lst (zs.map V.str)) ∧ Q (.bl (zs.any d.eqS)) H
theorem op_inLA (hk : X.K = K) {k : Nat} (hr : Room (k + 1) X.A) : OpR X (compareOp .In) (rInLA K) := by
  subst hk
  intro pins s σ H x y v u Q I rx ry hq
  obtain ⟨D, d, p, zs, hd, rfl, sq, q⟩ := hq
  cases ry
  obtain ⟨-, its, n, r, e⟩ := (show ObjOk X.prog X.w H s.heap p (.lst (zs.map V.str)) from I.hok p _ sq)
  refine SeqAt.in_listAt (items := its.toArray) (eqSV d) ⟨_, e, rfl, n, rfl⟩ (fun y hy => ?_) ?_
  · obtain ⟨z, tk, rfl⟩ := vals_txtA r y (by simpa using hy)
    exact eqS_at I hr.in1.units0 hd rx z tk
  · rw [List.any_toArray, any_txtA d r]
    exact ⟨.bl _, H, I, rfl, q⟩
/-- any value != a text -/
def rNeS (K : PySem.W.Frag) : R2 := fun x y H Q => ∃ (D : Addr) (d : Dat) (z : Str), At K H D x d ∧ y = .str z ∧ Q (.bl (!(d.eqS z))) H
theorem op_neS (hk : X.K = K) {k : Nat} (hr : Room k X.A) : OpR X (compareOp .NotEq) (rNeS K) := by
  subst hk
  intro pins s σ H x y v u Q I rx ry hq
  obtain ⟨D, d, z, hd, rfl, q⟩ := hq
  obtain ⟨tk, rfl⟩ := ry
  exact neS_at I hr.units0 hd rx z tk _ _ _ _ ⟨.bl _, H, I, rfl, q⟩
/-- a tuple == () -/
def rEq0 (K : PySem.W.Frag) (neg : Bool) : R2 := fun x y H Q => ∃ (a p : Addr) (xs : List V), x = .ref a ∧ y = .ref p ∧ SqT K H a xs ∧ SqT K H p [] ∧ Q (.bl (if neg then !xs.isEmpty else xs.isEmpty)) H
theorem emp_size {xs : List V} {its : List Value} (r : Vals xs its) : (its.toArray.size == (#[] : Array Value).size) = xs.isEmpty := by
  cases r <;> rfl
theorem op_eq0 (hk : X.K = K) {k : Nat} (hr : Room k X.A) : OpR X (compareOp .Eq) (rEq0 K false) := by
  subst hk
  intro pins s σ H x y v u Q I rx ry hq
  obtain ⟨a, p, xs, rfl, rfl, sa, sp, q⟩ := hq
  cases rx
  cases ry
  obtain ⟨its, r, ta, -⟩ := I.tuple sa
  obtain ⟨jts, r0, tp, -⟩ := I.tuple sp
  cases r0
  refine SeqAt.eq_tupleAt (e := fun _ => true) ta tp hr.units0 (fun j h1 h2 => absurd h2 (Nat.not_lt_zero j)) ?_
  rw [emp_size r]
  have e : (List.range (min its.toArray.size ([] : List Value).toArray.size)).all (fun _ => true) = true := List.all_eq_true.mpr fun _ _ => rfl
  rw [e, Bool.true_and]
  exact ⟨.bl _, H, I, rfl, q⟩
theorem op_ne0 (hk : X.K = K) {k : Nat} (hr : Room k X.A) : OpR X (compareOp .NotEq) (rEq0 K true) := by
  subst hk
  intro pins s σ H x y v u Q I rx ry hq
  obtain ⟨a, p, xs, rfl, rfl, sa, sp, q⟩ := hq
  cases rx
  cases ry
  obtain ⟨its, r, ta, -⟩ := I.tuple sa
  obtain ⟨jts, r0, tp, -⟩ := I.tuple sp
  cases r0
  have h := RcNeAt.tuples (A := X.A) (e := fun _ => true) ta tp hr.units0 (fun j h1 h2 => absurd h2 (Nat.not_lt_zero j))
  rw [emp_size r] at h
  have e : (List.range (min its.toArray.size ([] : List Value).toArray.size)).all (fun _ => true) = true := List.all_eq_true.mpr fun _ _ => rfl
  rw [e, Bool.true_and] at h
  exact h _ _ _ _ ⟨.bl _, H, I, rfl, q⟩
/-- a list == [] -/
def rEqL0 (neg : Bool) : R2 := fun x y H Q => ∃ (a p : Addr) (xs : List V), x = .ref a ∧ y = .ref p ∧ H a = some (.lst xs) ∧ H p = some (.lst []) ∧ Q (.bl (if neg then !xs.isEmpty else xs.isEmpty)) H
theorem op_eqL0 {k : Nat} (hr : Room k X.A) : OpR X (compareOp .Eq) (rEqL0 false) := by
  intro pins s σ H x y v u Q I rx ry hq
  obtain ⟨a, p, xs, rfl, rfl, sa, sp, q⟩ := hq
  cases rx
  cases ry
  obtain ⟨-, its, n, r, e1⟩ := (show ObjOk X.prog X.w H s.heap a (.lst xs) from I.hok a _ sa)
  obtain ⟨-, jts, n2, r2, e2⟩ := (show ObjOk X.prog X.w H s.heap p (.lst []) from I.hok p _ sp)
  cases r2
  cases r with
  | nil =>
    have h := RcAt.lists (A := X.A) (s := s) (items := #[]) (items2 := #[]) (e := fun _ => true) ⟨_, e1, rfl, n, rfl⟩ ⟨_, e2, rfl, n2, rfl⟩ rfl hr.units0 (fun j h1 h2 => absurd h2 (Nat.not_lt_zero j))
    exact h _ _ _ _ ⟨.bl _, H, I, rfl, q⟩
  | cons h1 r =>
    have h := RcAt.lists_lengths (A := X.A) (s := s) ⟨_, e1, rfl, n, rfl⟩ ⟨_, e2, rfl, n2, rfl⟩ (by simp) hr.units0
    exact h _ _ _ _ ⟨.bl _, H, I, rfl, q⟩
theorem op_neL0 {k : Nat} (hr : Room k X.A) : OpR X (compareOp .NotEq) (rEqL0 true) := by
  intro pins s σ H x y v u Q I rx ry hq
  obtain ⟨a, p, xs, rfl, rfl, sa, sp, q⟩ := hq
  cases rx
  cases ry
  obtain ⟨-, its, n, r, e1⟩ := (show ObjOk X.prog X.w H s.heap a (.lst xs) from I.hok a _ sa)
  obtain ⟨-, jts, n2, r2, e2⟩ := (show ObjOk X.prog X.w H s.heap p (.lst []) from I.hok p _ sp)
  cases r2
  cases r with
  | nil =>
    have h := RcNeAt.lists (A := X.A) (s := s) (items := #[]) (items2 := #[]) (e := fun _ => true) ⟨_, e1, rfl, n, rfl⟩ ⟨_, e2, rfl, n2, rfl⟩ rfl hr.units0 (fun j h1 h2 => absurd h2 (Nat.not_lt_zero j))
    exact h _ _ _ _ ⟨.bl _, H, I, rfl, q⟩
  | cons h1 r =>
    have h := RcNeAt.lists_lengths (A := X.A) (s := s) ⟨_, e1, rfl, n, rfl⟩ ⟨_, e2, rfl, n2, rfl⟩ (by simp) hr.units0
    exact h _ _ _ _ ⟨.bl _, H, I, rfl, q⟩
end
end FS

set_option Elab.async false
set_option linter.all false
set_option maxRecDepth 100000
set_option maxHeartbeats 4000000
/-! which values are terms: as the law and the program look at them -/
namespace FS
open PySem PySem.Spec PyProof.Rows L2
def kindZ (d : Dat) : Option Bool := if (["do", "seq", "or", "run", "call", "wrap"] : List Str).any d.eqS then some false else if (["own", "with"] : List Str).any d.eqS then some true else none
def kindO : Dat → Option Bool
  | .tup (d :: _) => kindZ d
  | _ => none
/-- the parts behind a head -/
def partsL {α : Type} (z : Str) (xs : List α) : List α := if z ∈ (["seq", "or", "wrap"] : List Str) then xs else if z ∈ (["call", "with"] : List Str) then xs.drop 1 else []
def nameB : Dat → Bool
  | .str z => wordB z
  | _ => false
def entryB : Dat → Bool
  | .non => true
  | .int i => decide ((0 : Int) ≤ i) && decide (i ≤ (2 : Int))
  | _ => false
def tabB : Dat → Bool
  | .tup ds => decide (1 ≤ ds.length ∧ ds.length ≤ 3) && ds.all entryB
  | _ => false
def hasB (own : List (Str × Bool)) (d : Dat) (k : Bool) : Bool := own.any fun p => d.eqS p.1 && p.2 == k
def doF : List Dat → Bool
  | [a, b] => nameB a && tabB b
  | _ => false
def oneF (own : List (Str × Bool)) (k : Bool) : List Dat → Bool
  | [a] => hasB own a k
  | _ => false
def calF : List Dat → Bool
  | a :: _ => nameB a
  | _ => false
def formB (own : List (Str × Bool)) (z : Str) (ds : List Dat) : Bool :=
  if z = "do" then doF ds
  else if z = "run" then oneF own false ds
  else if z = "own" then oneF own true ds
  else if z ∈ (["call", "with"] : List Str) then calF ds
  else if z = "wrap" then decide (ds.length = 2)
  else if z = "or" then !ds.isEmpty
  else decide (z = "seq")
def allowZ (z : Str) (n : Nat) : List (List Bool) := if z = "wrap" then [[true], [false]] else if z ∈ (["call", "with"] : List Str) then List.replicate n [false, true] else List.replicate n [false]
def pieceB (own : List (Str × Bool)) : Nat → Dat → Bool → Bool
  | n + 1, .tup (.str z :: ds), w => decide (kindZ (.str z) = some w) && (formB own z ds && ((partsL z ds).zip (allowZ z (partsL z ds).length)).all fun p => p.2.any (pieceB own n p.1))
  | _, _, _ => false
def countN : Nat → Dat → Nat
  | n + 1, .tup (.str z :: ds) => 1 + ((partsL z ds).map (countN n)).sum
  | _, _ => 1
def termB (own : List (Str × Bool)) (d : Dat) : Bool := pieceB own 6 d false && decide (countN 6 d ≤ 40)
theorem countN_pos (n : Nat) (d : Dat) : 1 ≤ countN n d := by
  unfold countN
  split <;> omega
/-! ### parameters -/
def parB : Dat → Bool
  | .tup [a, b] => nameB a && (["block", "wrap"] : List Str).any b.eqS
  | _ => false
def firstS : Dat → Str
  | .tup (.str z :: _) => z
  | _ => ""
def parsB : Dat → Bool
  | .tup ds => decide (ds.length ≤ 3) && (ds.all parB && decide ((ds.map firstS).Nodup))
  | _ => false
/-! ### the term itself -/
section
variable {K : PySem.W.Frag} {H : Hp} {D : Addr}
theorem eqS_inv {d : Dat} {z : Str} (h : d.eqS z = true) : d = .str z := by
  cases d with
  | str y => rw [show z = y from eq_of_beq h]
  | _ => cases h
theorem any_inv {d : Dat} {zs : List Str} (h : zs.any d.eqS = true) : ∃ z ∈ zs, d = .str z := by
  obtain ⟨z, hz, e⟩ := List.any_eq_true.mp h
  exact ⟨z, hz, eqS_inv e⟩
theorem any_strs (z : Str) (zs : List Str) : zs.any (Dat.str z).eqS = decide (z ∈ zs) := by
  induction zs with
  | nil => rfl
  | cons y r ih =>
    rw [List.any_cons, ih]
    show ((y == z) || _) = _
    by_cases e : y = z
    · subst e
      simp
    · have e2 : ¬ z = y := fun w => e w.symm
      simp [e, e2]
theorem kind_inv {d : Dat} {b : Bool} (h : kindZ d = some b) : ∃ z, d = .str z := by
  unfold kindZ at h
  split at h
  · next e =>
    obtain ⟨z, _, rfl⟩ := any_inv e
    exact ⟨z, rfl⟩
  · split at h
    · next e =>
      obtain ⟨z, _, rfl⟩ := any_inv e
      exact ⟨z, rfl⟩
    · cases h
theorem kindO_inv {d : Dat} {b : Bool} (h : kindO d = some b) : ∃ z ds, d = .tup (.str z :: ds) := by
  cases d with
  | tup ds =>
    cases ds with
    | nil => cases h
    | cons x r =>
      obtain ⟨z, rfl⟩ := kind_inv (show kindZ x = some b from h)
      exact ⟨z, r, rfl⟩
  | _ => cases h
theorem hasB_str (own : List (Str × Bool)) (x : Str) (k : Bool) : hasB own (.str x) k = decide ((x, k) ∈ own) := by
  unfold hasB
  induction own with
  | nil => rfl
  | cons p r ih =>
    rw [List.any_cons, ih]
    obtain ⟨y, j⟩ := p
    show (((y == x) && (j == k)) || _) = _
    by_cases e : (x, k) = (y, j)
    · cases e
      simp
    · have : ((y == x) && (j == k)) = false := by
        refine Bool.eq_false_iff.mpr fun z => e ?_
        obtain ⟨h1, h2⟩ := Bool.and_eq_true_iff.mp z
        rw [eq_of_beq h1, eq_of_beq h2]
      rw [this]
      simp [e]
theorem hasB_inv {own : List (Str × Bool)} {d : Dat} {k : Bool} (h : hasB own d k = true) : ∃ x, d = .str x ∧ (x, k) ∈ own := by
  obtain ⟨p, hp, e⟩ := List.any_eq_true.mp h
  obtain ⟨e1, e2⟩ := Bool.and_eq_true_iff.mp e
  exact ⟨p.1, eqS_inv e1, by rw [← eq_of_beq e2]; exact hp⟩
theorem hasB_no {own : List (Str × Bool)} {d : Dat} {k : Bool} (h : ∀ x, d ≠ .str x) : hasB own d k = false := Bool.eq_false_iff.mpr fun z => by
  obtain ⟨x, e, _⟩ := hasB_inv z
  exact h x e
theorem nameB_inv {d : Dat} (h : nameB d = true) : ∃ z, d = .str z ∧ wordB z = true := by
  cases d with
  | str z => exact ⟨z, rfl, h⟩
  | _ => cases h
theorem entries_of : ∀ {vs : List V} {ds : List Dat}, AtAll K H D vs ds → ds.all entryB = true → ∃ t : List (Option Nat), DpAll K H vs (t.map entryD) ∧ t.length = ds.length ∧ (t.all fun e => match e with | none => true | some n => decide (n < 3)) = true
  | _, _, .nil, _ => ⟨[], .nil, rfl, rfl⟩
  | _, _, .cons (d := d) h r, e => by
    obtain ⟨e1, e2⟩ := Bool.and_eq_true_iff.mp (show (entryB d && _) = true from e)
    obtain ⟨t, h1, h2, h3⟩ := entries_of r e2
    cases h with
    | non => exact ⟨none :: t, .cons .non h1, congrArg (· + 1) h2, h3⟩
    | int i =>
      obtain ⟨e3, e4⟩ := Bool.and_eq_true_iff.mp (show (decide ((0 : Int) ≤ i) && decide (i ≤ (2 : Int))) = true from e1)
      have e3 := of_decide_eq_true e3
      have e4 := of_decide_eq_true e4
      obtain ⟨n, rfl⟩ := Int.eq_ofNat_of_zero_le e3
      refine ⟨some n :: t, .cons (.int _) h1, congrArg (· + 1) h2, ?_⟩
      show (decide (n < 3) && _) = true
      rw [decide_eq_true (by omega), h3]
      rfl
    | bl b => cases e1
    | str z l => cases e1
    | tup s r => cases e1
    | lst n e => cases e1
    | dct n e => cases e1
/-- the parts as terms -/
theorem parts_of {own : List (Str × Bool)} {n : Nat} (ih : ∀ {v : V} {d : Dat} {w : Bool}, pieceB own n d w = true → At K H D v d → ∃ t : Tm, Dp K H v t.data ∧ Good own t ∧ t.isW = w ∧ t.count = countN n d ∧ t.deep ≤ n) :
    ∀ {vs : List V} {ds : List Dat} {as : List (List Bool)}, AtAll K H D vs ds → as.length = ds.length → ((ds.zip as).all fun p => p.2.any (pieceB own n p.1)) = true →
    ∃ ks : List Tm, DpAll K H vs (datas ks) ∧ (∀ t ∈ ks, Good own t) ∧ ks.length = ds.length ∧ counts ks = (ds.map (countN n)).sum ∧ deeps ks ≤ n ∧ ((ks.map Tm.isW).zip as).all (fun p => p.2.any (· == p.1)) = true
  | _, _, as, .nil, _, _ => ⟨[], .nil, (fun t h => nomatch h), rfl, rfl, Nat.zero_le _, by simp⟩
  | _, _, [], .cons h r, l, e => by cases l
  | _, _, a :: as, .cons (d := d) (ds := ds) h r, l, e => by
    obtain ⟨e1, e2⟩ := Bool.and_eq_true_iff.mp (show (a.any (pieceB own n d) && _) = true from e)
    obtain ⟨w, hw, e1⟩ := List.any_eq_true.mp e1
    obtain ⟨t, h1, h2, h3, h4, h5⟩ := ih e1 h
    obtain ⟨ks, k1, k2, k3, k4, k5, k6⟩ := parts_of ih r (Nat.succ.inj l) e2
    refine ⟨t :: ks, .cons h1 k1, fun u hu => ?_, congrArg (· + 1) k3, ?_, ?_, ?_⟩
    · rcases List.mem_cons.mp hu with rfl | hu
      · exact h2
      · exact k2 u hu
    · rw [counts_cons, h4, k4]
      rfl
    · show max t.deep (deeps ks) ≤ n
      omega
    · refine Bool.and_eq_true_iff.mpr ⟨?_, k6⟩
      show (a.any (· == t.isW)) = true
      rw [h3]
      exact List.any_eq_true.mpr ⟨w, hw, beq_self_eq_true w⟩
theorem zip_rep : ∀ {bs : List Bool} {n : Nat}, bs.length = n → ((bs.zip (List.replicate n [false])).all fun p => p.2.any (· == p.1)) = true → bs.all (! ·) = true
  | [], _, _, _ => rfl
  | b :: r, 0, l, _ => by cases l
  | b :: r, n + 1, l, h => by
    obtain ⟨h1, h2⟩ := Bool.and_eq_true_iff.mp (show (([false].any (· == b)) && ((r.zip (List.replicate n [false])).all fun p => p.2.any (· == p.1))) = true from h)
    show (!b && r.all (! ·)) = true
    rw [zip_rep (Nat.succ.inj l) h2]
    cases b
    · rfl
    · cases h1
end
end FS

set_option Elab.async false
set_option linter.all false
set_option maxRecDepth 100000
set_option maxHeartbeats 4000000
namespace FS
open PySem PySem.Spec PyProof.Rows L2
section
variable {own : List (Str × Bool)} {ds : List Dat}
theorem form_do : formB own "do" ds = doF ds := if_pos rfl
theorem form_run : formB own "run" ds = oneF own false ds := by
  unfold formB
  rw [if_neg (by decide +kernel), if_pos rfl]
theorem form_own : formB own "own" ds = oneF own true ds := by
  unfold formB
  rw [if_neg (by decide +kernel), if_neg (by decide +kernel), if_pos rfl]
theorem form_call : formB own "call" ds = calF ds := by
  unfold formB
  rw [if_neg (by decide +kernel), if_neg (by decide +kernel), if_neg (by decide +kernel), if_pos (by decide +kernel)]
theorem form_with : formB own "with" ds = calF ds := by
  unfold formB
  rw [if_neg (by decide +kernel), if_neg (by decide +kernel), if_neg (by decide +kernel), if_pos (by decide +kernel)]
theorem form_wrap : formB own "wrap" ds = decide (ds.length = 2) := by
  unfold formB
  rw [if_neg (by decide +kernel), if_neg (by decide +kernel), if_neg (by decide +kernel), if_neg (by decide +kernel), if_pos rfl]
theorem form_or : formB own "or" ds = !ds.isEmpty := by
  unfold formB
  rw [if_neg (by decide +kernel), if_neg (by decide +kernel), if_neg (by decide +kernel), if_neg (by decide +kernel), if_neg (by decide +kernel), if_pos rfl]
theorem form_seq : formB own "seq" ds = true := by
  unfold formB
  rw [if_neg (by decide +kernel), if_neg (by decide +kernel), if_neg (by decide +kernel), if_neg (by decide +kernel), if_neg (by decide +kernel), if_neg (by decide +kernel)]
  exact decide_eq_true rfl
end
section
variable {α : Type} {xs : List α}
theorem parts_a {z : Str} (h : z ∈ (["seq", "or", "wrap"] : List Str)) : partsL z xs = xs := if_pos h
theorem parts_b {z : Str} (h : z ∉ (["seq", "or", "wrap"] : List Str)) (h2 : z ∈ (["call", "with"] : List Str)) : partsL z xs = xs.drop 1 := by
  unfold partsL
  rw [if_neg h, if_pos h2]
theorem parts_c {z : Str} (h : z ∉ (["seq", "or", "wrap"] : List Str)) (h2 : z ∉ (["call", "with"] : List Str)) : partsL z xs = [] := by
  unfold partsL
  rw [if_neg h, if_neg h2]
end
theorem allow_w {n : Nat} : allowZ "wrap" n = [[true], [false]] := if_pos rfl
theorem allow_b {z : Str} {n : Nat} (h : z ≠ "wrap") (h2 : z ∈ (["call", "with"] : List Str)) : allowZ z n = List.replicate n [false, true] := by
  unfold allowZ
  rw [if_neg h, if_pos h2]
theorem allow_c {z : Str} {n : Nat} (h : z ≠ "wrap") (h2 : z ∉ (["call", "with"] : List Str)) : allowZ z n = List.replicate n [false] := by
  unfold allowZ
  rw [if_neg h, if_neg h2]
theorem kindZ_str (z : Str) : kindZ (.str z) = if z ∈ (["do", "seq", "or", "run", "call", "wrap"] : List Str) then some false else if z ∈ (["own", "with"] : List Str) then some true else none := by
  unfold kindZ
  rw [any_strs, any_strs]
  simp
theorem tags_inv {z : Str} {w : Bool} (h : kindZ (.str z) = some w) : (w = false ∧ (z = "do" ∨ z = "seq" ∨ z = "or" ∨ z = "run" ∨ z = "call" ∨ z = "wrap")) ∨ (w = true ∧ (z = "own" ∨ z = "with")) := by
  rw [kindZ_str] at h
  by_cases e : z ∈ (["do", "seq", "or", "run", "call", "wrap"] : List Str)
  · rw [if_pos e] at h
    cases h
    exact .inl ⟨rfl, by simpa using e⟩
  · rw [if_neg e] at h
    by_cases e2 : z ∈ (["own", "with"] : List Str)
    · rw [if_pos e2] at h
      cases h
      exact .inr ⟨rfl, by simpa using e2⟩
    · rw [if_neg e2] at h
      cases h
theorem piece_eq {own : List (Str × Bool)} {n : Nat} {z : Str} {ds : List Dat} {w : Bool} : pieceB own (n + 1) (.tup (.str z :: ds)) w = (decide (kindZ (.str z) = some w) && (formB own z ds && ((partsL z ds).zip (allowZ z (partsL z ds).length)).all fun p => p.2.any (pieceB own n p.1))) := by
  rw [pieceB]
theorem piece_inv {own : List (Str × Bool)} {n : Nat} {d : Dat} {w : Bool} (h : pieceB own (n + 1) d w = true) : ∃ z ds, d = .tup (.str z :: ds) ∧ kindZ (.str z) = some w ∧ formB own z ds = true ∧ (((partsL z ds).zip (allowZ z (partsL z ds).length)).all fun p => p.2.any (pieceB own n p.1)) = true := by
  cases d with
  | tup ds =>
    cases ds with
    | nil => unfold pieceB at h; cases h
    | cons x r =>
      cases x with
      | str z =>
        rw [piece_eq] at h
        obtain ⟨h1, h2⟩ := Bool.and_eq_true_iff.mp h
        obtain ⟨h2, h3⟩ := Bool.and_eq_true_iff.mp h2
        exact ⟨z, r, rfl, of_decide_eq_true h1, h2, h3⟩
      | _ => unfold pieceB at h; cases h
  | _ => unfold pieceB at h; cases h
theorem count_eqZ {n : Nat} {z : Str} {ds : List Dat} : countN (n + 1) (.tup (.str z :: ds)) = 1 + ((partsL z ds).map (countN n)).sum := by
  rw [countN]
theorem Hd.ok_call {own : List (Str × Bool)} {m : Str} {n : Nat} : (Hd.call m).ok own n = wordB m := rfl
section
variable {K : PySem.W.Frag} {H : Hp} {D : Addr}
theorem piece_tm {own : List (Str × Bool)} : ∀ (n : Nat) {v : V} {d : Dat} {w : Bool}, pieceB own n d w = true → At K H D v d → ∃ t : Tm, Dp K H v t.data ∧ Good own t ∧ t.isW = w ∧ t.count = countN n d ∧ t.deep ≤ n
  | 0, v, d, w, h, _ => by
    unfold pieceB at h
    cases h
  | n + 1, v, d, w, h, x => by
    obtain ⟨z, ds, rfl, hk, hf, hp⟩ := piece_inv h
    obtain ⟨a, xs, rfl, sq, r⟩ := x.tup_inv
    cases r with
    | cons hz r =>
    obtain ⟨rfl, -⟩ := hz.str_inv
    rw [count_eqZ]
    have mk : ∀ (hd : Hd) (ks : List Tm) (rs kv : List V), hd.tag = z → hd.isW = w → DpAll K H rs hd.rest → DpAll K H kv (datas ks) → hd.ok own ks.length = true → hd.kidsOk (ks.map Tm.isW) = true → (∀ t ∈ ks, Good own t) → counts ks = ((partsL z ds).map (countN n)).sum → deeps ks ≤ n → SqT K H a (V.str z :: (rs ++ kv)) →
        ∃ t : Tm, Dp K H (.ref a) t.data ∧ Good own t ∧ t.isW = w ∧ t.count = 1 + ((partsL z ds).map (countN n)).sum ∧ t.deep ≤ n + 1 := fun hd ks rs kv et ew r1 r2 ok kk gd ct dp sq => by
      subst et
      refine ⟨.mk hd ks, .tup sq (.cons (.str _) (DpAll.app r1 r2)), .mk ok kk gd, ew, ?_, ?_⟩
      · rw [count_eq]
        show 1 + counts ks = _
        rw [ct]
      · show deeps ks + 1 ≤ n + 1
        omega
    have par : ∀ {vs : List V} {es : List Dat} {as : List (List Bool)}, AtAll K H D vs es → as.length = es.length → ((es.zip as).all fun p => p.2.any (pieceB own n p.1)) = true → _ := fun {vs es as} => parts_of (K := K) (H := H) (D := D) (vs := vs) (ds := es) (as := as) (fun h x => piece_tm n h x)
    have leaf : ∀ {z' : Str}, z' = z → z' ∉ (["seq", "or", "wrap"] : List Str) → z' ∉ (["call", "with"] : List Str) → counts [] = ((partsL z ds).map (countN n)).sum := fun {z'} e h1 h2 => by
      subst e
      rw [parts_c h1 h2]
      rfl
    rcases tags_inv hk with ⟨rfl, rfl | rfl | rfl | rfl | rfl | rfl⟩ | ⟨rfl, rfl | rfl⟩
    · -- do
      rw [form_do] at hf
      rcases ds with _ | ⟨d1, _ | ⟨d2, _ | ⟨d3, ds⟩⟩⟩
      · cases hf
      · cases hf
      · obtain ⟨f1, f2⟩ := Bool.and_eq_true_iff.mp (show (nameB d1 && tabB d2) = true from hf)
        obtain ⟨y, rfl, wy⟩ := nameB_inv f1
        cases d2 with
        | tup es =>
          obtain ⟨f3, f4⟩ := Bool.and_eq_true_iff.mp (show (decide (1 ≤ es.length ∧ es.length ≤ 3) && es.all entryB) = true from f2)
          have f3 := of_decide_eq_true f3
          cases r with
          | cons h1 r => cases r with
            | cons h2 r =>
            cases r
            obtain ⟨rfl, -⟩ := h1.str_inv
            obtain ⟨b, ys, rfl, sb, rb⟩ := h2.tup_inv
            obtain ⟨t, t1, t2, t3⟩ := entries_of rb f4
            refine mk (.deed y t) [] [.str y, .ref b] [] rfl rfl (.cons (.str _) (.cons (.tup sb t1) .nil)) .nil ?_ rfl (fun t h => nomatch h) (leaf rfl (by decide +kernel) (by decide +kernel)) (Nat.zero_le _) sq
            show (wordB y && decide (1 ≤ t.length ∧ t.length ≤ 3) && _ && decide (0 = 0)) = true
            rw [wy, t2, decide_eq_true f3]
            exact Bool.and_eq_true_iff.mpr ⟨Bool.and_eq_true_iff.mpr ⟨rfl, t3⟩, rfl⟩
        | _ => cases f2
      · cases hf
    · -- seq
      rw [parts_a (by decide +kernel), allow_c (by decide +kernel) (by decide +kernel)] at hp
      obtain ⟨ks, k1, k2, k3, k4, k5, k6⟩ := par r (by simp) hp
      exact mk .seq ks [] _ rfl rfl .nil k1 rfl (zip_rep (by rw [List.length_map, k3]) k6) k2 (by rw [parts_a (by decide +kernel)]; exact k4) k5 sq
    · -- or
      rw [parts_a (by decide +kernel), allow_c (by decide +kernel) (by decide +kernel)] at hp
      obtain ⟨ks, k1, k2, k3, k4, k5, k6⟩ := par r (by simp) hp
      rw [form_or] at hf
      refine mk .alt ks [] _ rfl rfl .nil k1 (decide_eq_true ?_) (zip_rep (by rw [List.length_map, k3]) k6) k2 (by rw [parts_a (by decide +kernel)]; exact k4) k5 sq
      cases ds with
      | nil => cases hf
      | cons x y =>
        rw [k3]
        exact Nat.succ_pos _
    · -- run
      rw [form_run] at hf
      rcases ds with _ | ⟨d1, _ | ⟨d2, ds⟩⟩
      · cases hf
      · obtain ⟨y, rfl, my⟩ := hasB_inv (show hasB own d1 false = true from hf)
        cases r with
        | cons h1 r =>
          cases r
          obtain ⟨rfl, -⟩ := h1.str_inv
          refine mk (.run y) [] [.str y] [] rfl rfl (.cons (.str _) .nil) .nil ?_ rfl (fun t h => nomatch h) (leaf rfl (by decide +kernel) (by decide +kernel)) (Nat.zero_le _) sq
          show (decide ((y, false) ∈ own) && decide (0 = 0)) = true
          rw [decide_eq_true my]
          rfl
      · cases hf
    · -- call
      rw [form_call] at hf
      rw [parts_b (by decide +kernel) (by decide +kernel), allow_b (by decide +kernel) (by decide +kernel)] at hp
      cases ds with
      | nil => cases hf
      | cons d1 ds =>
        obtain ⟨y, rfl, wy⟩ := nameB_inv (show nameB d1 = true from hf)
        cases r with
        | cons h1 r =>
          obtain ⟨rfl, -⟩ := h1.str_inv
          obtain ⟨ks, k1, k2, k3, k4, k5, k6⟩ := par r (by simp) hp
          exact mk (.call y) ks [.str y] _ rfl rfl (.cons (.str _) .nil) k1 wy rfl k2 (by rw [parts_b (by decide +kernel) (by decide +kernel)]; exact k4) k5 sq
    · -- wrap
      rw [form_wrap] at hf
      have l2 := of_decide_eq_true hf
      rw [parts_a (by decide +kernel), allow_w] at hp
      obtain ⟨ks, k1, k2, k3, k4, k5, k6⟩ := par r (by rw [l2]; rfl) hp
      rw [l2] at k3
      refine mk .wrp ks [] _ rfl rfl .nil k1 (decide_eq_true k3) (decide_eq_true ?_) k2 (by rw [parts_a (by decide +kernel)]; exact k4) k5 sq
      rcases ks with _ | ⟨t1, _ | ⟨t2, _ | ⟨t3, ks⟩⟩⟩
      · cases k3
      · cases k3
      · simp at k6
        simp [k6]
      · cases k3
    · -- own
      rw [form_own] at hf
      rcases ds with _ | ⟨d1, _ | ⟨d2, ds⟩⟩
      · cases hf
      · obtain ⟨y, rfl, my⟩ := hasB_inv (show hasB own d1 true = true from hf)
        cases r with
        | cons h1 r =>
          cases r
          obtain ⟨rfl, -⟩ := h1.str_inv
          refine mk (.own y) [] [.str y] [] rfl rfl (.cons (.str _) .nil) .nil ?_ rfl (fun t h => nomatch h) (leaf rfl (by decide +kernel) (by decide +kernel)) (Nat.zero_le _) sq
          show (decide ((y, true) ∈ own) && decide (0 = 0)) = true
          rw [decide_eq_true my]
          rfl
      · cases hf
    · -- with
      rw [form_with] at hf
      rw [parts_b (by decide +kernel) (by decide +kernel), allow_b (by decide +kernel) (by decide +kernel)] at hp
      cases ds with
      | nil => cases hf
      | cons d1 ds =>
        obtain ⟨y, rfl, wy⟩ := nameB_inv (show nameB d1 = true from hf)
        cases r with
        | cons h1 r =>
          obtain ⟨rfl, -⟩ := h1.str_inv
          obtain ⟨ks, k1, k2, k3, k4, k5, k6⟩ := par r (by simp) hp
          exact mk (.wth y) ks [.str y] _ rfl rfl (.cons (.str _) .nil) k1 wy rfl k2 (by rw [parts_b (by decide +kernel) (by decide +kernel)]; exact k4) k5 sq
end
end FS

set_option Elab.async false
set_option linter.all false
set_option maxRecDepth 100000
set_option maxHeartbeats 4000000
/-! the promises of the program's functions, for any value -/
namespace FS
open PySem PySem.Spec PyProof.Rows L2
open PySem.SeqAt
/-! ### how deep, how wide, how much -/
mutual
def Dat.deep : Dat → Nat
  | .tup ds => deepsD ds + 1
  | _ => 0
def deepsD : List Dat → Nat
  | [] => 0
  | d :: r => max d.deep (deepsD r)
end
mutual
def Dat.wide : Dat → Nat
  | .tup ds => max ds.length (widesD ds)
  | _ => 0
def widesD : List Dat → Nat
  | [] => 0
  | d :: r => max d.wide (widesD r)
end
mutual
def Dat.size : Dat → Nat
  | .tup ds => sizesD ds + 1
  | _ => 1
def sizesD : List Dat → Nat
  | [] => 0
  | d :: r => d.size + sizesD r
end
theorem deepsD_app (a b : List Dat) : deepsD (a ++ b) = max (deepsD a) (deepsD b) := by
  induction a with
  | nil => show _ = max 0 _; simp
  | cons d r ih => show max d.deep (deepsD (r ++ b)) = max (max d.deep (deepsD r)) (deepsD b); rw [ih]; omega
theorem widesD_app (a b : List Dat) : widesD (a ++ b) = max (widesD a) (widesD b) := by
  induction a with
  | nil => show _ = max 0 _; simp
  | cons d r ih => show max d.wide (widesD (r ++ b)) = max (max d.wide (widesD r)) (widesD b); rw [ih]; omega
theorem sizesD_app (a b : List Dat) : sizesD (a ++ b) = sizesD a + sizesD b := by
  induction a with
  | nil => show sizesD b = 0 + sizesD b; omega
  | cons d r ih => show d.size + sizesD (r ++ b) = (d.size + sizesD r) + sizesD b; rw [ih]; omega
theorem widesD_mem : ∀ {ds : List Dat} {d : Dat}, d ∈ ds → d.wide ≤ widesD ds
  | u :: r, d, h => by
    show d.wide ≤ max u.wide (widesD r)
    rcases List.mem_cons.mp h with rfl | h
    · omega
    · have := widesD_mem h
      omega
theorem deepsD_mem : ∀ {ds : List Dat} {d : Dat}, d ∈ ds → d.deep ≤ deepsD ds
  | u :: r, d, h => by
    show d.deep ≤ max u.deep (deepsD r)
    rcases List.mem_cons.mp h with rfl | h
    · omega
    · have := deepsD_mem h
      omega
theorem sizesD_drop (k : Nat) (ds : List Dat) : sizesD (ds.drop k) ≤ sizesD ds := by
  have := sizesD_app (ds.take k) (ds.drop k)
  rw [List.take_append_drop] at this
  omega
theorem size_pos (d : Dat) : 1 ≤ d.size := by
  cases d with
  | tup ds => show 1 ≤ sizesD ds + 1; omega
  | _ => exact Nat.le_refl _
theorem parts_sub {α : Type} {z : Str} {xs : List α} : partsL z xs = xs ∨ partsL z xs = xs.drop 1 ∨ partsL z xs = [] := by
  unfold partsL
  split
  · exact .inl rfl
  · split
    · exact .inr (.inl rfl)
    · exact .inr (.inr rfl)
theorem parts_mem {α : Type} {z : Str} {xs : List α} {x : α} (h : x ∈ partsL z xs) : x ∈ xs := by
  rcases parts_sub (z := z) (xs := xs) with e | e | e
  · rwa [e] at h
  · rw [e] at h
    exact List.mem_of_mem_drop h
  · rw [e] at h
    cases h
theorem parts_len {α : Type} {z : Str} {xs : List α} : (partsL z xs).length ≤ xs.length := by
  rcases parts_sub (z := z) (xs := xs) with e | e | e
  · rw [e]
    exact Nat.le_refl _
  · rw [e, List.length_drop]
    omega
  · rw [e]
    exact Nat.zero_le _
theorem parts_len2 {α β : Type} {z : Str} {xs : List α} {ys : List β} (h : xs.length = ys.length) : (partsL z xs).length = (partsL z ys).length := by
  unfold partsL
  split
  · exact h
  · split
    · rw [List.length_drop, List.length_drop, h]
    · rfl
theorem countN_size : ∀ (n : Nat) (d : Dat), countN n d ≤ d.size
  | 0, d => by
    unfold countN
    exact size_pos d
  | n + 1, d => by
    have sum : ∀ l : List Dat, (l.map (countN n)).sum ≤ sizesD l := fun l => by
      induction l with
      | nil => exact Nat.le_refl _
      | cons x r ih =>
        rw [List.map_cons, List.sum_cons]
        show countN n x + _ ≤ x.size + sizesD r
        have := countN_size n x
        omega
    cases d with
    | tup ds =>
      cases ds with
      | nil =>
        unfold countN
        exact size_pos _
      | cons x r =>
        cases x with
        | str z =>
          rw [count_eqZ]
          have h1 := sum (partsL z r)
          have h2 : sizesD (partsL z r) ≤ sizesD r := by
            rcases parts_sub (z := z) (xs := r) with e | e | e
            · rw [e]
              exact Nat.le_refl _
            · rw [e]
              exact sizesD_drop _ _
            · rw [e]
              exact Nat.zero_le _
          show _ ≤ (1 + sizesD r) + 1
          omega
        | _ =>
          unfold countN
          exact size_pos _
    | _ =>
      unfold countN
      exact size_pos _
/-! ### promises -/
def intB (d : Dat) (a b : Int) : Bool := match d with
  | .int i => decide (a ≤ i) && decide (i ≤ b)
  | _ => false
def kindV (d : Dat) : V := match kindO d with
  | some b => .str (kd b)
  | none => .non
def spIntA (K : PySem.W.Frag) : Sp := fun vs H Q _ => ∃ (D : Addr) (v : V) (d : Dat) (a b : Int), vs = [v, .int a, .int b] ∧ At K H D v d ∧ Q (.bl (intB d a b)) H
def spNameA (K : PySem.W.Frag) : Sp := fun vs H Q _ => ∃ (D : Addr) (v : V) (d : Dat), vs = [v] ∧ At K H D v d ∧ ∀ H', Same H H' → Q (.bl (nameB d)) H'
def spTabA (K : PySem.W.Frag) : Sp := fun vs H Q _ => ∃ (D : Addr) (v : V) (d : Dat), vs = [v] ∧ At K H D v d ∧ ∀ H', Same H H' → Q (.bl (tabB d)) H'
def spKindA (K : PySem.W.Frag) : Sp := fun vs H Q _ => ∃ (D : Addr) (v : V) (d : Dat), vs = [v] ∧ At K H D v d ∧ ∀ H', Same H H' → Q (kindV d) H'
def spPartsA (K : PySem.W.Frag) : Sp := fun vs H Q _ => ∃ (a : Addr) (z : Str) (xs : List V), vs = [.ref a] ∧ SqT K H a (V.str z :: xs) ∧ ∀ H' p, Same H H' → SqT K H' p (partsL z xs) → Q (.ref p) H'
def spKindsA (K : PySem.W.Frag) : Sp := fun vs H Q _ => ∃ (a : Addr) (z : Str) (xs : List V), vs = [.ref a] ∧ SqT K H a (V.str z :: xs) ∧ xs.length ≤ 1000 ∧ ∀ H' p kv, Same H H' → SqT K H' p kv → DpAll K H' kv ((allowZ z (partsL z xs).length).map kindsD) → Q (.ref p) H'
def spFormA (K : PySem.W.Frag) : Sp := fun vs H Q _ => ∃ (D a : Addr) (w : V) (z : Str) (ds : List Dat) (own : List (Str × Bool)), vs = [.ref a, w] ∧ At K H D (.ref a) (.tup (.str z :: ds)) ∧ Dp K H w (parsD own) ∧ ParOk own ∧ ∀ H', Same H H' → Q (.bl (formB own z ds)) H'
def spParA (K : PySem.W.Frag) : Sp := fun vs H Q _ => ∃ (D : Addr) (v : V) (d : Dat), vs = [v] ∧ At K H D v d ∧ ∀ H', Same H H' → Q (.bl (parB d)) H'
def spParsA (K : PySem.W.Frag) : Sp := fun vs H Q _ => ∃ (D : Addr) (v : V) (d : Dat), vs = [v] ∧ At K H D v d ∧ ∀ H', Same H H' → Q (.bl (parsB d)) H'
/-- what a body can be with some parameters, right or not -/
def spTermA (K : PySem.W.Frag) (CI : Addr) : Sp := fun vs H Q E => ∃ (D : Addr) (v w : V) (d e : Dat), vs = [v, w] ∧ At K H D v d ∧ d.wide ≤ 1000 ∧ At K H D w e ∧ (parsB e = false → ∀ H', Same H H' → E (.ref CI) none H') ∧ (parsB e = true → ∀ own, Dp K H w (parsD own) → ParOk own → ∀ H', Same H H' → Q (.bl (termB own d)) H')
/-! ### a pair in parameters -/
section
variable {X : Cx} {K : PySem.W.Frag} {H : Hp} {D : Addr}
theorem vals_atA {xs : List V} {its : List Value} (r : Vals xs its) {i : Nat} (h : i < its.toArray.size) : ∃ v, xs[i]? = some v ∧ RelV v its.toArray[i] := by
  have l1 : i < its.length := by simpa using h
  have l2 : i < xs.length := by rw [r.length]; exact l1
  obtain ⟨u, hu, ru⟩ := r.get (List.getElem?_eq_getElem l2)
  rw [List.getElem?_eq_getElem l1] at hu
  refine ⟨_, List.getElem?_eq_getElem l2, ?_⟩
  have e : its.toArray[i] = u := by
    rw [← Option.some.inj hu]
    simp
  rw [e]
  exact ru
theorem At.dpS {v : V} {z : Str} (h : At K H D v (.str z)) : Dp K H v (.str z) := by
  obtain ⟨rfl, -⟩ := h.str_inv
  exact .str z
def rInP (K : PySem.W.Frag) : R2 := fun x y H Q => ∃ (D p : Addr) (v : V) (d : Dat) (k : Bool) (own : List (Str × Bool)), x = .ref p ∧ SqT K H p [v, .str (kd k)] ∧ At K H D v d ∧ Dp K H y (parsD own) ∧ ParOk own ∧ Q (.bl (hasB own d k)) H
theorem op_inP (hk : X.K = K) {n : Nat} (hr : Room (n + 2) X.A) : OpR X (compareOp .In) (rInP K) := by
  subst hk
  intro pins s σ H x y v0 u0 Q I rx ry hq
  obtain ⟨D, p, v, d, k, own, rfl, sp, hd, hy, po, q⟩ := hq
  by_cases hs : ∃ z, d = .str z
  · obtain ⟨z, rfl⟩ := hs
    obtain ⟨rfl, -, hz⟩ := hd.str_inv
    refine op_inT (u65 hr) pins s σ H (.ref p) y v0 u0 Q I rx ry ⟨parD (z, k), own.map parD, .tup sp (.cons (.str _) (.cons (.str _) .nil)), hy, par_shaped k hz, pars_shaped po, ?_⟩
    show Q (.bl ((own.map parD).any fun y => PyData.eqv y (parD (z, k)))) H
    rw [any_par, ← hasB_str]
    exact q
  · have no : ∀ x, d ≠ .str x := fun x e => hs ⟨x, e⟩
    rw [hasB_no no] at q
    obtain ⟨b, ys, rfl, sb, rb⟩ := Dp.tup_inv (show Dp X.K H y (.tuple (own.map parD)) from hy)
    cases rx
    cases ry
    obtain ⟨its, rv, tb, -⟩ := I.tuple sb
    obtain ⟨jts, rw', tp, -⟩ := I.tuple sp
    refine SeqAt.in_tupleAt (fun _ => false) tb (fun y hy => ?_) ?_
    · obtain ⟨i, hi, ey⟩ := List.mem_iff_getElem.mp (show y ∈ its by simpa using hy)
      obtain ⟨x1, e1, r1⟩ := vals_atA rv (i := i) (by simpa using hi)
      obtain ⟨e, he, dx⟩ := DpAll.get rb e1
      rw [List.getElem?_map] at he
      obtain ⟨pr, hp, rfl⟩ := Option.map_eq_some_iff.mp he
      obtain ⟨c, zs, rfl, sc, rc⟩ := Dp.tup_inv (show Dp X.K H x1 (.tuple [.str pr.1, .str (kd pr.2)]) from dx)
      cases rc with
      | cons c1 rc => cases rc with
        | cons c2 rc =>
        cases rc
        cases Dp.str_inv c1
        cases Dp.str_inv c2
        have ey2 : y = Value.ref c := by
          have h : its.toArray[i] = Value.ref c := r1
          rw [← h, ← ey]
          simp
        subst ey2
        have ne : c ≠ p := fun z => by
          subst z
          have := I.tuple_inj sc sp
          have e0 : V.str pr.1 = v := (List.cons.inj this).1
          subst e0
          cases hd with
          | str z h => exact no _ rfl
        obtain ⟨kts, rk, tc, -⟩ := I.tuple sc
        refine EqAt.of_refs ne ?_
        cases rk with
        | cons k1 rk => cases rk with
          | cons k2 rk =>
          cases rk
          cases rw' with
          | cons j1 rj => cases rj with
            | cons j2 rj =>
            cases rj
            obtain ⟨t1, rfl⟩ := k1
            obtain ⟨t2, rfl⟩ := k2
            obtain ⟨t4, rfl⟩ := j2
            have h := RcAt.tuples (A := X.A.in1) (s := s) (e := fun j => decide (j ≠ 0) && (kd pr.2 == kd k)) tc tp hr.in1.units0 (fun j h1 h2 => by
              match j, h1, h2 with
              | 0, h1, h2 =>
                have := eqS_at (A := X.A.in1.in1) I hr.in1.in1.units0 hd j1 pr.1 t1
                have e : d.eqS pr.1 = false := Bool.eq_false_iff.mpr fun z => no _ (eqS_inv z)
                rw [e] at this
                exact this
              | 1, h1, h2 => exact EqAt.str_str _ _ _ _)
            exact h
    · rw [show its.toArray.any (fun _ => false) = false by simp]
      exact ⟨.bl false, H, I, rfl, q⟩
end
end FS

set_option Elab.async false
set_option linter.all false
set_option maxRecDepth 100000
set_option maxHeartbeats 4000000
namespace FS
open PySem PySem.Spec PyProof.Rows L2
theorem nodup_subA : ∀ {ns ms : List Str}, ns.Nodup → (∀ x, x ∈ ns → x ∈ ms) → ns.length ≤ ms.length
  | [], _, _, _ => Nat.zero_le _
  | x :: r, ms, n, s => by
    obtain ⟨n1, n2⟩ := List.nodup_cons.mp n
    have h := s x List.mem_cons_self
    have := nodup_subA (ns := r) (ms := ms.erase x) n2 fun y hy => (List.mem_erase_of_ne (fun z => n1 (by rw [← z]; exact hy))).mpr (s y (List.mem_cons_of_mem _ hy))
    rw [List.length_erase_of_mem h] at this
    have := List.length_pos_of_mem h
    rw [List.length_cons]
    omega
theorem nodup_eqA : ∀ {ns ms : List Str}, ns.Nodup → (∀ x, x ∈ ns → x ∈ ms) → ms.length ≤ ns.length → ms.Nodup
  | [], ms, _, _, l => by
    have : ms = [] := List.eq_nil_of_length_eq_zero (Nat.le_zero.mp l)
    rw [this]
    exact .nil
  | x :: r, ms, n, s, l => by
    obtain ⟨n1, n2⟩ := List.nodup_cons.mp n
    have h := s x List.mem_cons_self
    have sr : ∀ y, y ∈ r → y ∈ ms.erase x := fun y hy => (List.mem_erase_of_ne (fun z => n1 (by rw [← z]; exact hy))).mpr (s y (List.mem_cons_of_mem _ hy))
    have le : (ms.erase x).length ≤ r.length := by
      rw [List.length_erase_of_mem h]
      rw [List.length_cons] at l
      omega
    have m := nodup_eqA n2 sr le
    refine (List.perm_cons_erase h).nodup_iff.mpr (List.nodup_cons.mpr ⟨fun z => ?_, m⟩)
    have := nodup_subA n (ms := ms.erase x) fun y hy => by
      rcases List.mem_cons.mp hy with e | e
      · rw [e]
        exact z
      · exact sr y e
    rw [List.length_cons] at this
    omega
theorem nodup_of_uniq {l : List Str} (h : l.length ≤ (uniq l).length) : l.Nodup := nodup_eqA (uniq_nodup l) (fun x hx => (uniq_mem (l := l) (z := x)).mp hx) h
theorem uniq_of_nodup {l : List Str} (h : l.Nodup) : (uniq l).length = l.length := ((List.perm_ext_iff_of_nodup (uniq_nodup l) h).mpr fun z => uniq_mem).length_eq
end FS

set_option Elab.async false
set_option linter.all false
set_option maxRecDepth 100000
set_option maxHeartbeats 4000000
/-! the pile of is_term -/
namespace FS
open PySem PySem.Spec PyProof.Rows L2
structure It where
  d : Dat
  k : List Bool
  n : Nat
def okI (own : List (Str × Bool)) (r : It) : Bool := decide (r.n ≤ 6) && r.k.any (pieceB own (7 - r.n) r.d)
def cntI (r : It) : Nat := countN (7 - r.n) r.d
def ansI (own : List (Str × Bool)) (many : Nat) (rs : List It) : Bool := rs.all (okI own) && decide (many + (rs.map cntI).sum ≤ 40)
def newI (z : Str) (ds : List Dat) (n : Nat) : List It := ((partsL z ds).zip (allowZ z (partsL z ds).length)).map fun p => ⟨p.1, p.2, n + 1⟩
theorem ansI_start (own : List (Str × Bool)) (d : Dat) : ansI own 0 [⟨d, [false], 1⟩] = termB own d := by
  show (((decide (1 ≤ 6) && ([false].any (pieceB own 6 d))) && true) && decide (0 + (countN 6 d + 0) ≤ 40)) = (pieceB own 6 d false && decide (countN 6 d ≤ 40))
  rw [show ([false].any (pieceB own 6 d)) = pieceB own 6 d false by simp]
  simp
theorem ansI_bad {own : List (Str × Bool)} {many : Nat} {ini : List It} {r : It} (h : okI own r = false) : ansI own many (ini ++ [r]) = false := by
  unfold ansI
  rw [List.all_append, List.all_cons, h]
  simp
theorem ansI_many {own : List (Str × Bool)} {many : Nat} {ini : List It} {r : It} (h : 40 ≤ many) : ansI own many (ini ++ [r]) = false := by
  have := countN_pos (7 - r.n) r.d
  unfold ansI
  rw [List.map_append, List.sum_append]
  have e : ([r].map cntI).sum = countN (7 - r.n) r.d := Nat.add_zero _
  rw [e, decide_eq_false (by omega), Bool.and_false]
theorem pieceB_kind {own : List (Str × Bool)} {n : Nat} {d : Dat} {w : Bool} (h : pieceB own n d w = true) : kindO d = some w ∧ ∃ z ds, d = .tup (.str z :: ds) ∧ formB own z ds = true := by
  cases n with
  | zero =>
    unfold pieceB at h
    cases h
  | succ n =>
    obtain ⟨z, ds, rfl, h1, h2, -⟩ := piece_inv h
    exact ⟨h1, z, ds, rfl, h2⟩
theorem okI_kind {own : List (Str × Bool)} {r : It} (h : ∀ b, kindO r.d = some b → b ∉ r.k) : okI own r = false := by
  refine Bool.eq_false_iff.mpr fun z => ?_
  obtain ⟨w, hw, e⟩ := List.any_eq_true.mp (Bool.and_eq_true_iff.mp z).2
  exact h w (pieceB_kind e).1 hw
theorem okI_form {own : List (Str × Bool)} {r : It} {z : Str} {ds : List Dat} (e : r.d = .tup (.str z :: ds)) (h : formB own z ds = false) : okI own r = false := by
  refine Bool.eq_false_iff.mpr fun y => ?_
  obtain ⟨w, hw, e2⟩ := List.any_eq_true.mp (Bool.and_eq_true_iff.mp y).2
  obtain ⟨-, z', ds', e3, e4⟩ := pieceB_kind e2
  rw [e] at e3
  cases e3
  rw [h] at e4
  cases e4
theorem okI_deep {own : List (Str × Bool)} {r : It} (h : 6 < r.n) : okI own r = false := by
  unfold okI
  rw [decide_eq_false (by omega)]
  rfl
theorem allowZ_len {own : List (Str × Bool)} {z : Str} {ds : List Dat} (h : formB own z ds = true) : (allowZ z (partsL z ds).length).length = (partsL z ds).length := by
  by_cases e : z = "wrap"
  · subst e
    rw [form_wrap] at h
    rw [allow_w, parts_a (by decide +kernel), of_decide_eq_true h]
    rfl
  · by_cases e2 : z ∈ (["call", "with"] : List Str)
    · rw [allow_b e e2, List.length_replicate]
    · rw [allow_c e e2, List.length_replicate]
theorem zip_fst : ∀ {α β : Type} {xs : List α} {ys : List β}, ys.length = xs.length → (xs.zip ys).map (·.1) = xs
  | _, _, [], ys, _ => by simp
  | _, _, x :: xs, [], h => by cases h
  | _, _, x :: xs, y :: ys, h => by
    rw [List.zip_cons_cons, List.map_cons, zip_fst (Nat.succ.inj h)]
theorem ansI_step {own : List (Str × Bool)} {many : Nat} {ini : List It} {r : It} {z : Str} {ds : List Dat} {b : Bool} (hn : r.n ≤ 6) (e : r.d = .tup (.str z :: ds)) (hk : kindZ (.str z) = some b) (hb : b ∈ r.k) (hf : formB own z ds = true) :
    ansI own many (ini ++ [r]) = ansI own (many + 1) (ini ++ newI z ds r.n) := by
  obtain ⟨d, k, n⟩ := r
  have e : d = .tup (.str z :: ds) := e
  subst e
  have hn : n ≤ 6 := hn
  have hb : b ∈ k := hb
  obtain ⟨j, hj⟩ : ∃ j, 7 - n = j + 1 := ⟨6 - n, by omega⟩
  have hj2 : 7 - (n + 1) = j := by omega
  have ok : okI own ⟨.tup (.str z :: ds), k, n⟩ = (newI z ds n).all (okI own) := by
    show (decide (n ≤ 6) && k.any (pieceB own (7 - n) (.tup (.str z :: ds)))) = _
    rw [decide_eq_true hn, Bool.true_and, hj]
    have e1 : k.any (pieceB own (j + 1) (.tup (.str z :: ds))) = ((partsL z ds).zip (allowZ z (partsL z ds).length)).all fun p => p.2.any (pieceB own j p.1) := by
      have ew : ∀ w, pieceB own (j + 1) (.tup (.str z :: ds)) w = (decide (some b = some w) && ((partsL z ds).zip (allowZ z (partsL z ds).length)).all fun p => p.2.any (pieceB own j p.1)) := fun w => by
        rw [piece_eq, hk, hf, Bool.true_and]
      by_cases q : (((partsL z ds).zip (allowZ z (partsL z ds).length)).all fun p => p.2.any (pieceB own j p.1)) = true
      · rw [q]
        exact List.any_eq_true.mpr ⟨b, hb, by rw [ew, q, decide_eq_true rfl]; rfl⟩
      · have q := Bool.not_eq_true _ |>.mp q
        rw [q]
        refine Bool.eq_false_iff.mpr fun y => ?_
        obtain ⟨w, _, y⟩ := List.any_eq_true.mp y
        rw [ew, q, Bool.and_false] at y
        cases y
    rw [e1]
    unfold newI
    rw [List.all_map]
    congr 1
    funext p
    show p.2.any (pieceB own j p.1) = (decide (n + 1 ≤ 6) && p.2.any (pieceB own (7 - (n + 1)) p.1))
    rw [hj2]
    by_cases e6 : n + 1 ≤ 6
    · rw [decide_eq_true e6, Bool.true_and]
    · have j0 : j = 0 := by omega
      subst j0
      rw [decide_eq_false e6, Bool.false_and]
      refine Bool.eq_false_iff.mpr fun y => ?_
      obtain ⟨w, _, y⟩ := List.any_eq_true.mp y
      unfold pieceB at y
      cases y
  have ct : countN (7 - n) (.tup (.str z :: ds)) = 1 + ((newI z ds n).map cntI).sum := by
    rw [hj, count_eqZ]
    congr 1
    unfold newI
    rw [List.map_map]
    have e2 : (cntI ∘ fun p : Dat × List Bool => (⟨p.1, p.2, n + 1⟩ : It)) = (countN j ∘ fun p : Dat × List Bool => p.1) := by
      funext p
      show countN (7 - (n + 1)) p.1 = countN j p.1
      rw [hj2]
    rw [e2, ← List.map_map, zip_fst (allowZ_len hf)]
  unfold ansI
  rw [List.all_append, List.all_append, List.map_append, List.map_append, List.sum_append, List.sum_append]
  have e3 : ([(⟨.tup (.str z :: ds), k, n⟩ : It)].map cntI).sum = countN (7 - n) (.tup (.str z :: ds)) := Nat.add_zero _
  have e4 : [(⟨.tup (.str z :: ds), k, n⟩ : It)].all (okI own) = (newI z ds n).all (okI own) := by
    rw [← ok]
    simp
  rw [e3, e4, ct]
  congr 1
  show decide (many + ((ini.map cntI).sum + (1 + ((newI z ds n).map cntI).sum)) ≤ 40) = decide (many + 1 + ((ini.map cntI).sum + ((newI z ds n).map cntI).sum) ≤ 40)
  exact decide_eq_decide.mpr (by omega)
/-! ### in the heap -/
inductive Its (K : PySem.W.Frag) (H : Hp) (D : Addr) : List V → List It → Prop
  | nil : Its K H D [] []
  | cons {a : Addr} {pv kv : V} {r : It} {xs : List V} {rs : List It} (s : SqT K H a [pv, kv, .int (r.n : Int)]) (h : At K H D pv r.d) (k : Dp K H kv (kindsD r.k)) (t : Its K H D xs rs) : Its K H D (.ref a :: xs) (r :: rs)
section
variable {K : PySem.W.Frag} {H H' : Hp} {D : Addr} {xs ys : List V} {rs ss : List It}
theorem Its.app (a : Its K H D xs rs) (b : Its K H D ys ss) : Its K H D (xs ++ ys) (rs ++ ss) := by
  induction a with
  | nil => exact b
  | cons s h k _ ih => exact .cons s h k ih
theorem Its.len (a : Its K H D xs rs) : xs.length = rs.length := by
  induction a with
  | nil => rfl
  | cons s h k _ ih => exact congrArg (· + 1) ih
theorem kindsD_noL (bs : List Bool) : noL (kindsD bs) = true := by
  show noLs (bs.map _) = true
  induction bs with
  | nil => rfl
  | cons x r ih => exact ih
theorem At.kp {v : V} {d : Dat} (x : At K H D v d) (k : Kp D H H') (t : TK H H') : At K H' D v d := x.tk t fun b o n e _ => k b o n e
theorem AtAll.kp {vs : List V} {ds : List Dat} (x : AtAll K H D vs ds) (k : Kp D H H') (t : TK H H') : AtAll K H' D vs ds := x.tk t fun b o n e _ => k b o n e
theorem Its.kp (a : Its K H D xs rs) (k : Kp D H H') (t : TK H H') : Its K H' D xs rs := by
  induction a with
  | nil => exact .nil
  | cons s h kk _ ih => exact .cons (t.sqT s) (h.kp k t) (Dp.tk t (kindsD_noL _) kk) ih
theorem Its.split : ∀ {rs ss : List It} {xs : List V}, Its K H D xs (rs ++ ss) → ∃ us ws, xs = us ++ ws ∧ Its K H D us rs ∧ Its K H D ws ss
  | [], ss, xs, a => ⟨[], xs, rfl, .nil, a⟩
  | r :: rs, ss, _, .cons s h k t => by
    obtain ⟨us, ws, rfl, h1, h2⟩ := Its.split t
    exact ⟨_ :: us, ws, rfl, .cons s h k h1, h2⟩
mutual
/-- a new address can be kept apart -/
theorem At.fresh {D' : Addr} (n : H D' = none) : ∀ {v : V} {d : Dat}, At K H D v d → At K H D' v d
  | _, _, .non => .non
  | _, _, .bl b => .bl b
  | _, _, .int i => .int i
  | _, _, .str z h => .str z h
  | _, _, .tup s r => .tup s (AtAll.fresh n r)
  | _, _, .lst _ e => .lst (fun z => by rw [z, n] at e; cases e) e
  | _, _, .dct _ e => .dct (fun z => by rw [z, n] at e; cases e) e
theorem AtAll.fresh {D' : Addr} (n : H D' = none) : ∀ {vs : List V} {ds : List Dat}, AtAll K H D vs ds → AtAll K H D' vs ds
  | _, _, .nil => .nil
  | _, _, .cons h r => .cons (At.fresh n h) (AtAll.fresh n r)
end
end
/-! ### parameters -/
def parDt (p : Str × Bool) : Dat := .tup [.str p.1, .str (kd p.2)]
theorem pars_at {K : PySem.W.Frag} {H : Hp} {D : Addr} {w : V} {own : List (Str × Bool)} (h : Dp K H w (parsD own)) (po : ParOk own) : At K H D w (.tup (own.map parDt)) ∧ parsB (.tup (own.map parDt)) = true := by
  obtain ⟨a, xs, rfl, sq, r⟩ := Dp.tup_inv (show Dp K H w (.tuple (own.map parD)) from h)
  have ra : ∀ {l : List (Str × Bool)} {vs : List V}, (∀ p ∈ l, wordB p.1 = true) → DpAll K H vs (l.map parD) → AtAll K H D vs (l.map parDt) := fun {l} => by
    induction l with
    | nil => intro vs _ h; cases h; exact .nil
    | cons p l ih =>
      intro vs hw h
      cases h with
      | cons h1 h2 =>
        obtain ⟨b, ys, rfl, sb, rb⟩ := Dp.tup_inv (show Dp K H _ (.tuple [.str p.1, .str (kd p.2)]) from h1)
        cases rb with
        | cons y1 rb => cases rb with
          | cons y2 rb =>
          cases rb
          cases Dp.str_inv y1
          cases Dp.str_inv y2
          have w1 := word_ok (hw p List.mem_cons_self)
          refine .cons (.tup sb (.cons (.str _ ⟨by omega, w1.1⟩) (.cons (.str _ ?_) .nil))) (ih (fun q hq => hw q (List.mem_cons_of_mem _ hq)) h2)
          cases p.2 <;> exact ⟨by decide +kernel, by decide +kernel⟩
  refine ⟨.tup sq (ra po.nms r), ?_⟩
  show (decide ((own.map parDt).length ≤ 3) && ((own.map parDt).all parB && decide (((own.map parDt).map firstS).Nodup))) = true
  have e1 : (own.map parDt).map firstS = own.map (·.1) := by
    rw [List.map_map]
    rfl
  have e2 : (own.map parDt).all parB = true := List.all_eq_true.mpr fun d hd => by
    obtain ⟨p, hp, rfl⟩ := List.mem_map.mp hd
    show (wordB p.1 && (["block", "wrap"] : List Str).any (Dat.str (kd p.2)).eqS) = true
    rw [po.nms p hp, any_strs]
    cases p.2 <;> decide +kernel
  rw [e1, e2, List.length_map, decide_eq_true po.few, decide_eq_true po.nd]
  rfl
theorem pars_of {K : PySem.W.Frag} {H : Hp} {D : Addr} {w : V} {e : Dat} (h : At K H D w e) (b : parsB e = true) : ∃ own, Dp K H w (parsD own) ∧ ParOk own := by
  cases e with
  | tup ds =>
    obtain ⟨b1, b2⟩ := Bool.and_eq_true_iff.mp (show (decide (ds.length ≤ 3) && (ds.all parB && decide ((ds.map firstS).Nodup))) = true from b)
    obtain ⟨b2, b3⟩ := Bool.and_eq_true_iff.mp b2
    have b1 := of_decide_eq_true b1
    have b3 := of_decide_eq_true b3
    obtain ⟨a, xs, rfl, sq, r⟩ := h.tup_inv
    have go : ∀ {l : List Dat} {vs : List V}, l.all parB = true → AtAll K H D vs l → ∃ own : List (Str × Bool), DpAll K H vs (own.map parD) ∧ own.map (·.1) = l.map firstS ∧ (∀ p ∈ own, wordB p.1 = true) := fun {l} => by
      induction l with
      | nil => intro vs _ h; cases h; exact ⟨[], .nil, rfl, fun p h => nomatch h⟩
      | cons d l ih =>
        intro vs hp h
        obtain ⟨p1, p2⟩ := Bool.and_eq_true_iff.mp (show (parB d && _) = true from hp)
        cases h with
        | cons h1 h2 =>
          obtain ⟨own, o1, o2, o3⟩ := ih p2 h2
          cases d with
          | tup es =>
            rcases es with _ | ⟨d1, _ | ⟨d2, _ | ⟨d3, es⟩⟩⟩
            · cases p1
            · cases p1
            · obtain ⟨q1, q2⟩ := Bool.and_eq_true_iff.mp (show (nameB d1 && (["block", "wrap"] : List Str).any d2.eqS) = true from p1)
              obtain ⟨z, rfl, wz⟩ := nameB_inv q1
              obtain ⟨y, hy, rfl⟩ := any_inv q2
              obtain ⟨k, rfl⟩ : ∃ k, y = kd k := by
                rcases List.mem_cons.mp hy with rfl | hy
                · exact ⟨false, rfl⟩
                · cases List.mem_singleton.mp hy
                  exact ⟨true, rfl⟩
              obtain ⟨b, ys, rfl, sb, rb⟩ := h1.tup_inv
              cases rb with
              | cons y1 rb => cases rb with
                | cons y2 rb =>
                cases rb
                obtain ⟨rfl, -⟩ := y1.str_inv
                obtain ⟨rfl, -⟩ := y2.str_inv
                refine ⟨(z, k) :: own, .cons (.tup sb (.cons (.str _) (.cons (.str _) .nil))) o1, ?_, fun p hp => ?_⟩
                · rw [List.map_cons, List.map_cons, o2]
                  rfl
                · rcases List.mem_cons.mp hp with rfl | hp
                  · exact wz
                  · exact o3 p hp
            · cases p1
          | _ => cases p1
    obtain ⟨own, o1, o2, o3⟩ := go b2 r
    refine ⟨own, .tup sq o1, ⟨?_, o3, by rw [o2]; exact b3⟩⟩
    have := congrArg List.length o2
    rw [List.length_map, List.length_map] at this
    omega
  | _ => cases b
end FS

set_option Elab.async false
set_option linter.all false
set_option maxRecDepth 100000
set_option maxHeartbeats 4000000
namespace FS
open PySem PySem.Spec PyProof.Rows L2
def spTermN (K : PySem.W.Frag) : Sp := fun vs H Q _ => ∃ (D : Addr) (v w : V) (d : Dat) (own : List (Str × Bool)), vs = [v, w] ∧ At K H D v d ∧ d.wide ≤ 1000 ∧ Dp K H w (parsD own) ∧ ParOk own ∧ ∀ H', Same H H' → Q (.bl (termB own d)) H'
theorem inV_non (ys : List Str) : inV .non (ys.map V.str) = false := by
  unfold inV
  rw [List.any_map]
  induction ys with
  | nil => rfl
  | cons y r ih => rw [List.any_cons, ih]; rfl
theorem inV_kd (b : Bool) (k : List Bool) : inV (.str (kd b)) ((k.map kd).map V.str) = decide (b ∈ k) := by
  rw [inV_strs]
  refine decide_eq_decide.mpr ⟨fun h => ?_, fun h => List.mem_map_of_mem h⟩
  obtain ⟨c, hc, e⟩ := List.mem_map.mp h
  exact kd_inj e ▸ hc
theorem kindV_some {d : Dat} {b : Bool} (h : kindO d = some b) : kindV d = .str (kd b) := by
  unfold kindV
  rw [h]
theorem kindV_none {d : Dat} (h : kindO d = none) : kindV d = .non := by
  unfold kindV
  rw [h]
theorem newI_len (z : Str) (ds : List Dat) (n : Nat) : (newI z ds n).length ≤ (partsL z ds).length := by
  unfold newI
  rw [List.length_map, List.length_zip]
  exact Nat.min_le_left _ _
theorem newI_wide {z : Str} {ds : List Dat} {n : Nat} {r : It} (h : r ∈ newI z ds n) : r.d ∈ ds := by
  obtain ⟨p, hp, rfl⟩ := List.mem_map.mp h
  exact parts_mem (List.of_mem_zip hp).1
theorem AtAll.parts {K : PySem.W.Frag} {H : Hp} {D : Addr} {xs : List V} {ds : List Dat} {z : Str} (r : AtAll K H D xs ds) : AtAll K H D (partsL z xs) (partsL z ds) := by
  unfold partsL
  split
  · exact r
  · split
    · exact r.drop 1
    · exact .nil
end FS

set_option Elab.async false
set_option linter.all false
set_option maxRecDepth 100000
set_option maxHeartbeats 4000000
namespace FS
open PySem PySem.Spec PyProof.Rows L2
section
variable {own : List (Str × Bool)} {j : Nat} {z : Str} {ds : List Dat} {w : Bool}
theorem zip_same {ks : List Bool} {f : Dat → Bool → Bool} : ∀ {l : List Dat} {n : Nat}, n = l.length → ((l.zip (List.replicate n ks)).all fun p => p.2.any (f p.1)) = l.all fun d => ks.any (f d)
  | [], n, _ => by simp
  | d :: r, 0, h => by cases h
  | d :: r, n + 1, h => by
    rw [List.replicate_succ, List.zip_cons_cons, List.all_cons, List.all_cons, zip_same (Nat.succ.inj h)]
def wW (z : Str) : Bool := decide (z ∈ (["own", "with"] : List Str))
theorem mem8 {z : Str} : z ∈ (["do", "seq", "or", "run", "call", "wrap", "own", "with"] : List Str) ↔ z ∈ (["do", "seq", "or", "run", "call", "wrap"] : List Str) ∨ z ∈ (["own", "with"] : List Str) :=
  List.mem_append (s := (["do", "seq", "or", "run", "call", "wrap"] : List Str)) (t := (["own", "with"] : List Str))
theorem kindZ_eq (z : Str) (w : Bool) : decide (kindZ (.str z) = some w) = (decide (wW z = w) && decide (z ∈ (["do", "seq", "or", "run", "call", "wrap", "own", "with"] : List Str))) := by
  rw [kindZ_str]
  unfold wW
  by_cases e : z ∈ (["do", "seq", "or", "run", "call", "wrap"] : List Str)
  · have n2 : z ∉ (["own", "with"] : List Str) := by
      have e := e
      simp only [List.mem_cons, List.not_mem_nil, or_false] at e
      rcases e with rfl | rfl | rfl | rfl | rfl | rfl <;> decide +kernel
    have n3 : z ∈ (["do", "seq", "or", "run", "call", "wrap", "own", "with"] : List Str) := mem8.mpr (.inl e)
    rw [if_pos e, decide_eq_false n2, decide_eq_true n3, Bool.and_true]
    cases w <;> rfl
  · rw [if_neg e]
    by_cases e2 : z ∈ (["own", "with"] : List Str)
    · have n3 : z ∈ (["do", "seq", "or", "run", "call", "wrap", "own", "with"] : List Str) := mem8.mpr (.inr e2)
      rw [if_pos e2, decide_eq_true e2, decide_eq_true n3, Bool.and_true]
      cases w <;> rfl
    · have n3 : z ∉ (["do", "seq", "or", "run", "call", "wrap", "own", "with"] : List Str) := fun h => (mem8.mp h).elim e e2
      rw [if_neg e2, decide_eq_false n3, Bool.and_false]
      rfl
theorem p_kind (h : wW z ≠ w) : pieceB own (j + 1) (.tup (.str z :: ds)) w = false := by
  rw [piece_eq, kindZ_eq, decide_eq_false h]
  rfl
theorem p_unknown (h : z ∉ (["do", "seq", "or", "run", "call", "wrap", "own", "with"] : List Str)) : pieceB own (j + 1) (.tup (.str z :: ds)) w = false := by
  rw [piece_eq, kindZ_eq, decide_eq_false h, Bool.and_false]
  rfl
theorem p_form (h : wW z = w) (m : z ∈ (["do", "seq", "or", "run", "call", "wrap", "own", "with"] : List Str)) : pieceB own (j + 1) (.tup (.str z :: ds)) w = (formB own z ds && ((partsL z ds).zip (allowZ z (partsL z ds).length)).all fun p => p.2.any (pieceB own j p.1)) := by
  rw [piece_eq, kindZ_eq, decide_eq_true h, decide_eq_true m]
  rfl
theorem p_leaf (h : wW z = w) (m : z ∈ (["do", "seq", "or", "run", "call", "wrap", "own", "with"] : List Str)) (h1 : z ∉ (["seq", "or", "wrap"] : List Str)) (h2 : z ∉ (["call", "with"] : List Str)) : pieceB own (j + 1) (.tup (.str z :: ds)) w = formB own z ds := by
  rw [p_form h m, parts_c h1 h2]
  simp
theorem p_do (h : wW "do" = w) : pieceB own (j + 1) (.tup (.str "do" :: ds)) w = doF ds := by
  rw [p_leaf h (by decide +kernel) (by decide +kernel) (by decide +kernel), form_do]
theorem p_run (h : wW "run" = w) : pieceB own (j + 1) (.tup (.str "run" :: ds)) w = oneF own false ds := by
  rw [p_leaf h (by decide +kernel) (by decide +kernel) (by decide +kernel), form_run]
theorem p_own (h : wW "own" = w) : pieceB own (j + 1) (.tup (.str "own" :: ds)) w = oneF own true ds := by
  rw [p_leaf h (by decide +kernel) (by decide +kernel) (by decide +kernel), form_own]
theorem one_any : ∀ (d : Dat), ([false].any (pieceB own j d)) = pieceB own j d false := fun d => by simp
theorem p_seq (h : wW z = w) (m : z ∈ (["seq", "or"] : List Str)) : pieceB own (j + 1) (.tup (.str z :: ds)) w = ((decide (z = "seq") || !ds.isEmpty) && ds.all fun d => pieceB own j d false) := by
  have h3 : ∀ d, [false].any (pieceB own j d) = pieceB own j d false := fun d => by simp
  simp only [List.mem_cons, List.not_mem_nil, or_false] at m
  rcases m with rfl | rfl
  · rw [p_form h (by decide +kernel), form_seq, parts_a (by decide +kernel), allow_c (by decide +kernel) (by decide +kernel), zip_same rfl]
    simp only [h3]
    rfl
  · rw [p_form h (by decide +kernel), form_or, parts_a (by decide +kernel), allow_c (by decide +kernel) (by decide +kernel), zip_same rfl]
    simp only [h3]
    rfl
theorem p_wrap {a b : Dat} (h : wW "wrap" = w) : pieceB own (j + 1) (.tup [.str "wrap", a, b]) w = (pieceB own j a true && pieceB own j b false) := by
  rw [p_form h (by decide +kernel), form_wrap, parts_a (by decide +kernel), allow_w]
  simp
theorem p_wrapN (n : ds.length ≠ 2) : pieceB own (j + 1) (.tup (.str "wrap" :: ds)) w = false := by
  by_cases h : wW "wrap" = w
  · rw [p_form h (by decide +kernel), form_wrap, decide_eq_false n]
    rfl
  · exact p_kind h
theorem p_call {a : Dat} (h : wW z = w) (m : z ∈ (["call", "with"] : List Str)) : pieceB own (j + 1) (.tup (.str z :: a :: ds)) w = (nameB a && ds.all fun d => pieceB own j d false || pieceB own j d true) := by
  have h3 : ∀ d, [false, true].any (pieceB own j d) = (pieceB own j d false || pieceB own j d true) := fun d => by simp
  simp only [List.mem_cons, List.not_mem_nil, or_false] at m
  rcases m with rfl | rfl
  · rw [p_form h (by decide +kernel), form_call, parts_b (by decide +kernel) (by decide +kernel), allow_b (by decide +kernel) (by decide +kernel), zip_same rfl]
    simp only [h3]
    rfl
  · rw [p_form h (by decide +kernel), form_with, parts_b (by decide +kernel) (by decide +kernel), allow_b (by decide +kernel) (by decide +kernel), zip_same rfl]
    simp only [h3]
    rfl
theorem p_call0 (m : z ∈ (["call", "with"] : List Str)) : pieceB own (j + 1) (.tup [.str z]) w = false := by
  by_cases h : wW z = w
  · simp only [List.mem_cons, List.not_mem_nil, or_false] at m
    rcases m with rfl | rfl
    · rw [p_form h (by decide +kernel), form_call]
      rfl
    · rw [p_form h (by decide +kernel), form_with]
      rfl
  · exact p_kind h
theorem p_one (h : wW z = w) (m : z ∈ (["run", "own"] : List Str)) : pieceB own (j + 1) (.tup (.str z :: ds)) w = oneF own w ds := by
  simp only [List.mem_cons, List.not_mem_nil, or_false] at m
  rcases m with rfl | rfl
  · have e : w = false := h.symm.trans (by decide +kernel)
    subst e
    exact p_run h
  · have e : w = true := h.symm.trans (by decide +kernel)
    subst e
    exact p_own h
theorem p_zero {d : Dat} : pieceB own 0 d w = false := by
  unfold pieceB
  rfl
theorem p_other {n : Nat} {d : Dat} (h : ∀ z ds, d ≠ .tup (.str z :: ds)) : pieceB own n d w = false := by
  refine Bool.eq_false_iff.mpr fun e => ?_
  obtain ⟨-, z, ds, e, -⟩ := pieceB_kind e
  exact h z ds e
end
theorem names_hasB (own : List (Str × Bool)) (k : Bool) (d : Dat) : (namesOf own k).any d.eqS = hasB own d k := by
  unfold namesOf hasB
  induction own with
  | nil => rfl
  | cons p r ih =>
    rw [List.filter_cons]
    by_cases e : (p.2 == k) = true
    · rw [if_pos e, List.map_cons, List.any_cons, List.any_cons, ih, e, Bool.and_true]
    · rw [if_neg e, ih, List.any_cons, Bool.not_eq_true _ |>.mp e, Bool.and_false, Bool.false_or]
def nonB : Dat → Bool
  | .non => false
  | _ => true
theorem AtAll.filt {K : PySem.W.Frag} {H : Hp} {D : Addr} : ∀ {vs : List V} {ds : List Dat}, AtAll K H D vs ds → AtAll K H D (vs.filter fun x => !decide (x = V.non)) (ds.filter nonB)
  | _, _, .nil => .nil
  | _, _, .cons (v := v) h r => by
    have i := AtAll.filt r
    cases h with
    | non => exact i
    | bl b => exact .cons (.bl b) i
    | int b => exact .cons (.int b) i
    | str z h => exact .cons (.str z h) i
    | tup s q => exact .cons (.tup s q) i
    | lst n e => exact .cons (.lst n e) i
    | dct n e => exact .cons (.dct n e) i
theorem entries_filt (es : List Dat) : es.all entryB = (es.filter nonB).all fun d => intB d 0 2 := by
  induction es with
  | nil => rfl
  | cons d r ih =>
    rw [List.all_cons, ih]
    cases d <;> first | rfl | (rw [List.filter_cons]; rfl)
def spPiece (K : PySem.W.Frag) (n : Nat) : Sp := fun vs H Q _ => ∃ (D : Addr) (v w : V) (d : Dat) (own : List (Str × Bool)) (m : Nat) (b : Bool), vs = [v, w, .int (m : Int), .bl b] ∧ At K H D v d ∧ d.wide ≤ 1000 ∧ Dp K H w (parsD own) ∧ ParOk own ∧ m ≤ n ∧ ∀ H', Same H H' → Q (.bl (pieceB own m d b)) H'
theorem seq_gen {a r : TS} {D : Ends} {σ : L2.St} {H : Hp} {P : L2.St → Hp → Prop} (h : ∀ N : L2.St → Hp → Prop, (∀ σ' H', P σ' H' → N σ' H') → a { D with nx := N } σ H) (k : ∀ σ' H', P σ' H' → r D σ' H') : tSeq a r D σ H := h _ fun σ' H' p => k σ' H' p
theorem flat_bls (bs : List Bool) : (bs.map V.bl).all flatV = true := by
  rw [List.all_map]
  exact List.all_eq_true.mpr fun _ _ => rfl
/-- none of them is false -/
theorem inV_false (bs : List Bool) : inV (.bl false) (bs.map V.bl) = !(bs.all id) := by
  unfold inV
  rw [List.any_map]
  induction bs with
  | nil => rfl
  | cons b r ih =>
    rw [List.any_cons, ih, List.all_cons]
    cases b <;> rfl
end FS

set_option Elab.async false
set_option linter.all false
set_option maxRecDepth 100000
set_option maxHeartbeats 4000000
/-! drawn odd values -/
namespace FS
open PySem PySem.Spec PyProof.Rows L2
def smD : V → Option Dat
  | .non => some .non
  | .bl b => some (.bl b)
  | .int i => some (.int i)
  | .str z => if decide (z.length ≤ 1000) && PyData.strOk z then some (.str z) else none
  | _ => none
theorem smD_at {K : PySem.W.Frag} {H : Hp} {a : Addr} {v : V} {d : Dat} (h : smD v = some d) : At K H a v d ∧ d.deep = 0 ∧ d.wide = 0 ∧ d.size = 1 := by
  cases v with
  | non => cases h; exact ⟨.non, rfl, rfl, rfl⟩
  | bl b => cases h; exact ⟨.bl b, rfl, rfl, rfl⟩
  | int i => cases h; exact ⟨.int i, rfl, rfl, rfl⟩
  | str z =>
    by_cases e : (decide (z.length ≤ 1000) && PyData.strOk z) = true
    · have h : (if (decide (z.length ≤ 1000) && PyData.strOk z) = true then some (Dat.str z) else none) = some d := h
      rw [if_pos e] at h
      cases h
      obtain ⟨e1, e2⟩ := Bool.and_eq_true_iff.mp e
      exact ⟨.str z ⟨of_decide_eq_true e1, e2⟩, rfl, rfl, rfl⟩
    · have h : (if (decide (z.length ≤ 1000) && PyData.strOk z) = true then some (Dat.str z) else none) = some d := h
      rw [if_neg e] at h
      cases h
  | _ => cases h
/-- a small value -/
def OddA (K : PySem.W.Frag) (H : Hp) (a : Addr) (v : V) : Prop := ∃ d, At K H a v d ∧ d.deep ≤ 1 ∧ d.wide ≤ 2 ∧ d.size ≤ 3
theorem OddA.go {K : PySem.W.Frag} {H H' : Hp} {a : Addr} {v : V} (d : Die H a) (g : Go a H H') (o : OddA K H a v) : OddA K H' a v := by
  obtain ⟨x, h, b⟩ := o
  exact ⟨x, h.go d g, b⟩
theorem OddA.smp {K : PySem.W.Frag} {H : Hp} {a : Addr} {v : V} (h : (smD v).isSome = true) : OddA K H a v := by
  cases e : smD v with
  | none => rw [e] at h; cases h
  | some d =>
    obtain ⟨h1, h2, h3, h4⟩ := smD_at (K := K) (H := H) (a := a) e
    exact ⟨d, h1, by omega, by omega, by omega⟩
theorem smps {K : PySem.W.Frag} {H : Hp} {a : Addr} : ∀ {xs : List V}, (xs.all fun v => (smD v).isSome) = true → ∃ ds, AtAll K H a xs ds ∧ ds.length = xs.length ∧ deepsD ds = 0 ∧ widesD ds = 0 ∧ sizesD ds = xs.length
  | [], _ => ⟨[], .nil, rfl, rfl, rfl, rfl⟩
  | v :: r, h => by
    obtain ⟨h1, h2⟩ := Bool.and_eq_true_iff.mp (show ((smD v).isSome && _) = true from h)
    obtain ⟨ds, i1, i2, i3, i4, i5⟩ := smps (K := K) (H := H) (a := a) h2
    cases e : smD v with
    | none => rw [e] at h1; cases h1
    | some d =>
      obtain ⟨j1, j2, j3, j4⟩ := smD_at (K := K) (H := H) (a := a) e
      refine ⟨d :: ds, .cons j1 i1, congrArg (· + 1) i2, ?_, ?_, ?_⟩
      · show max d.deep (deepsD ds) = 0; omega
      · show max d.wide (widesD ds) = 0; omega
      · show d.size + sizesD ds = r.length + 1; omega
def OLA (K : PySem.W.Frag) (H : Hp) (a : Addr) (xs : List V) : Prop := ∀ v ∈ xs, OddA K H a v
theorem OLA.go {K : PySem.W.Frag} {H H' : Hp} {a : Addr} {xs : List V} (d : Die H a) (g : Go a H H') (k : OLA K H a xs) : OLA K H' a xs := fun v h => (k v h).go d g
theorem OLA.nil {K : PySem.W.Frag} {H : Hp} {a : Addr} : OLA K H a [] := fun v h => nomatch h
theorem OLA.cons {K : PySem.W.Frag} {H : Hp} {a : Addr} {x : V} {xs : List V} (h : OddA K H a x) (k : OLA K H a xs) : OLA K H a (x :: xs) := fun v hv => by
  rcases List.mem_cons.mp hv with rfl | hv
  · exact h
  · exact k v hv
theorem oaT {K : PySem.W.Frag} {H0 H H' : Hp} {a p : Addr} {xs ys : List V} (e : upd H p (.tup ys) = H') (g : Go a H0 H) (k : OLA K H a xs) (h : H p = none) (s : (ys.all fun v => (smD v).isSome) = true) (l : ys.length ≤ 2) : Go a H0 H' ∧ OLA K H' a (.ref p :: xs) ∧ Go a H H' ∧ H' p = some (.tup ys) ∧ p ≠ a := by
  subst e
  obtain ⟨ds, i1, i2, i3, i4, i5⟩ := smps (K := K) (H := upd H p (.tup ys)) (a := a) s
  refine ⟨g.trans (.new g.2 h), .cons ⟨.tup ds, .tup (.inl (.inl upd_same)) i1, ?_, ?_, ?_⟩ (k.go g.2 (.new g.2 h)), .new g.2 h, upd_same, g.2.ne h⟩
  · show deepsD ds + 1 ≤ 1; omega
  · show max ds.length (widesD ds) ≤ 2; omega
  · show sizesD ds + 1 ≤ 3; omega
theorem oaL {K : PySem.W.Frag} {H0 H H' : Hp} {a p : Addr} {xs ys : List V} (e : upd H p (.lst ys) = H') (g : Go a H0 H) (k : OLA K H a xs) (h : H p = none) : Go a H0 H' ∧ OLA K H' a (.ref p :: xs) ∧ Go a H H' ∧ H' p = some (.lst ys) ∧ p ≠ a := by
  subst e
  exact ⟨g.trans (.new g.2 h), .cons ⟨.oth, .lst (g.2.ne h) upd_same, Nat.zero_le _, Nat.zero_le _, by show 1 ≤ 3; decide⟩ (k.go g.2 (.new g.2 h)), .new g.2 h, upd_same, g.2.ne h⟩
theorem oaD {K : PySem.W.Frag} {H0 H H' : Hp} {a p : Addr} {xs : List V} {ys : List (Key × V)} (e : upd H p (.dK ys) = H') (g : Go a H0 H) (k : OLA K H a xs) (h : H p = none) : Go a H0 H' ∧ OLA K H' a (.ref p :: xs) ∧ Go a H H' ∧ H' p = some (.dK ys) ∧ p ≠ a := by
  subst e
  exact ⟨g.trans (.new g.2 h), .cons ⟨.oth, .dct (g.2.ne h) upd_same, Nat.zero_le _, Nat.zero_le _, by show 1 ≤ 3; decide⟩ (k.go g.2 (.new g.2 h)), .new g.2 h, upd_same, g.2.ne h⟩
def spOddA (K : PySem.W.Frag) : Sp := fun vs H Q _ => ∃ (a : Addr), vs = [.ref a] ∧ Die H a ∧ ∀ v H', Go a H H' → OddA K H' a v → Q v H'
end FS

set_option Elab.async false
set_option linter.all false
set_option maxRecDepth 100000
set_option maxHeartbeats 4000000
/-! values bent -/
namespace FS
open PySem PySem.Spec PyProof.Rows L2
theorem call_isiK {X : Cx} {K : PySem.W.Frag} (h : X.K = K) : CallR X (.builtin "isinstance") (rIsi K) := by
  subst h
  exact call_isi
theorem sl_anyA {K : PySem.W.Frag} {H : Hp} {a : Addr} {xs : List V} {k : Nat} {Q : VK} (sq : SqT K H a xs) (q : ∀ H2 p, Same H H2 → SqT K H2 p (xs.drop k) → Q (.ref p) H2) : rSlA K (.ref a) (some (k : Int)) none H Q := by
  refine ⟨a, xs, rfl, sq, fun z => q H a (.refl H) ?_, fun _ p np => q _ _ (same_upd np) (.inl (.inl (by rw [upd_same, cut_from])))⟩
  have e := z.1
  rw [HT.sIx_nat] at e
  rcases Nat.eq_zero_or_pos k with h | h
  · rw [h]
    exact sq
  · have : xs.length = 0 := by omega
    have : xs = [] := List.eq_nil_of_length_eq_zero this
    subst this
    rw [List.drop_nil]
    exact sq
theorem sIx_zero (n : Nat) : HT.sIx n 0 none = 0 := by
  first | rfl | simp [HT.sIx]
theorem sl_toA {K : PySem.W.Frag} {H : Hp} {a : Addr} {xs : List V} {k : Nat} {Q : VK} (sq : SqT K H a xs) (q : ∀ H2 p, Same H H2 → SqT K H2 p (xs.take k) → Q (.ref p) H2) : rSlA K (.ref a) none (some (k : Int)) H Q := by
  refine ⟨a, xs, rfl, sq, fun z => q H a (.refl H) ?_, fun _ p np => q _ _ (same_upd np) (.inl (.inl (by
    rw [upd_same]
    unfold cutV
    rw [HT.sIx_nat, sIx_zero]
    by_cases h : k ≤ xs.length
    · rw [Nat.min_eq_left h]
      simp
    · have h2 : xs.length ≤ k := by omega
      rw [Nat.min_eq_right h2, List.take_of_length_le h2]
      simp)))⟩
  have e := z.2
  rw [HT.sIx_nat] at e
  rw [List.take_of_length_le (by omega)]
  exact sq
theorem cat_anyA {K : PySem.W.Frag} {H : Hp} {a b : Addr} {xs ys : List V} {Q : VK} (sa : SqT K H a xs) (sb : SqT K H b ys) (l : xs.length + ys.length ≤ sizeLine) (q : ∀ H2 p, Same H H2 → SqT K H2 p (xs ++ ys) → Q (.ref p) H2) : rCatA K (.ref a) (.ref b) H Q :=
  ⟨a, b, xs, ys, rfl, rfl, sa, sb, l, fun z => q H b (.refl H) (by rw [z]; exact sb), fun _ z => q H a (.refl H) (by rw [z, List.append_nil]; exact sa), fun _ _ p np => q _ _ (same_upd np) (.inl (.inl upd_same))⟩
theorem meas_take (k : Nat) (ds : List Dat) : deepsD (ds.take k) ≤ deepsD ds ∧ widesD (ds.take k) ≤ widesD ds ∧ sizesD (ds.take k) ≤ sizesD ds ∧ (ds.take k).length ≤ ds.length := by
  have h1 := deepsD_app (ds.take k) (ds.drop k)
  have h2 := widesD_app (ds.take k) (ds.drop k)
  have h3 := sizesD_app (ds.take k) (ds.drop k)
  rw [List.take_append_drop] at h1 h2 h3
  rw [List.length_take]
  omega
theorem meas_drop (k : Nat) (ds : List Dat) : deepsD (ds.drop k) ≤ deepsD ds ∧ widesD (ds.drop k) ≤ widesD ds ∧ sizesD (ds.drop k) ≤ sizesD ds ∧ (ds.drop k).length ≤ ds.length := by
  have h1 := deepsD_app (ds.take k) (ds.drop k)
  have h2 := widesD_app (ds.take k) (ds.drop k)
  have h3 := sizesD_app (ds.take k) (ds.drop k)
  rw [List.take_append_drop] at h1 h2 h3
  rw [List.length_drop]
  omega
/-- one of them taken out, the others -/
theorem meas_mid {ds : List Dat} {k : Nat} {d : Dat} (h : ds[k]? = some d) : sizesD (ds.take k) + d.size + sizesD (ds.drop (k + 1)) = sizesD ds ∧ d.deep ≤ deepsD ds ∧ d.wide ≤ widesD ds := by
  have lt := (List.getElem?_eq_some_iff.mp h).1
  have e : ds = ds.take k ++ (d :: ds.drop (k + 1)) := by
    have h2 := List.drop_eq_getElem_cons lt
    rw [(List.getElem?_eq_some_iff.mp h).2] at h2
    rw [← h2, List.take_append_drop]
  have h3 : sizesD ds = sizesD (ds.take k) + (d.size + sizesD (ds.drop (k + 1))) := by
    have := sizesD_app (ds.take k) (d :: ds.drop (k + 1))
    rw [← e] at this
    exact this
  exact ⟨by omega, deepsD_mem (List.mem_of_getElem? h), widesD_mem (List.mem_of_getElem? h)⟩
/-- how much it grew -/
def Grew (d d' : Dat) : Prop := d'.deep ≤ d.deep + 1 ∧ d'.wide ≤ d.wide + 3 ∧ d'.size ≤ 2 * d.size + 6
theorem grew_of {ds l : List Dat} (h1 : deepsD l ≤ deepsD ds + 1) (h2 : l.length ≤ ds.length + 3) (h3 : widesD l ≤ max ds.length (widesD ds) + 3) (h4 : sizesD l ≤ 2 * sizesD ds + 7) : Grew (.tup ds) (.tup l) := by
  refine ⟨?_, ?_, ?_⟩
  · show deepsD l + 1 ≤ (deepsD ds + 1) + 1; omega
  · show max l.length (widesD l) ≤ max ds.length (widesD ds) + 3; omega
  · show sizesD l + 1 ≤ 2 * (sizesD ds + 1) + 6; omega
def SmallD (d : Dat) : Prop := d.deep ≤ 1 ∧ d.wide ≤ 2 ∧ d.size ≤ 3
theorem one_meas (d : Dat) : deepsD [d] = d.deep ∧ widesD [d] = d.wide ∧ sizesD [d] = d.size := by
  refine ⟨?_, ?_, ?_⟩
  · show max d.deep 0 = _; omega
  · show max d.wide 0 = _; omega
  · show d.size + 0 = _; omega
theorem grew_mid {ds : List Dat} {k : Nat} {d d' : Dat} (h : ds[k]? = some d) (g : Grew d d') : Grew (.tup ds) (.tup (ds.take k ++ [d'] ++ ds.drop (k + 1))) := by
  obtain ⟨m1, m2, m3⟩ := meas_mid h
  obtain ⟨t1, t2, t3, t4⟩ := meas_take k ds
  obtain ⟨u1, u2, u3, u4⟩ := meas_drop (k + 1) ds
  obtain ⟨o1, o2, o3⟩ := one_meas d'
  obtain ⟨g1, g2, g3⟩ := g
  have lt := (List.getElem?_eq_some_iff.mp h).1
  refine grew_of ?_ ?_ ?_ ?_
  · rw [deepsD_app, deepsD_app]; omega
  · rw [List.length_append, List.length_append, List.length_take, List.length_drop]
    show min k ds.length + 1 + (ds.length - (k + 1)) ≤ _
    omega
  · rw [widesD_app, widesD_app]; omega
  · rw [sizesD_app, sizesD_app]; omega
theorem grew_init (ds : List Dat) (k : Nat) : Grew (.tup ds) (.tup (ds.take k)) := by
  obtain ⟨t1, t2, t3, t4⟩ := meas_take k ds
  exact grew_of (by omega) (by omega) (by omega) (by omega)
theorem grew_snoc {ds : List Dat} {d : Dat} (s : SmallD d) : Grew (.tup ds) (.tup (ds ++ [d])) := by
  obtain ⟨o1, o2, o3⟩ := one_meas d
  obtain ⟨s1, s2, s3⟩ := s
  refine grew_of ?_ ?_ ?_ ?_
  · rw [deepsD_app]; omega
  · rw [List.length_append]; show ds.length + 1 ≤ _; omega
  · rw [widesD_app]; omega
  · rw [sizesD_app]; omega
theorem grew_head {ds : List Dat} {d : Dat} (k : Nat) (s : SmallD d) : Grew (.tup ds) (.tup ([d] ++ ds.drop k)) := by
  obtain ⟨o1, o2, o3⟩ := one_meas d
  obtain ⟨s1, s2, s3⟩ := s
  obtain ⟨u1, u2, u3, u4⟩ := meas_drop k ds
  refine grew_of ?_ ?_ ?_ ?_
  · rw [deepsD_app]; omega
  · rw [List.length_append]; show 1 + (ds.drop k).length ≤ _; omega
  · rw [widesD_app]; omega
  · rw [sizesD_app]; omega
theorem grew_small {ds : List Dat} {d : Dat} (s : SmallD d) : Grew (.tup ds) d := by
  obtain ⟨s1, s2, s3⟩ := s
  refine ⟨?_, ?_, ?_⟩
  · show d.deep ≤ (deepsD ds + 1) + 1; omega
  · omega
  · show d.size ≤ 2 * (sizesD ds + 1) + 6; omega
theorem small_str (z : Str) : SmallD (.str z) := ⟨Nat.zero_le _, Nat.zero_le _, by show 1 ≤ 3; decide⟩
theorem small_seq (z : Str) : SmallD (.tup [.str z]) := by
  refine ⟨?_, ?_, ?_⟩
  · show max 0 0 + 1 ≤ 1; decide
  · show max 1 (max 0 0) ≤ 2; decide
  · show (1 + 0) + 1 ≤ 3; decide
theorem grew_seq (z : Str) (ds : List Dat) : Grew (.tup ds) (.tup [.str z, .tup ds]) := by
  refine ⟨?_, ?_, ?_⟩
  · show max 0 (max (deepsD ds + 1) 0) + 1 ≤ (deepsD ds + 1) + 1; omega
  · show max 2 (max 0 (max (max ds.length (widesD ds)) 0)) ≤ max ds.length (widesD ds) + 3; omega
  · show (1 + ((sizesD ds + 1) + 0)) + 1 ≤ 2 * (sizesD ds + 1) + 6; omega
theorem grew_alt (z : Str) (ds : List Dat) : Grew (.tup ds) (.tup [.str z, .tup ds, .tup ds]) := by
  refine ⟨?_, ?_, ?_⟩
  · show max 0 (max (deepsD ds + 1) (max (deepsD ds + 1) 0)) + 1 ≤ (deepsD ds + 1) + 1; omega
  · show max 3 (max 0 (max (max ds.length (widesD ds)) (max (max ds.length (widesD ds)) 0))) ≤ max ds.length (widesD ds) + 3; omega
  · show (1 + ((sizesD ds + 1) + ((sizesD ds + 1) + 0))) + 1 ≤ 2 * (sizesD ds + 1) + 6; omega
/-- they came of it -/
def KLB (K : PySem.W.Frag) (H : Hp) (D : Addr) (d : Dat) (xs : List V) : Prop := ∀ v ∈ xs, ∃ d', At K H D v d' ∧ Grew d d'
theorem KLB.go {K : PySem.W.Frag} {H H' : Hp} {D : Addr} {d : Dat} {xs : List V} (y : Die H D) (g : Go D H H') (k : KLB K H D d xs) : KLB K H' D d xs := fun v h => by
  obtain ⟨e, a, b⟩ := k v h
  exact ⟨e, a.go y g, b⟩
theorem KLB.cons {K : PySem.W.Frag} {H : Hp} {D : Addr} {d d' : Dat} {v : V} {xs : List V} (h : At K H D v d') (g : Grew d d') (k : KLB K H D d xs) : KLB K H D d (v :: xs) := fun u hu => by
  rcases List.mem_cons.mp hu with rfl | hu
  · exact ⟨d', h, g⟩
  · exact k u hu
theorem KLB.nil {K : PySem.W.Frag} {H : Hp} {D : Addr} {d : Dat} : KLB K H D d [] := fun u h => nomatch h
def spBend (K : PySem.W.Frag) (k : Nat) : Sp := fun vs H Q _ => ∃ (D a : Addr) (ov : V) (ds : List Dat) (od : Dat), vs = [.ref D, .ref a, ov] ∧ Die H D ∧ At K H D (.ref a) (.tup ds) ∧ At K H D ov od ∧ (od.deep ≤ 1 ∧ od.wide ≤ 2 ∧ od.size ≤ 3) ∧ (Dat.tup ds).deep ≤ k ∧ (Dat.tup ds).wide ≤ 900 ∧
  ∀ H' v' d', Go D H H' → At K H' D v' d' → Grew (.tup ds) d' → Q v' H'
end FS

set_option Elab.async false
set_option linter.all false
set_option maxRecDepth 100000
set_option maxHeartbeats 4000000
/-! a drawn term is a value -/
namespace FS
open PySem PySem.Spec PyProof.Rows L2
theorem cut_take (xs : List V) (k : Nat) : cutV xs none (some (k : Int)) = xs.take k := by
  unfold cutV
  rw [HT.sIx_nat, HT.sIx_none, List.drop_zero, Nat.sub_zero]
  by_cases h : k ≤ xs.length
  · rw [Nat.min_eq_left h]
  · rw [Nat.min_eq_right (by omega), List.take_length, List.take_of_length_le (by omega)]
theorem Go.free {H H' : Hp} {D p : Addr} (g : Go D H H') (n : H' p = none) : H p = none := by
  cases e : H p with
  | none => rfl
  | some o =>
    have ne := g.2.ne n
    rw [g.1 _ _ ne e] at n
    cases n
theorem take_str (ys : List Str) (k : Nat) : (ys.map V.str).take k = (ys.take k).map V.str := (List.map_take).symm
theorem made_same {H : Hp} {x dx C : Addr} (nx : H x = none) (nd : H dx = none) : Same H (upd (upd H dx (.own x)) x (.ins C dx [])) := fun b o e => by
  rw [upd_ne (ne_of_none e nx), upd_ne (ne_of_none e nd)]
  exact e
section
variable {K : PySem.W.Frag} {H : Hp} {D : Addr}
theorem entries_at : ∀ {t : List (Option Nat)} {vs : List V}, DpAll K H vs (t.map entryD) → ∃ ds, AtAll K H D vs ds ∧ ds.length = t.length ∧ deepsD ds = 0 ∧ widesD ds = 0 ∧ sizesD ds = t.length
  | [], _, .nil => ⟨[], .nil, rfl, rfl, rfl, rfl⟩
  | e :: r, _, .cons h q => by
    obtain ⟨ds, h1, h2, h3, h4, h5⟩ := entries_at (t := r) q
    cases e with
    | none =>
      cases h
      refine ⟨.non :: ds, .cons .non h1, congrArg (· + 1) h2, ?_, ?_, ?_⟩
      · show max 0 (deepsD ds) = 0; omega
      · show max 0 (widesD ds) = 0; omega
      · show 1 + sizesD ds = r.length + 1; omega
    | some n =>
      cases h
      refine ⟨.int n :: ds, .cons (.int _) h1, congrArg (· + 1) h2, ?_, ?_, ?_⟩
      · show max 0 (deepsD ds) = 0; omega
      · show max 0 (widesD ds) = 0; omega
      · show 1 + sizesD ds = r.length + 1; omega
theorem one_at {x : Str} {vs : List V} (hx : x.length ≤ 1000 ∧ PyData.strOk x = true) (h : DpAll K H vs [.str x]) : ∃ ds, AtAll K H D vs ds ∧ ds.length ≤ 2 ∧ deepsD ds ≤ 1 ∧ widesD ds ≤ 3 ∧ sizesD ds ≤ 5 := by
  cases h with
  | cons h r =>
    cases r
    cases Dp.str_inv h
    exact ⟨[.str x], .cons (.str x hx) .nil, (show 1 ≤ 2 by decide), by show max 0 0 ≤ 1; decide, by show max 0 0 ≤ 3; decide, by show 1 + 0 ≤ 5; decide⟩
theorem word_at {x : Str} (h : wordB x = true) : x.length ≤ 1000 ∧ PyData.strOk x = true := by
  have := word_ok h
  exact ⟨by omega, this.1⟩
theorem rest_at {own : List (Str × Bool)} (po : ∀ p ∈ own, wordB p.1 = true) {h : Hd} {n : Nat} (ok : h.ok own n = true) {vs : List V} (r : DpAll K H vs h.rest) : ∃ ds, AtAll K H D vs ds ∧ ds.length ≤ 2 ∧ deepsD ds ≤ 1 ∧ widesD ds ≤ 3 ∧ sizesD ds ≤ 5 := by
  have none : ∀ {vs : List V}, DpAll K H vs [] → ∃ ds, AtAll K H D vs ds ∧ ds.length ≤ 2 ∧ deepsD ds ≤ 1 ∧ widesD ds ≤ 3 ∧ sizesD ds ≤ 5 := fun h => by
    cases h
    exact ⟨[], .nil, by decide, Nat.zero_le _, Nat.zero_le _, Nat.zero_le _⟩
  cases h with
  | deed w t =>
    have o1 := Bool.and_eq_true_iff.mp (Bool.and_eq_true_iff.mp (Bool.and_eq_true_iff.mp ok).1).1
    have lt := of_decide_eq_true o1.2
    cases r with
    | cons h1 r => cases r with
      | cons h2 r =>
      cases r
      cases Dp.str_inv h1
      obtain ⟨b, ys, rfl, sb, rb⟩ := Dp.tup_inv (show Dp K H _ (.tuple (t.map entryD)) from h2)
      obtain ⟨ds, e1, e2, e3, e4, e5⟩ := entries_at (D := D) rb
      refine ⟨[.str w, .tup ds], .cons (.str w (word_at o1.1)) (.cons (.tup sb e1) .nil), (show 2 ≤ 2 by decide), ?_, ?_, ?_⟩
      · show max 0 (max (deepsD ds + 1) 0) ≤ 1; omega
      · show max 0 (max (max ds.length (widesD ds)) 0) ≤ 3; omega
      · show 1 + ((sizesD ds + 1) + 0) ≤ 5; omega
  | seq => exact none r
  | alt => exact none r
  | wrp => exact none r
  | run x => exact one_at (word_at (po _ (of_decide_eq_true (Bool.and_eq_true_iff.mp ok).1))) r
  | own x => exact one_at (word_at (po _ (of_decide_eq_true (Bool.and_eq_true_iff.mp ok).1))) r
  | call m => exact one_at (word_at (show wordB m = true from ok)) r
  | wth m => exact one_at (word_at (show wordB m = true from ok)) r
theorem tag_len (h : Hd) : h.tag.length ≤ 1000 := by
  cases h with
  | deed w t => exact (show ("do" : Str).length ≤ 1000 by decide +kernel)
  | seq => exact (show ("seq" : Str).length ≤ 1000 by decide +kernel)
  | alt => exact (show ("or" : Str).length ≤ 1000 by decide +kernel)
  | run x => exact (show ("run" : Str).length ≤ 1000 by decide +kernel)
  | call n => exact (show ("call" : Str).length ≤ 1000 by decide +kernel)
  | wrp => exact (show ("wrap" : Str).length ≤ 1000 by decide +kernel)
  | own x => exact (show ("own" : Str).length ≤ 1000 by decide +kernel)
  | wth n => exact (show ("with" : Str).length ≤ 1000 by decide +kernel)
theorem kids_at {own : List (Str × Bool)} : ∀ {ks : List Tm} {vs : List V}, (∀ t ∈ ks, ∀ v, Dp K H v t.data → ∃ ds, At K H D v (.tup ds) ∧ (Dat.tup ds).deep ≤ t.deep + 1 ∧ (Dat.tup ds).wide ≤ t.count + 3 ∧ (Dat.tup ds).size ≤ 7 * t.count) → DpAll K H vs (datas ks) →
    ∃ ds, AtAll K H D vs ds ∧ ds.length = ks.length ∧ deepsD ds ≤ deeps ks + 1 ∧ widesD ds ≤ counts ks + 3 ∧ sizesD ds ≤ 7 * counts ks ∧ ks.length ≤ counts ks
  | [], _, _, .nil => ⟨[], .nil, rfl, Nat.zero_le _, Nat.zero_le _, Nat.zero_le _, Nat.zero_le _⟩
  | t :: r, _, ih, .cons h q => by
    obtain ⟨d, a1, a2, a3, a4⟩ := ih t List.mem_cons_self _ h
    obtain ⟨ds, b1, b2, b3, b4, b5, b6⟩ := kids_at (own := own) (ks := r) (fun u hu => ih u (List.mem_cons_of_mem _ hu)) q
    have ct := counts_cons t r
    have cp := count_eq t
    refine ⟨.tup d :: ds, .cons a1 b1, congrArg (· + 1) b2, ?_, ?_, ?_, ?_⟩
    · show max (Dat.tup d).deep (deepsD ds) ≤ max t.deep (deeps r) + 1; omega
    · show max (Dat.tup d).wide (widesD ds) ≤ _; omega
    · show (Dat.tup d).size + sizesD ds ≤ _; omega
    · rw [List.length_cons]; omega
theorem tm_at {own : List (Str × Bool)} (po : ∀ p ∈ own, wordB p.1 = true) {t : Tm} (g : Good own t) : ∀ v, Dp K H v t.data → ∃ ds, At K H D v (.tup ds) ∧ (Dat.tup ds).deep ≤ t.deep + 1 ∧ (Dat.tup ds).wide ≤ t.count + 3 ∧ (Dat.tup ds).size ≤ 7 * t.count := by
  induction g with
  | @mk h ks ok kk kids ih =>
    intro v dv
    obtain ⟨a, rs, kv, rfl, sq, r1, r2⟩ := tm_open dv
    obtain ⟨rd, e1, e2, e3, e4, e5⟩ := rest_at (D := D) po ok r1
    obtain ⟨kd', f1, f2, f3, f4, f5, f6⟩ := kids_at (own := own) (D := D) ih r2
    have ct := count_eq (Tm.mk h ks)
    have ct2 : (Tm.mk h ks).count = 1 + counts ks := ct
    have dpE : (Tm.mk h ks).deep = deeps ks + 1 := rfl
    refine ⟨.str h.tag :: (rd ++ kd'), .tup sq (.cons (.str _ ⟨tag_len h, tag_ok h⟩) (e1.app f1)), ?_, ?_, ?_⟩
    · show max 0 (deepsD (rd ++ kd')) + 1 ≤ _
      rw [deepsD_app]
      omega
    · show max ((rd ++ kd').length + 1) (max 0 (widesD (rd ++ kd'))) ≤ _
      rw [widesD_app, List.length_append]
      omega
    · show (1 + sizesD (rd ++ kd')) + 1 ≤ _
      rw [sizesD_app]
      omega
end
end FS

set_option Elab.async false
set_option linter.all false
set_option maxRecDepth 100000
set_option maxHeartbeats 4000000
/-! what is no body is refused -/
namespace FS
open PySem PySem.Spec PyProof.Rows L2
/-- the error of what is no program -/
structure Bad (K : PySem.W.Frag) (mg : Str → Option Value) (CI : Addr) : Prop where
  gI : mg "InvalidProgram" = some (.ref CI)
  kI : PySem.W.keepIn K (.ref CI) = true
  xI : PySem.W.excIn K CI [.type "ValueError", .type "Exception", .type "BaseException", .type "object"] "ValueError.__new__" = true
  bI : PySem.W.subIn K (.ref CI) (.type "BaseException") = some true
  tI : PySem.W.typeIn K (.ref CI) = some (.type "type")
  eI : PySem.W.exmOne K (.ref CI) (.ref CI) = some true
/-- a procedure made, or refused -/
def spInitA (K : PySem.W.Frag) (C CI : Addr) : Sp := fun vs H Q E => ∃ (D p dx : Addr) (nm : Str) (pv bv : V) (own : List (Str × Bool)) (d : Dat), vs = [.ref p, .str nm, pv, bv] ∧ H p = some (.ins C dx []) ∧ (wordB nm = true ∧ nm.length ≤ 1000 ∧ PyData.strOk nm = true) ∧ Dp K H pv (parsD own) ∧ ParOk own ∧ At K H D bv d ∧ d.wide ≤ 1000 ∧
  (termB own d = false → ∀ H', Same H H' → E (.ref CI) none H') ∧
  (termB own d = true → ∀ t : Tm, Dp K H bv t.data → Good own t → t.isW = false → t.count = countN 6 d → ∀ H', PAt K C H' p nm own t → Kp p H H' → (∀ D o, H D = some o → D ≠ p → PAtD K C H' D p nm own t) → Q .non H')
end FS

set_option Elab.async false
set_option linter.all false
set_option maxRecDepth 100000
set_option maxHeartbeats 4000000
namespace FS
open PySem PySem.Spec PyProof.Rows L2 LamX
def GoN (D : Addr) (H H' : Hp) : Prop := (∀ b o, b ≠ D → H b = some o → (∀ ps, o ≠ .tbl ps) → H' b = some o) ∧ Die H' D
theorem GoN.of {D : Addr} {H H' : Hp} (g : Go D H H') : GoN D H H' := ⟨fun b o n e _ => g.1 b o n e, g.2⟩
theorem GoN.trans {D : Addr} {H H1 H2 : Hp} (x : GoN D H H1) (y : GoN D H1 H2) : GoN D H H2 := ⟨fun b o n e t => y.1 b o n (x.1 b o n e t) t, y.2⟩
theorem GoN.same {D : Addr} {H H1 H2 : Hp} (x : GoN D H H1) (y : Same H1 H2) : GoN D H H2 := x.trans (.of (.of x.2 y))
theorem GoN.refl {D : Addr} {H : Hp} (d : Die H D) : GoN D H H := .of (.refl d)
theorem GoN.ext {D : Addr} {H H' : Hp} (d : Die H D) (e : ExtN H H') : GoN D H H' := ⟨fun b o _ h n => e b o h n, by
  obtain ⟨x, y, z, h⟩ := d
  exact ⟨x, y, z, e _ _ h (fun ps z => nomatch z)⟩⟩
theorem GoN.tk {D : Addr} {H H' : Hp} (d : Die H D) (g : GoN D H H') : TK H H' := fun b o t h => g.1 b o (fun z => by
  subst z
  obtain ⟨x, y, w, q⟩ := d
  rw [q] at h
  cases Option.some.inj h
  cases t) h (fun ps z => by
  subst z
  cases t)
theorem PAt.goN {K : PySem.W.Frag} {C : Addr} {H H' : Hp} {D a : Addr} {nm : Str} {own : List (Str × Bool)} {t : Tm} (d : Die H D) (g : GoN D H H') (p : PAt K C H a nm own t) : PAt K C H' a nm own t := by
  obtain ⟨⟨dx, pv, bv, pa, ka, wa, ua, xs, ws, us, h1, h2, h3, h4, h5, h6, h7, h8, h9, h10⟩, b, c, dd, e, f, gg⟩ := p
  have k := g.tk d
  obtain ⟨x, y, w', q⟩ := d
  have n1 : a ≠ D := fun z => by
    rw [z, q] at h1
    cases h1
  have n2 : pa ≠ D := fun z => by
    rw [z, q] at h4
    have e4 := HO.lst.inj (Option.some.inj h4)
    rw [all_eq] at h5
    cases h5 with
    | cons hd tl =>
      have e5 := (List.cons.inj e4).1
      obtain ⟨hh, kk⟩ := t
      obtain ⟨aa, _, _, ee, _⟩ := tm_open hd
      rw [ee] at e5
      cases e5
  exact ⟨⟨dx, pv, bv, pa, ka, wa, ua, xs, ws, us, g.1 _ _ n1 h1 (fun ps z => nomatch z), Dp.tk k (pars_noL own) h2, Dp.tk k t.noL h3, g.1 _ _ n2 h4 (fun ps z => nomatch z), DpAll.tk k (noL_datas _) h5, Dp.tk k (kindD_noL _) h6, Dp.tk k (strs_noL _) h7, Dp.tk k (strs_noL _) h8, h9, h10⟩, b, c, dd, e, f, gg⟩
theorem Tabs.same {T : List (Addr × Str)} {H H' : Hp} (t : Tabs T H) (s : Same H H') : Tabs T H' := t.ext s
theorem Tabs.go {T : List (Addr × Str)} {H H' : Hp} {D : Addr} (d : Die H D) (g : Go D H H') (t : Tabs T H) : Tabs T H' := fun p hp => by
  obtain ⟨ps, h1, h2, h3⟩ := t p hp
  have nD : ∀ b o, (∀ xs, o ≠ .lst xs) → H b = some o → b ≠ D := fun b o n e z => by
    obtain ⟨x, y, w', q⟩ := d
    rw [z, q] at e
    exact n _ (Option.some.inj e).symm
  refine ⟨ps, g.1 _ _ (nD _ (.tbl ps) (fun xs z => nomatch z) h1) h1, h2, fun pos cv hc => ?_⟩
  obtain ⟨c, e1, e2⟩ := h3 pos cv hc
  exact ⟨c, e1, g.1 _ _ (nD _ _ (fun xs z => by unfold CodeO at z; cases z) e2) e2⟩
/-! ### the code object of a def -/
/-- as Fun, its code object at c -/
structure FunC (K : PySem.W.Frag) (x qual : Str) (st : Stmt) (f : Addr) (fd : FuncData) (c : Addr) : Prop where
  ex : ∃ (oc : Value) (od : Option Addr) (kV doc pm : Value) (an : Option Addr) (ct : Value) (osl : Array (Option Value)), fd = PySem.W.fnOf x qual (defArgs st) (defBody st) (defScope st) .none kV doc pm an (.ref c) ct ∧
    K.lookup f = some ⟨oc, od, .func (PySem.W.fnOf x qual (defArgs st) (defBody st) (defScope st) .none kV doc pm an (.ref c) ct), osl⟩ ∧ PySem.W.codeIn K (.ref c) qual = true
section
variable {P : Program} {w : World} {K : PySem.W.Frag} {mg : Str → Option Value} {base : Heap}
theorem FunC.ok {c : Addr} {x qual : Str} {st : Stmt} {f : Addr} {fd : FuncData} {N ps : List Str} {k : Nat} {sp : Sp} (F : FunC K x qual st f fd c) (S : FnScope N ps (defScope st)) (len : ∀ vs H Q E, sp vs H Q E → vs.length = ps.length)
    (body : ∀ (A : Around) (outer : List Env) (s : Shared) (H : Hp) (vs : List V) (Q : VK) (E : XK), Room k (A.deeper (envOfC qual (defScope st) s.heap.objs.size f (.ref c))) → sp vs H Q E →
      ∃ t, PSs (cxOf CX0 P w K mg base N qual (defScope st) f (.ref c) A outer s H E).nox (defBody st) t ∧ t { nx := fun _ H' => Q .non H', rt := Q } (start N vs) H) : FnOk P w K mg base CX0 (k + 1) f fd ps sp := by
  obtain ⟨oc, od, kV, doc, pm, an, ct, osl, rfl, lk, hcd⟩ := F.ex
  refine fn_of lk hcd S len fun A outer s H vs Q E hr hsp => ?_
  obtain ⟨t, h, q⟩ := body A outer s H vs Q E hr hsp
  exact ⟨t, h.nox, q⟩
end
def lamQ (x : Str) : Str := (x ++ ".<locals>.") ++ "<lambda>"
/-- what is returned, or None where the error x comes -/
def TMet (K : PySem.W.Frag) (CS : Addr) : (XK → Hp → VK → Prop) → Hp → VK → Prop := fun tl H Q =>
  tl (fun cls _ H1 => PySem.W.exmOne K cls (.ref CS) = some true ∧ Q .non H1) H Q
theorem met_body {X : Cx} {Ng : List Str} {x a e q : Str} {sg : Scope} {g CS : Addr} {cdg : Value} {j : Nat} {p1 p2 p3 p4 p5 p6 p7 p8 : Pos}
    (globalE : sg.names.lookup e = some .globalImplicit) (atE : X.mg e = some (.ref CS)) (notDebug : (e == ("__debug__" : Str)) = false)
    (slot0 : ∀ b : Addr, (L2.start Ng [V.ref b])[0]? = some (some (V.ref b))) :
    GivesTo X Ng x sg g cdg
      [.Try [.Return (some (.Call (.Name a p1) [] [] p2)) p3]
        [.ExceptHandler (some (.Name e p4)) none [.Return (some (.Constant .none j p5)) p6] p7] [] [] p8]
      a q (TMet X.K CS) := by
  intro b c1 s H Q tl called code told
  let Y : Cx := (cxOf C8.CX0 X.prog X.w X.K X.mg X.base Ng x sg g cdg X.A X.stack s H C8.E0).nox
  have inG : Gl Y e := globalE
  let wish : XK := fun cls _ H1 => PySem.W.exmOne X.K cls (.ref CS) = some true ∧ Q .non H1
  refine ⟨_, pss_one (ps_try_only (X := Y) (c := .ref CS)
    (tb := fun W D σ H1 => ∃ Z : XK, (∀ cls d σ1 H2, Z cls d H2 → W cls d σ1 H2) ∧ σ[0]? = some (some (.ref b)) ∧ H1 c1 = some (CodeO c1 q) ∧ tl Z H1 D.rt)
    rfl rfl ⟨inG, notDebug, .inl atE⟩ LamX.takes0 ?inTry (fun _ _ _ _ _ _ _ => pss_one (ps_ret pe_non))), ?told⟩
  case inTry =>
    intro W pn xe takes _
    refine ⟨fun pins s1 σ H1 D I hz => ?_⟩
    obtain ⟨Z, up, z1, z2, z3⟩ := hz
    exact (pss_one (ps_ret (pos := p3) (called W pn xe Z p1 p2 takes up))).run pins s1 σ H1 D I ⟨z1, z2, z3⟩
  case told =>
    refine ⟨wish, ?_, slot0 b, code, told⟩
    intro cls d σ1 H2 hw
    exact ⟨true, hw.1, fun _ _ _ => hw.2, fun z => nomatch z⟩
/-- the law's def that calls what it is handed -/
structure MetG (K : PySem.W.Frag) (mg : Str → Option Value) (CI : Addr) : Prop where
  ex : ∃ (g : Addr) (oc : Value) (od : Option Addr) (kV doc pm : Value) (an : Option Addr) (cdv ct : Value) (osl : Array (Option Value)),
    mg "_law_met" = some (.ref g) ∧ PySem.W.keepIn K (.ref g) = true ∧
    K.lookup g = some ⟨oc, od, .func (PySem.W.fnOf "_law_met" "_law_met" (defArgs s_law_met) (defBody s_law_met) (defScope s_law_met) .none kV doc pm an cdv ct), osl⟩ ∧ PySem.W.codeIn K cdv "_law_met" = true ∧
    L2.Binds K (PySem.W.fnOf "_law_met" "_law_met" (defArgs s_law_met) (defBody s_law_met) (defScope s_law_met) .none kV doc pm an cdv ct) ["_law_call"] []
abbrev N_law_met : List Str := ["_law_call"]
theorem sc_law_met : FnScope N_law_met ["_law_call"] (defScope s_law_met) := ⟨rfl, rfl, rfl, by decide +kernel, rfl, by decide +kernel, by decide +kernel⟩
theorem pe_met {X : Cx} {CI c Pt : Addr} {k : Nat} {T : List (Addr × Str)} {params : Arguments} {body : Expr} {scope : Scope} {t : XK → TE} {p lpos pos : Pos}
    (M : MetG X.K X.mg CI) (B : Bad X.K X.mg CI) (hg : Gl X "_law_met") (TB : TabB X.base X.mg c Pt) (hcode : X.env.code = .ref c)
    (hmT : (Pt, X.env.qual ++ "<lambda>") ∈ T) (hu : ∀ p ∈ T, p.1 = Pt → p.2 = X.env.qual ++ "<lambda>") (hr : Room (k + 2) X.A) (L : LamS X.env.scope scope) (hdef : defaultsOf params X.env = ([], []))
    (hbind : ∀ (q : Str) (cl : List (Str × Addr)) (pm cv ctv : Value), bindArgs (PySem.W.kla_fn "<lambda>" q params body scope cl pm cv ctv) ⟨[], []⟩ = pure [])
    (hbody : ∀ (A : Around) (outer : List Env) (s : Shared) (H : Hp) (E : XK) (f c1 : Addr), Room k (A.deeper (lamEnv X scope s.heap.objs.size f c1)) → PE (lamCx X A outer s H E scope f c1) body (t E)) :
    PE X (.Call (.Name "_law_met" p) [.Lambda params body scope lpos] [] pos) (tLam T (TMet X.K CI) t) := by
  obtain ⟨g, oc, od, kV, doc, pm, an, cdv, ct, osl, m1, m2, m3, m4, m5⟩ := M.ex
  exact pe_lamcall hg m1 m2 m3 m4 m5 sc_law_met rfl (.inl rfl) (met_body rfl B.gI (by decide +kernel) (fun _ => rfl)) TB hcode hmT hu hr L hdef hbind hbody
/-- a class method called in a lambda's body, its error let out -/
theorem lam_lets {X : Cx} {A : Around} {outer : List Env} {s : Shared} {H : Hp} {E : XK} {scope : Scope} {f c1 : Addr} : Passes (L2.CX (lamCx X A outer s H E scope f c1).prog (lamCx X A outer s H E scope f c1).w) (lamCx X A outer s H E scope f c1) E :=
  passes_call (takes_of rfl rfl rfl rfl) (fun _ _ _ _ h => h)
theorem At.goN {K : PySem.W.Frag} {H H' : Hp} {D : Addr} {v : V} {d : Dat} (x : At K H D v d) (y : Die H D) (g : GoN D H H') : At K H' D v d := x.tk (g.tk y) g.1
theorem Dp.goN {K : PySem.W.Frag} {H H' : Hp} {D : Addr} {v : V} {d : PyData} (x : Dp K H v d) (n : noL d = true) (y : Die H D) (g : GoN D H H') : Dp K H' v d := Dp.tk (g.tk y) n x
end FS

set_option Elab.async false
set_option linter.all false
set_option maxRecDepth 100000
set_option maxHeartbeats 6400000
/-! set(a list of texts) -/
namespace FS
open PySem PySem.Spec PyProof.Rows L2
theorem SetS.kept {w : World} {h h' : Heap} {a : Addr} {xs : List Str} (R : SetS w h a xs) (k : ∀ o, h.get? a = some o → h'.get? a = some o) : SetS w h' a xs := by
  obtain ⟨o, ms, ep, t, ho, r⟩ := R
  exact ⟨o, ms, ep, t, k o ho, r⟩
section
variable {P : Program} {w : World} {A : Around} {E : Value → Shared → Prop} {s : Shared}
/-- the loop that fills it -/
theorem fill {I : Addr} {fp wr : List Addr} {G : Array GenState → Array GenState → Prop} {n : Nat} {Pv : Nat → Value → Prop} {St : Nat → Shared → Prop} {R : Result → Shared → Prop}
    (W : WalksS P w A.in1 I fp wr G n Pv St) (S : Addr) (hSf : S ∉ fp) (ks : List Str) (hn : n = ks.length) (room : ks.length + 1 < scanBound) (hval : ∀ i v, Pv i v → ∃ z t, ks[i]? = some z ∧ v = .str z t)
    (h0 : Heap) (hS0 : h0.get? S = none) (hw0 : ∀ b ∈ wr, h0.get? b = none) :
    ∀ (k i : Nat) (s : Shared), n - i = k → i ≤ n → St i s → (∀ b o, h0.get? b = some o → s.heap.get? b = some o) → SetS w s.heap S (uniq (ks.take i)) →
      (∀ s', Moved (S :: wr) G s s' → SetS w s'.heap S (uniq ks) → (∀ b o, h0.get? b = some o → s'.heap.get? b = some o) → R (.ok (.ret .none)) s') →
      codeAny (model P w) A (.builtin "set.update.loop" ⟨[.ref S, .ref I], []⟩) R s := by
  have hSw : S ∉ wr := fun h => hSf (W.sub _ h)
  have hsub : ∀ b ∈ wr, b ∈ S :: wr := fun b hb => List.mem_cons_of_mem _ hb
  have keepM : ∀ {s s' : Shared}, Moved wr G s s' → (∀ b o, h0.get? b = some o → s.heap.get? b = some o) → ∀ b o, h0.get? b = some o → s'.heap.get? b = some o := fun hm hkp b o e =>
    hm.heap b o (fun hb => by rw [hw0 b hb] at e; cases e) (hkp b o e)
  intro k
  induction k with
  | zero =>
    intro i s hk' hi hst hkp hS hR
    have hin : i = n := by omega
    subst hin
    refine codeAny_builtin PyProof.Rows.F.entry_set_update_loop ?_
    rw [Around.under_plainId PyProof.Rows.F.plain_set_update_loop _]
    show wpAny _ A.in1 (pyNext (.ref I) >>= _) _ _ s
    refine wpAny_bind (W.done s _ _ hst fun s' hm => ?_)
    show wpAny _ A.in1 (ret Value.none) _ _ s'
    have hkp' := keepM hm hkp
    rw [hn, List.take_length] at hS
    exact wpAny_pure (hR s' (hm.mono hsub) (hS.kept fun o e => hm.heap S o hSw e) hkp')
  | succ k ih =>
    intro i s hk' hi hst hkp hS hR
    have hlt : i < n := by omega
    refine codeAny_builtin PyProof.Rows.F.entry_set_update_loop ?_
    rw [Around.under_plainId PyProof.Rows.F.plain_set_update_loop _]
    show wpAny _ A.in1 (pyNext (.ref I) >>= _) _ _ s
    refine wpAny_bind (W.item i s _ _ hlt hst fun v s' hP hst' hm => ?_)
    obtain ⟨z, tk, hz, rfl⟩ := hval i v hP
    have hkp' := keepM hm hkp
    have hS' := hS.kept fun o e => hm.heap S o hSw e
    show wpAny _ A.in1 (holding [Value.str z tk] (setAdd S (.str z tk)) >>= _) _ _ s'
    refine wpAny_bind (wpAny_holding ?_)
    unfold setAdd
    refine wpAny_holding ?_
    refine wpAny_bind ((strKind P w).pyHash (strKind_is P w z tk) ?_)
    have rm : (uniq (ks.take i)).length + 1 < scanBound := by
      have h1 := uniq_len (ks.take i)
      rw [List.length_take] at h1
      omega
    refine put1 (s := { s' with toks := s'.toks + 1 }) hS' rm fun h' hsb hS2 b => ?_
    have hS3 : SetS w h' S (uniq (ks.take (i + 1))) := by
      rw [take_more hz, uniq_more]
      exact hS2
    have hkp2 : ∀ b o, h0.get? b = some o → h'.get? b = some o := fun b o e => (hsb.2 b (fun z => by rw [z, hS0] at e; cases e)).trans (hkp' b o e)
    refine wpAny_pure ⟨plainId_quiet PyProof.Rows.F.plain_set_update_loop _, ih (i + 1) _ (by omega) hlt (W.frame _ s' _ _ hst' (Nat.le_add_right _ _) fun b hb o e => ?_) hkp2 hS3 fun s'' hm'' hS'' hkp'' => ?_⟩
    · rw [hsb.2 b (fun h : b = S => hSf (by rw [← h]; exact hb))]; exact e
    · refine hR s'' (Moved.trans W.gtrans ((hm.mono hsub).then_heap (Nat.le_add_right _ _) fun b o hb e => ?_) hm'') hS'' hkp''
      rw [hsb.2 b (fun h : b = S => hb (by rw [h]; exact List.mem_cons_self))]; exact e
theorem none_at {h : Heap} {b : Addr} (hb : h.objs.size ≤ b) : h.get? b = none := by
  cases q : h.get? b with
  | none => rfl
  | some o => exact absurd (Nat.lt_of_lt_of_le (Heap.lt_size q) hb) (Nat.lt_irrefl _)
theorem made {l : Addr} {items : Array Value} {ks : List Str} {Q : Value → Shared → Prop} (hh : A.handled = none) (hl : s.heap.IsList l items) (hit : StrsAre items.toList ks) (room : ks.length + 1 < scanBound)
    (h : ∀ (h' : Heap) (tk : Nat), SetS w h' s.heap.objs.size (uniq ks) → (∀ b o, s.heap.get? b = some o → h'.get? b = some o) → Q (.ref s.heap.objs.size) { s with heap := h', toks := tk }) :
    wpAny (model P w) A (call (.type "set") [.ref l]) Q E s := by
  have hisz : items.size = ks.length := by
    rw [← Array.length_toList, ← hit.strs, List.length_map]
  obtain ⟨c, tl, hmro⟩ := PySem.F.called_set.mro
  have hmade := PySem.F.called_set.made
  have hsub := PySem.F.called_set.sub
  refine wpAny_call (codeAny_of_tree ?_)
  show wpAny _ _ (callAny (.type "set") _) _ _ _
  refine wpAny_pure ⟨Code.quiet_builtin _ (by decide +kernel), codeAny_builtin PySem.F.entry_type_call ?_⟩
  rw [Around.under_plain (weight_type_call_type "set" [.ref l] []) rfl]
  have h1 := PySem.F.called_set.notType
  have h2 := PySem.F.called_set.canCreate
  have hct := PySem.F.typeCall_set_1 (.ref l)
  repeat (any_goals (first | assumption | wp_step))
  refine codeAny_mono (L2.code_set_led1 (.ref l) (E := E) (Q₁ := fun obj s₁ => obj = .ref s.heap.objs.size ∧ s₁ = { s with heap := s.heap.push { cls := .type "set", dict := none, data := .set #[] 0 (.fresh 0 0 (!w.params.followText "set-order")) } }) ⟨rfl, rfl⟩) fun r s₁ hr => ?_
  cases r with
  | error e => exact hr
  | ok fl =>
    cases fl with
    | ret obj =>
      obtain ⟨rfl, rfl⟩ := hr
      have R0 : SetS w (s.heap.push { cls := .type "set", dict := none, data := .set #[] 0 (.fresh 0 0 (!w.params.followText "set-order")) }) s.heap.objs.size [] := SetS.new w
      have hS : (s.heap.push { cls := .type "set", dict := none, data := .set #[] 0 (.fresh 0 0 (!w.params.followText "set-order")) }).get? s.heap.objs.size = some { cls := .type "set", dict := none, data := .set #[] 0 (.fresh 0 0 (!w.params.followText "set-order")) } := Heap.get?_push_size _ rfl
      have hT : Shared.TypeIs { s with heap := s.heap.push { cls := .type "set", dict := none, data := .set #[] 0 (.fresh 0 0 (!w.params.followText "set-order")) } } (.ref s.heap.objs.size) "set" := ⟨_, hS, rfl⟩
      have hli := PySem.F.called_set.init.lookup
      have hbi := PySem.F.called_set.init.bind (.ref s.heap.objs.size)
      repeat (any_goals (first | assumption | wp_step))
      refine codeAny_mono (codeAny_call_builtin (R := wants (fun r s₂ => r = .none ∧ ∃ h' tk, s₂ = { s with heap := h', toks := tk } ∧ SetS w h' s.heap.objs.size (uniq ks) ∧
          (∀ b o, s.heap.get? b = some o → h'.get? b = some o)) E) PySem.F.called_set.init.plain PySem.F.entry_set_init (check_set_init_1 hT ?_)) fun r₂ s₂ hr₂ => ?_
      · obtain ⟨ol, hol, hcl, nl, hdl⟩ := hl
        obtain ⟨ocls, odict, odata, oslots⟩ := ol
        simp only at hcl hdl
        subst hcl; subst hdl
        have hol' : (s.heap.push { cls := .type "set", dict := none, data := .set #[] 0 (.fresh 0 0 (!w.params.followText "set-order")) }).get? l = some { cls := .type "list", dict := odict, data := .seq items nl, slots := oslots } := Heap.get?_push_of_some _ hol
        have hsls := PySem.F.sub_list_set
        have hslf := PySem.F.sub_list_frozenset
        have hne : (Value.type "list" == Value.type "dict") = false := by decide
        have hl1 : (s.heap.push { cls := .type "set", dict := none, data := .set #[] 0 (.fresh 0 0 (!w.params.followText "set-order")) }).IsList l items := ⟨_, hol', rfl, nl, rfl⟩
        unfold Builtin.«set.__init__» noKeywords Builtin.Frozenset.updateFrom
        generalize hPI : pyIter = PI
        wp_walk
        subst hPI
        refine wpAny_pyIter_list hl1 ?_
        refine wpAny_bind (wpAny_runValue ?_)
        have hlS : l < s.heap.objs.size := Heap.lt_size hol
        have hh3 : A.in1.in1.in1.handled = none := by simp [hh]
        have hneI : l ≠ (s.heap.push { cls := .type "set", dict := none, data := .set #[] 0 (.fresh 0 0 (!w.params.followText "set-order")) }).objs.size := by
          rw [Heap.size_push]; exact Nat.ne_of_lt (Nat.lt_succ_of_lt hlS)
        have hSf : s.heap.objs.size ∉ [(s.heap.push { cls := .type "set", dict := none, data := .set #[] 0 (.fresh 0 0 (!w.params.followText "set-order")) }).objs.size, l] := by
          rw [Heap.size_push]; simp only [List.mem_cons, List.not_mem_nil, or_false, not_or]
          exact ⟨Nat.ne_of_lt (Nat.lt_succ_self _), Nat.ne_of_gt hlS⟩
        have hval : ∀ (i : Nat) (v : Value), items[i]? = some v → ∃ z t, ks[i]? = some z ∧ v = .str z t := fun i v hv => by
          have q : items.toList[i]? = some v := by rw [Array.getElem?_toList]; exact hv
          obtain ⟨x, t, rfl⟩ := hit.all v (List.mem_of_getElem? q)
          refine ⟨x, t, ?_, rfl⟩
          rw [← hit.strs, List.getElem?_map, q]
          rfl
        refine fill ((Walks.list hh3 _ l hneI items).toS) s.heap.objs.size hSf ks hisz room hval s.heap (none_at (Nat.le_refl _)) (fun b hb => none_at (by
            rw [List.mem_singleton.mp hb, Heap.size_push]
            exact Nat.le_succ _)) (items.size - 0) 0 _ (by omega) (Nat.zero_le _)
          ⟨⟨_, Heap.get?_push_size _ rfl, rfl, rfl⟩, (hl1.push _)⟩ (fun b o e => Heap.get?_push_of_some _ (Heap.get?_push_of_some _ e)) ?hS0 ?hR
        case hS0 => exact R0.kept fun o e => Heap.get?_push_of_some _ e
        case hR =>
          intro s' hm hS' hkp
          obtain ⟨h', g2, d', tk', os'⟩ := s'
          have eg : g2 = s.gens := hm.gens
          have ed : d' = s.drawn := hm.drawn
          have eo : os' = s.os := hm.os
          subst eg; subst ed; subst eo
          show wpAny _ _ _ _ _ _
          refine wpAny_pure ?_
          show wpAny _ _ (ret Value.none) _ _ _
          exact wpAny_pure ⟨rfl, h', tk', rfl, hS', hkp⟩
      · cases r₂ with
        | error e => exact hr₂
        | ok fl₂ =>
          cases fl₂ with
          | ret r =>
            obtain ⟨rfl, h', tk, rfl, hS', hk'⟩ := hr₂
            repeat (any_goals (first | assumption | wp_step))
            exact h _ _ hS' hk'
          | _ => exact hr₂.elim
    | _ => exact hr.elim
end
theorem strs_of_vals : ∀ {ks : List Str} {us : List Value}, Vals (ks.map V.str) us → StrsAre us ks
  | [], _, .nil => .nil
  | k :: ks, _, .cons r t => by
    obtain ⟨tk, rfl⟩ := r
    exact .cons k tk (strs_of_vals t)
/-- set(a list of texts) -/
theorem cr_setS {X : Cx} (hc : X.calm = true) : CallR X (.type "set") (fun vs H Q => ∃ (l : Addr) (ks : List Str), vs = [V.ref l] ∧ SqL X.K H l (ks.map V.str) ∧ ks.length ≤ 1000 ∧ ∀ a, H a = none → Q (.ref a) (upd H a (SO X.w a (uniq ks)))) := by
  intro pins s σ H xs us Q I r h
  obtain ⟨l, ks, rfl, hl, hf, q⟩ := h
  rw [Vals.ref1 r]
  obtain ⟨its, rv, pl, hz⟩ := I.list hl
  have hn : H s.heap.objs.size = none := I.hok.fresh (Nat.le_refl _)
  have e : scanBound = 4096 := rfl
  refine made (P := X.prog) (w := X.w) (ks := ks) (I.ok.hd hc) pl.isList (by simpa using strs_of_vals rv) (by omega) fun h' tk R k => ?_
  exact ⟨.ref s.heap.objs.size, upd H s.heap.objs.size (SO X.w s.heap.objs.size (uniq ks)), I.laid (t' := tk) k (Nat.le_refl _) (SO.mk R), rfl, q _ hn⟩
end FS

set_option Elab.async false
set_option linter.all false
set_option maxRecDepth 100000
set_option maxHeartbeats 4000000
/-! values near a body -/
namespace FS
open PySem PySem.Spec PyProof.Rows L2
def spNearA (K : PySem.W.Frag) : Sp := fun vs H Q _ => ∃ (D a : Addr) (ds : List Dat), vs = [.ref D, .ref a] ∧ Die H D ∧ At K H D (.ref a) (.tup ds) ∧ ((Dat.tup ds).deep ≤ 6 ∧ (Dat.tup ds).wide ≤ 130 ∧ (Dat.tup ds).size ≤ 900) ∧
  ∀ H' v' d', Go D H H' → At K H' D v' d' → d'.wide ≤ 200 → d'.size ≤ 40000 → Q v' H'
theorem rep_meas (d : Dat) : ∀ k : Nat, widesD (List.replicate k d) ≤ d.wide ∧ sizesD (List.replicate k d) = k * d.size
  | 0 => ⟨Nat.zero_le _, by simp [sizesD]⟩
  | k + 1 => by
    obtain ⟨h1, h2⟩ := rep_meas d k
    rw [List.replicate_succ]
    refine ⟨?_, ?_⟩
    · show max d.wide (widesD _) ≤ _; omega
    · show d.size + sizesD _ = _
      rw [h2, Nat.succ_mul]
      omega
theorem AtAll.rep {K : PySem.W.Frag} {H : Hp} {D : Addr} {v : V} {d : Dat} (h : At K H D v d) : ∀ k, AtAll K H D (List.replicate k v) (List.replicate k d)
  | 0 => .nil
  | k + 1 => .cons h (AtAll.rep h k)
end FS

set_option Elab.async false
set_option linter.all false
set_option maxRecDepth 100000
set_option maxHeartbeats 4000000
namespace FS
open PySem PySem.Spec PyProof.Rows L2
def spBodyA (K : PySem.W.Frag) : Sp := fun vs H Q _ => ∃ (D : Addr) (v w : V) (d : Dat) (own : List (Str × Bool)), vs = [v, w] ∧ At K H D v d ∧ d.wide ≤ 1000 ∧ d.size ≤ 40000 ∧ Dp K H w (parsD own) ∧ ParOk own ∧ ∀ H', Same H H' → Q (.bl (termB own d)) H'
end FS

set_option Elab.async false
set_option linter.all false
set_option maxRecDepth 100000
set_option maxHeartbeats 4000000
/-! what the law needs of the class Procedure, and of is_term within a lambda -/
namespace FS
open PySem PySem.Spec PyProof.Rows L2 LamX
structure PrB (P : Program) (w : World) (K : PySem.W.Frag) (mg : Str → Option Value) (base : Heap) (C CI : Addr) : Prop where
  c : PrC K mg C
  init : ∃ f fd, FnOk P w K mg base (L2.CX P w) 9 f fd ["self", "name", "parameters", "body"] (spInitA K C CI) ∧ Binds K fd ["self", "name", "parameters", "body"] [] ∧ Mk K C f
  len : ∃ f fd, FnOk P w K mg base CX0 1 f fd ["self"] (spLen K C) ∧ Binds K fd ["self"] [] ∧ PySem.W.findIn K (.ref C) "__len__" = some (some (.ref f)) ∧ PySem.W.isFn K (.ref f) = true
structure CalX (P : Program) (w : World) (K : PySem.W.Frag) (mg : Str → Option Value) (base : Heap) (k : Nat) (x : Str) (ps : List Str) (sp : Sp) : Prop where
  ex : ∃ (f : Addr) (fd : FuncData), FnOk P w K mg base (L2.CX P w) k f fd ps sp ∧ mg x = some (.ref f) ∧ PySem.W.keepIn K (.ref f) = true ∧ Binds K fd ps []
structure PropB (P : Program) (w : World) (K : PySem.W.Frag) (mg : Str → Option Value) (base : Heap) (C : Addr) (x g : Str) : Prop where
  ex : ∃ p f fd, PropOf K C x p f ∧ FnOk P w K mg base CX0 1 f fd ["self"] (spGet K C g) ∧ Binds K fd ["self"] []
section
variable {X : Cx} {C CI : Addr} {e : Expr} {es : List Expr} {ta : TE} {t : TA} {x g : Str} {p pos : Pos} {E : XK}
theorem pe_mkPA (G : PrB X.prog X.w X.K X.mg X.base C CI) (hr : Room 10 X.A) (hx : Passes (L2.CX X.prog X.w) X E) (hg : Gl X "Procedure") (ha : PA X (e :: es) t) (he : starEach (e :: es) X.env = (false, eval e X.env) :: starEach es X.env := by rfl) (hpl : (backTo pos (starEach es X.env)).any (·.1) = false := by rfl) :
    PE X (.Call (.Name "Procedure" p) (e :: es) [] pos) (tMake C (spInitA X.K C CI) [] E t) := by
  obtain ⟨f, fd, h1, h2, h3⟩ := G.init
  exact pe_make h3 h1 hr hg G.c.gC h2 .nil hx ha (by decide) he hpl
theorem pe_mkPAK {P : Program} {w : World} {K : PySem.W.Frag} {mg : Str → Option Value} {base : Heap} (G : PrB P w K mg base C CI) (h1 : X.prog = P) (h2 : X.w = w) (h3 : X.K = K) (h4 : X.mg = mg) (h5 : X.base = base) (hr : Room 10 X.A) (hx : Passes (L2.CX X.prog X.w) X E) (hg : Gl X "Procedure") (ha : PA X (e :: es) t) (he : starEach (e :: es) X.env = (false, eval e X.env) :: starEach es X.env := by rfl) (hpl : (backTo pos (starEach es X.env)).any (·.1) = false := by rfl) :
    PE X (.Call (.Name "Procedure" p) (e :: es) [] pos) (tMake C (spInitA K C CI) [] E t) := by
  subst h1 h2 h3 h4 h5
  exact pe_mkPA G hr hx hg ha he hpl
theorem pe_ownX {k : Nat} {ps : List Str} {sp : Sp} (G : CalX X.prog X.w X.K X.mg X.base k x ps sp) (hr : Room (k + 1) X.A) (hx : Passes (L2.CX X.prog X.w) X E) (hg : Gl X x) (ha : PA X (e :: es) t) (hdb : (x == ("__debug__" : Str)) = false := by decide) (he : starEach (e :: es) X.env = (false, eval e X.env) :: starEach es X.env := by rfl) (hpl : (backTo pos (starEach es X.env)).any (·.1) = false := by rfl) :
    PE X (.Call (.Name x p) (e :: es) [] pos) (tCall sp [] E t) := by
  obtain ⟨f, fd, F, m, kp, b⟩ := G.ex
  exact pe_call F (hr.mono (by omega)) hg m kp b .nil hx ha hdb he hpl
theorem cr_lenB (G : PrB X.prog X.w X.K X.mg X.base C CI) (hr : Room 2 X.A) : CallR X (.builtin "len") (fun xs H Q => ∃ a dx fs, xs = [.ref a] ∧ H a = some (.ins C dx fs) ∧ spLen X.K C [.ref a] H (fun v H' => ∃ m : Nat, v = .int m ∧ m ≤ 100000 ∧ Q (.int m) H') E0) := by
  obtain ⟨f, fd, h1, h2, h3, h4⟩ := G.len
  exact cr_lenOwn hr h1 h3 h4 h2 pass0
theorem pe_prB (R : PropB X.prog X.w X.K X.mg X.base C x g) (c : Cls X.K C) (hr : Room 2 X.A) (he : PE X e ta) (hab : attributeBase e x X.env (eval e X.env) = eval e X.env) : PE X (.Attribute e x pos) (tProp C (spGet X.K C g) [] E0 ta) := by
  obtain ⟨q, f, fd, h1, h2, h3⟩ := R.ex
  exact pe_prop he c h1 h2 hr h3 .nil pass0 hab
def reprB (b : Bool) : Str := if b then "True" else "False"
theorem call_repr_bl {X : Cx} : CallR X (.builtin "repr") (fun xs H Q => ∃ b, xs = [.bl b] ∧ Q (.str (reprB b)) H) := by
  intro pins s σ H xs us Q I r h
  obtain ⟨b, rfl, q⟩ := h
  obtain ⟨u, rfl, t⟩ := vals1 r
  cases t
  exact PySem.P.repr_of_bool ⟨.str _, H, I.tok _, ⟨_, rfl⟩, q⟩
end
def spRightB (T : List (Addr × Str)) : Sp := fun vs H Q _ => ∃ (D : Addr), vs = [.ref D] ∧ Die H D ∧ Tabs T H ∧ ∀ H', GoN D H H' → Tabs T H' → Q (.bl true) H'
end FS

set_option Elab.async false
set_option linter.all false
set_option maxRecDepth 100000
set_option maxHeartbeats 4000000
namespace FS
open PySem PySem.Spec PyProof.Rows L2 LamX
def dpn : Nat → Dat
  | 0 => .tup [.str "run", .str "b"]
  | n + 1 => .tup [.str "seq", dpn n]
theorem dpn_wide : ∀ n, (dpn n).wide ≤ 2
  | 0 => by
    show max 2 (max 0 (max 0 0)) ≤ 2
    decide
  | n + 1 => by
    have := dpn_wide n
    show max 2 (max 0 (max (dpn n).wide 0)) ≤ 2
    omega
def ownBW : List (Str × Bool) := [("b", false), ("w", true)]
theorem poBW : ParOk ownBW := ⟨by decide, by decide +kernel, by decide +kernel⟩
theorem shS {z : Str} (h : (decide (z.length ≤ 1000) && PyData.strOk z) = true) : z.length ≤ 1000 ∧ PyData.strOk z = true := by
  obtain ⟨h1, h2⟩ := Bool.and_eq_true_iff.mp h
  exact ⟨of_decide_eq_true h1, h2⟩
def spLawT (K : PySem.W.Frag) (TS : List (Addr × Str)) : Sp := fun vs H Q _ => ∃ (a : Addr) (ns : List Int), vs = [.ref a] ∧ SqL K H a (ns.map V.int) ∧ ns.length ≤ 63 ∧ Tabs TS H ∧ ∀ H', Q (.bl true) H'
theorem extN_seq {K : PySem.W.Frag} {H H' : Hp} {a : Addr} {xs : List V} (e : ExtN H H') (h : SqL K H a xs) : SqL K H' a xs := by
  rcases h with (h | ⟨o, h⟩) | h
  · exact .inl (.inl (e _ _ h (fun ps z => nomatch z)))
  · exact .inl (.inr ⟨o, e _ _ h (fun ps z => nomatch z)⟩)
  · exact .inr h
end FS

set_option Elab.async false
set_option linter.all false
set_option maxRecDepth 100000
set_option maxHeartbeats 4000000
namespace FS
open PySem PySem.Spec PyProof.Rows L2 LamX
theorem t_1 : (termB ownBW (dpn 5)) = true := by
  decide +kernel
theorem t_2 : (termB ownBW (dpn 6)) = false := by
  decide +kernel
theorem t_3 : (termB [] (.tup (.str "seq" :: List.replicate 39 (.tup [.str "seq"])))) = true := by
  decide +kernel
theorem t_4 : (termB [] (.tup (.str "seq" :: List.replicate 40 (.tup [.str "seq"])))) = false := by
  decide +kernel
theorem t_5 : (termB ownBW (.tup [.str "wrap", .tup [.str "own", .str "w"], .tup [.str "run", .str "b"]])) = true := by
  decide +kernel
theorem t_6 : (termB ownBW (.tup [.str "wrap", .tup [.str "own", .str "b"], .tup [.str "run", .str "b"]])) = false := by
  decide +kernel
theorem t_7 : (termB ownBW (.tup [.str "run", .str "w"])) = false := by
  decide +kernel
theorem t_8 : (termB ownBW (.tup [.str "own", .str "w"])) = false := by
  decide +kernel
theorem t_9 : (termB ownBW (.tup [.str "call", .str "p", .tup [.str "own", .str "w"]])) = true := by
  decide +kernel
theorem t_10 : (termB [] (.tup [.str "do", .str "go", .tup [.int 3]])) = false := by
  decide +kernel
theorem t_11 : (termB [] (.tup [.str "do", .str "go", .tup []])) = false := by
  decide +kernel
theorem dpB11 {K : PySem.W.Frag} {H : Hp} : DpAll K H [V.bl true, V.bl false, V.bl true, V.bl false, V.bl true, V.bl false, V.bl false, V.bl false, V.bl true, V.bl false, V.bl false] [.bool true, .bool false, .bool true, .bool false, .bool true, .bool false, .bool false, .bool false, .bool true, .bool false, .bool false] := .cons (.bl _) (.cons (.bl _) (.cons (.bl _) (.cons (.bl _) (.cons (.bl _) (.cons (.bl _) (.cons (.bl _) (.cons (.bl _) (.cons (.bl _) (.cons (.bl _) (.cons (.bl _) (.nil)))))))))))
end FS

set_option Elab.async false
set_option linter.all false
set_option maxRecDepth 100000
set_option maxHeartbeats 4000000
namespace FS
open PySem PySem.Spec PyProof.Rows L2
section
variable {P : Program} {w : World} {K : PySem.W.Frag} {mg : Str → Option Value} {base : Heap}
abbrev Nlaw : List Str := ["_law_script", "_law_at", "_law_own", "_law_deep", "_law_turn", "_law_told"]
theorem sclaw : FnScope Nlaw ["_law_script"] (defScope slaw) := ⟨rfl, rfl, rfl, by decide +kernel, rfl, by decide +kernel, by decide +kernel⟩
theorem ok_law {f : Addr} {fd : FuncData} (F : Fun K "law" "law" slaw f fd) (T : Nm K mg) {TS : List (Addr × Str)} (Cl_numbers : Cal P w K mg base 1 "_law_numbers" ["_law_script", "_law_at"] (spNumbers K)) (Cl_right : Cal P w K mg base 22 "_law_right" ["_law_die"] (spRightB TS)) (Cis_term : Cal P w K mg base 6 "is_term" ["value", "parameters"] (spTermN K)) : FnOk P w K mg base CX0 23 f fd ["_law_script"] (spLawT K TS) := by
  have nd := sclaw.nd
  refine F.ok sclaw (fun vs H Q E h => ?_) (fun cdv A outer s H vs Q E hr h => ?_)
  · obtain ⟨a, ns, rfl, sq, hlen, tT, q⟩ := h
    rfl
  · obtain ⟨a, ns, rfl, sq, hlen, tT, q⟩ := h
    skip
    refine ⟨_, (pss_cons (ps_for PassesOwn.never rfl (pi_range1 rfl T.b_range (pa_cons (pe_callB (call_max2 rfl) (by rfl) T.b_max (by decide +kernel) (pa_cons pe_int (pa_cons (pe_callB (call_min2 rfl) (by rfl) T.b_min (by decide +kernel) (pa_cons pe_int (pa_cons (pe_callB call_len (by rfl) T.b_len PySem.boot_len (pa_cons (pv 0) pa_nil)) pa_nil))) pa_nil))) pa_nil)) (pg_name (i := 1) nd rfl (Or.inl rfl))
  (pss_one (ps_if (pt_not (pt_val (pe_own Cl_right (hr.mono (by decide)) (by rfl) (pa_cons (pe_own Cl_numbers (hr.mono (by decide)) (by rfl) (pa_cons (pv 0) (pa_cons (pv 1) pa_nil))) pa_nil))))
  (pss_one (ps_ret pe_bl))
  pss_nil)))
  (pss_cons (ps_asg (pe_tup (pa_cons (pe_tup (pa_cons (pe_tup (pa_cons pe_str (pa_cons pe_str pa_nil))) (pa_cons (pe_tup (pa_cons pe_str (pa_cons pe_str pa_nil))) pa_nil))) (pa_cons (pe_tup (pa_cons pe_str (pa_cons pe_str pa_nil))) pa_nil))) (pg_tup rfl (pgs_cons (pg_name (i := 2) nd rfl (Or.inl rfl)) (pgs_cons (pg_name (i := 3) nd rfl (Or.inl rfl)) pgs_nil))))
  (pss_cons (ps_for PassesOwn.never rfl (pi_range1 rfl T.b_range (pa_cons pe_int pa_nil)) (pg_name (i := 4) nd rfl (Or.inl rfl))
  (pss_one (ps_set (i := 3) nd rfl (Or.inl rfl) (pe_tup (pa_cons pe_str (pa_cons (pv 3) pa_nil))))))
  (pss_cons (ps_set (i := 5) nd rfl (Or.inl rfl) (pe_lst (pa_cons (pe_own Cis_term (hr.mono (by decide)) (by rfl) (pa_cons (pv 3) (pa_cons (pv 2) pa_nil))) (pa_cons (pe_own Cis_term (hr.mono (by decide)) (by rfl) (pa_cons (pe_tup (pa_cons pe_str (pa_cons (pv 3) pa_nil))) (pa_cons (pv 2) pa_nil))) (pa_cons (pe_own Cis_term (hr.mono (by decide)) (by rfl) (pa_cons (pe_op op_catA (pe_tup (pa_cons pe_str pa_nil)) (pe_op op_repA (pe_tup (pa_cons (pe_tup (pa_cons pe_str pa_nil)) pa_nil)) pe_int)) (pa_cons (pe_tup pa_nil) pa_nil))) pa_nil)))))
  (pss_cons (ps_set (i := 5) nd rfl (Or.inl rfl) (pe_op op_cat (pv 5) (pe_lst (pa_cons (pe_own Cis_term (hr.mono (by decide)) (by rfl) (pa_cons (pe_op op_catA (pe_tup (pa_cons pe_str pa_nil)) (pe_op op_repA (pe_tup (pa_cons (pe_tup (pa_cons pe_str pa_nil)) pa_nil)) pe_int)) (pa_cons (pe_tup pa_nil) pa_nil))) (pa_cons (pe_own Cis_term (hr.mono (by decide)) (by rfl) (pa_cons (pe_tup (pa_cons pe_str (pa_cons (pe_tup (pa_cons pe_str (pa_cons pe_str pa_nil))) (pa_cons (pe_tup (pa_cons pe_str (pa_cons pe_str pa_nil))) pa_nil)))) (pa_cons (pv 2) pa_nil))) pa_nil)))))
  (pss_cons (ps_set (i := 5) nd rfl (Or.inl rfl) (pe_op op_cat (pv 5) (pe_lst (pa_cons (pe_own Cis_term (hr.mono (by decide)) (by rfl) (pa_cons (pe_tup (pa_cons pe_str (pa_cons (pe_tup (pa_cons pe_str (pa_cons pe_str pa_nil))) (pa_cons (pe_tup (pa_cons pe_str (pa_cons pe_str pa_nil))) pa_nil)))) (pa_cons (pv 2) pa_nil))) (pa_cons (pe_own Cis_term (hr.mono (by decide)) (by rfl) (pa_cons (pe_tup (pa_cons pe_str (pa_cons pe_str pa_nil))) (pa_cons (pv 2) pa_nil))) (pa_cons (pe_own Cis_term (hr.mono (by decide)) (by rfl) (pa_cons (pe_tup (pa_cons pe_str (pa_cons pe_str pa_nil))) (pa_cons (pv 2) pa_nil))) pa_nil))))))
  (pss_cons (ps_set (i := 5) nd rfl (Or.inl rfl) (pe_op op_cat (pv 5) (pe_lst (pa_cons (pe_own Cis_term (hr.mono (by decide)) (by rfl) (pa_cons (pe_tup (pa_cons pe_str (pa_cons pe_str (pa_cons (pe_tup (pa_cons pe_str (pa_cons pe_str pa_nil))) pa_nil)))) (pa_cons (pv 2) pa_nil))) (pa_cons (pe_own Cis_term (hr.mono (by decide)) (by rfl) (pa_cons (pe_tup (pa_cons pe_str (pa_cons pe_str (pa_cons (pe_tup (pa_cons pe_int pa_nil)) pa_nil)))) (pa_cons (pe_tup pa_nil) pa_nil))) (pa_cons (pe_own Cis_term (hr.mono (by decide)) (by rfl) (pa_cons (pe_tup (pa_cons pe_str (pa_cons pe_str (pa_cons (pe_tup pa_nil) pa_nil)))) (pa_cons (pe_tup pa_nil) pa_nil))) pa_nil))))))
  (pss_one (ps_ret (pe_cmpR (op_eqD hr.units) (pv 5) (pe_lst (pa_cons pe_bl (pa_cons pe_bl (pa_cons pe_bl (pa_cons pe_bl (pa_cons pe_bl (pa_cons pe_bl (pa_cons pe_bl (pa_cons pe_bl (pa_cons pe_bl (pa_cons pe_bl (pa_cons pe_bl pa_nil)))))))))))) (nomark _))))))))))), ?_⟩

    refine ⟨_, rfl, _, _, rfl, .inl ⟨_, sq, rfl⟩, _, _, rfl, _, _, rfl, ?_⟩
    have hl : (ns.map V.int).length = ns.length := List.length_map _
    rw [hl]
    obtain ⟨m, em, hm⟩ : ∃ m : Nat, (if (if ((ns.length : Nat) : Int) < 6 then ((ns.length : Nat) : Int) else 6) > 1 then (if ((ns.length : Nat) : Int) < 6 then ((ns.length : Nat) : Int) else 6) else 1) = (m : Int) ∧ m ≤ 6 := by
      refine ⟨(if (if ((ns.length : Nat) : Int) < 6 then ((ns.length : Nat) : Int) else 6) > 1 then (if ((ns.length : Nat) : Int) < 6 then ((ns.length : Nat) : Int) else 6) else 1).toNat, ?_, ?_⟩ <;> (split <;> split <;> omega)
    rw [em]
    refine ⟨_, rfl, by omega, by omega, for_range (lo := 0) (n := m) (fun i σ H' => (∃ y1, σ = [some (.ref a), y1, none, none, none, none]) ∧ LamX.ExtN H H' ∧ LamX.Tabs TS H') ⟨⟨_, rfl⟩, .refl H, tT⟩ (fun i σ H1 hi hp => ?_) (fun σ H1 hp => ?_)⟩
    · obtain ⟨⟨y1, rfl⟩, x1, t1⟩ := hp
      have ei : (0 : Int) + (i : Int) = (i : Int) := by omega
      rw [ei]
      refine ⟨_, rfl, _, rfl, a, ns, i, rfl, extN_seq x1 sq, by omega, fun H2 p s2 np dp => ?_⟩
      refine ⟨p, rfl, dp, Tabs.same t1 s2, fun H3 g3 t3 => ⟨_, rfl, iteF ?_⟩⟩
      exact ⟨⟨_, rfl⟩, x1.trans fun b o e n => g3.1 b o (ne_of_none e np) (s2 b o e) n, t3⟩
    · obtain ⟨⟨y1, rfl⟩, x1, t1⟩ := hp
      clear em hm hl x1 sq t1
      refine ⟨by show 2 ≤ sizeLine; decide, fun q1 nq1 => ?_⟩
      have sq1 := same_upd (o := .tup [V.str "b", V.str "block"]) nq1
      have eq1 : upd H1 q1 (.tup [V.str "b", V.str "block"]) q1 = some (.tup [V.str "b", V.str "block"]) := upd_same
      generalize upd H1 q1 (.tup [V.str "b", V.str "block"]) = J1 at sq1 eq1 ⊢
      refine ⟨by show 2 ≤ sizeLine; decide, fun q2 nq2 => ?_⟩
      have sq2 := same_upd (o := .tup [V.str "w", V.str "wrap"]) nq2
      have eq2 : upd J1 q2 (.tup [V.str "w", V.str "wrap"]) q2 = some (.tup [V.str "w", V.str "wrap"]) := upd_same
      generalize upd J1 q2 (.tup [V.str "w", V.str "wrap"]) = J2 at sq2 eq2 ⊢
      refine ⟨by show 2 ≤ sizeLine; decide, fun q3 nq3 => ?_⟩
      have sq3 := same_upd (o := .tup [V.ref q1, V.ref q2]) nq3
      have eq3 : upd J2 q3 (.tup [V.ref q1, V.ref q2]) q3 = some (.tup [V.ref q1, V.ref q2]) := upd_same
      generalize upd J2 q3 (.tup [V.ref q1, V.ref q2]) = J3 at sq3 eq3 ⊢
      refine ⟨by show 2 ≤ sizeLine; decide, fun q4 nq4 => ?_⟩
      have sq4 := same_upd (o := .tup [V.str "run", V.str "b"]) nq4
      have eq4 : upd J3 q4 (.tup [V.str "run", V.str "b"]) q4 = some (.tup [V.str "run", V.str "b"]) := upd_same
      generalize upd J3 q4 (.tup [V.str "run", V.str "b"]) = J4 at sq4 eq4 ⊢
      refine ⟨by show 2 ≤ sizeLine; decide, fun q5 nq5 => ?_⟩
      have sq5 := same_upd (o := .tup [V.ref q3, V.ref q4]) nq5
      have eq5 : upd J4 q5 (.tup [V.ref q3, V.ref q4]) q5 = some (.tup [V.ref q3, V.ref q4]) := upd_same
      generalize upd J4 q5 (.tup [V.ref q3, V.ref q4]) = J5 at sq5 eq5 ⊢
      have s45 := sq4.trans sq5
      have s35 := sq3.trans s45
      have dO : Dp K J5 (.ref q3) (parsD ownBW) := .tup (.inl (.inl (s45 _ _ eq3))) (.cons (.tup (.inl (.inl ((sq2.trans s35) _ _ eq1))) (.cons (.str _) (.cons (.str _) .nil))) (.cons (.tup (.inl (.inl (s35 _ _ eq2))) (.cons (.str _) (.cons (.str _) .nil))) .nil))
      have d0 : At K J5 0 (.ref q4) (dpn 0) := .tup (.inl (.inl (sq5 _ _ eq4))) (.cons (.str _ (shS (by decide +kernel))) (.cons (.str _ (shS (by decide +kernel))) .nil))
      clear sq1 eq1 sq2 eq2 sq3 eq3 sq4 eq4 sq5 s45 s35
      refine ⟨q5, _, rfl, .inl (.inl eq5), rfl, _, _, rfl, _, _, rfl, rfl, ?_⟩
      refine ⟨_, rfl, by decide, by decide, for_range (lo := 0) (n := 5) (fun i σ H' => (∃ v y, σ = [some (.ref a), y1, some (.ref q3), some v, y, none] ∧ At K H' 0 v (dpn i)) ∧ Same J5 H') ⟨⟨_, _, rfl, d0⟩, .refl J5⟩ (fun i σ H2 hi hp => ?_) (fun σ H2 hp => ?_)⟩
      · obtain ⟨⟨v, y, rfl, hv⟩, sm⟩ := hp
        refine ⟨_, rfl, by show 2 ≤ sizeLine; decide, fun p np => ?_⟩
        have sp := same_upd (o := .tup [V.str "seq", v]) np
        exact ⟨⟨_, _, rfl, .tup (.inl (.inl upd_same)) (.cons (.str _ (shS (by decide +kernel))) (.cons (hv.same sp) .nil))⟩, sm.trans sp⟩
      obtain ⟨⟨v, y, rfl, hv⟩, sm⟩ := hp
      have dO := Dp.stay (.of sm) (pars_noL ownBW) dO
      clear d0 eq5 sm nq1 nq2 nq3 nq4 nq5
      refine ⟨_, rfl, _, rfl, 0, v, .ref q3, dpn 5, ownBW, rfl, hv, Nat.le_trans (dpn_wide 5) (by decide), dO, poBW, fun H3 s3 => ?_⟩
      have hv := hv.same s3
      have dO := Dp.stay (.of s3) (pars_noL ownBW) dO
      clear s3
      refine ⟨_, rfl, by show 2 ≤ sizeLine; decide, fun p1 n1 => ?_⟩
      have s4 := same_upd (o := .tup [V.str "seq", v]) n1
      have e4 : upd H3 p1 (.tup [V.str "seq", v]) p1 = some (.tup [V.str "seq", v]) := upd_same
      generalize upd H3 p1 (.tup [V.str "seq", v]) = H4 at s4 e4 ⊢
      have sqk : ("seq" : Str).length ≤ 1000 ∧ PyData.strOk "seq" = true := shS (by decide +kernel)
      have dO := Dp.stay (.of s4) (pars_noL ownBW) dO
      refine ⟨_, rfl, 0, .ref p1, .ref q3, dpn 6, ownBW, rfl, .tup (.inl (.inl e4)) (.cons (.str _ sqk) (.cons (hv.same s4) .nil)), Nat.le_trans (dpn_wide 6) (by decide), dO, poBW, fun H5 s5 => ?_⟩
      have dO := Dp.stay (.of s5) (pars_noL ownBW) dO
      clear hv s4 e4 s5 n1
      refine ⟨by show 1 ≤ sizeLine; decide, fun p2 n2 => ?_⟩
      have s6 := same_upd (o := .tup [V.str "seq"]) n2
      have e6 : upd H5 p2 (.tup [V.str "seq"]) p2 = some (.tup [V.str "seq"]) := upd_same
      generalize upd H5 p2 (.tup [V.str "seq"]) = H6 at s6 e6 ⊢
      refine ⟨by show 1 ≤ sizeLine; decide, fun r61 m61 => ?_⟩
      have t61 := same_upd (o := .tup [V.str "seq"]) m61
      have f61 : upd H6 r61 (.tup [V.str "seq"]) r61 = some (.tup [V.str "seq"]) := upd_same
      generalize upd H6 r61 (.tup [V.str "seq"]) = K61 at t61 f61 ⊢
      refine ⟨by show 1 ≤ sizeLine; decide, fun r62 m62 => ?_⟩
      have t62 := same_upd (o := .tup [V.ref r61]) m62
      have f62 : upd K61 r62 (.tup [V.ref r61]) r62 = some (.tup [V.ref r61]) := upd_same
      generalize upd K61 r62 (.tup [V.ref r61]) = K62 at t62 f62 ⊢
      refine ⟨r62, 39, [V.ref r61], rfl, rfl, .inl (.inl f62), List.cons_ne_nil _ _, by decide, (show 1 ≤ 1000 by decide), fun r63 K63 t63 sq63 => ?_⟩
      rw [rep_flat] at sq63
      refine cat_anyA (.inl (.inl ((t61.trans (t62.trans t63)) _ _ e6))) sq63 (by rw [List.length_replicate]; exact Nat.le_trans (show 1 + 39 ≤ 100 by decide) (by decide)) fun K64 r64 t64 sq64 => ?_
      refine ⟨Nat.zero_le _, fun r65 m65 => ?_⟩
      have t65 := same_upd (o := .tup []) m65
      have f65 : upd K64 r65 (.tup []) r65 = some (.tup []) := upd_same
      generalize upd K64 r65 (.tup []) = K65 at t65 f65 ⊢
      have tA6 := t61.trans (t62.trans (t63.trans (t64.trans t65)))
      refine ⟨0, .ref r64, .ref r65, .tup (.str "seq" :: List.replicate 39 (.tup [.str "seq"])), [], rfl, .tup (Same.sqT t65 sq64) (.cons (.str _ sqk) (AtAll.rep (.tup (.inl (.inl ((t62.trans (t63.trans (t64.trans t65))) _ _ f61))) (.cons (.str _ sqk) .nil)) 39)), by decide +kernel, .tup (.inl (.inl f65)) .nil, ⟨by decide, (fun _ h => nomatch h), .nil⟩, fun L6 sL6 => ?_⟩
      have dO := Dp.stay (.of (s6.trans (tA6.trans sL6))) (pars_noL ownBW) dO
      clear tA6 sL6 t61 t62 t63 t64 t65 f61 f62 f65 sq63 sq64 s6 e6
      refine ⟨by show 3 ≤ sizeLine; decide, fun l1 nl1 => ?_⟩
      generalize hh : upd L6 l1 _ = M1
      have sl1 : Same L6 M1 := by rw [← hh]; exact same_upd nl1
      have el1 : M1 l1 = some (.lst [V.bl (termB ownBW (dpn 5)), V.bl (termB ownBW (dpn 6)), V.bl (termB [] (.tup (.str "seq" :: List.replicate 39 (.tup [.str "seq"]))))]) := by rw [← hh]; exact upd_same
      clear hh
      have dO := Dp.stay (.of sl1) (pars_noL ownBW) dO
      clear sl1
      refine ⟨_, rfl, by show 1 ≤ sizeLine; decide, fun p2 n2 => ?_⟩
      have sA := same_upd (o := .tup [V.str "seq"]) n2
      have eA : upd M1 p2 (.tup [V.str "seq"]) p2 = some (.tup [V.str "seq"]) := upd_same
      generalize upd M1 p2 (.tup [V.str "seq"]) = HA at sA eA ⊢
      refine ⟨by show 1 ≤ sizeLine; decide, fun rA1 mA1 => ?_⟩
      have tA_1 := same_upd (o := .tup [V.str "seq"]) mA1
      have fA1 : upd HA rA1 (.tup [V.str "seq"]) rA1 = some (.tup [V.str "seq"]) := upd_same
      generalize upd HA rA1 (.tup [V.str "seq"]) = KA1 at tA_1 fA1 ⊢
      refine ⟨by show 1 ≤ sizeLine; decide, fun rA2 mA2 => ?_⟩
      have tA_2 := same_upd (o := .tup [V.ref rA1]) mA2
      have fA2 : upd KA1 rA2 (.tup [V.ref rA1]) rA2 = some (.tup [V.ref rA1]) := upd_same
      generalize upd KA1 rA2 (.tup [V.ref rA1]) = KA2 at tA_2 fA2 ⊢
      refine ⟨rA2, 40, [V.ref rA1], rfl, rfl, .inl (.inl fA2), List.cons_ne_nil _ _, by decide, (show 1 ≤ 1000 by decide), fun rA3 KA3 tA_3 sqA3 => ?_⟩
      rw [rep_flat] at sqA3
      refine cat_anyA (.inl (.inl ((tA_1.trans (tA_2.trans tA_3)) _ _ eA))) sqA3 (by rw [List.length_replicate]; exact Nat.le_trans (show 1 + 40 ≤ 100 by decide) (by decide)) fun KA4 rA4 tA_4 sqA4 => ?_
      refine ⟨Nat.zero_le _, fun rA5 mA5 => ?_⟩
      have tA_5 := same_upd (o := .tup []) mA5
      have fA5 : upd KA4 rA5 (.tup []) rA5 = some (.tup []) := upd_same
      generalize upd KA4 rA5 (.tup []) = KA5 at tA_5 fA5 ⊢
      have tAA := tA_1.trans (tA_2.trans (tA_3.trans (tA_4.trans tA_5)))
      refine ⟨0, .ref rA4, .ref rA5, .tup (.str "seq" :: List.replicate 40 (.tup [.str "seq"])), [], rfl, .tup (Same.sqT tA_5 sqA4) (.cons (.str _ sqk) (AtAll.rep (.tup (.inl (.inl ((tA_2.trans (tA_3.trans (tA_4.trans tA_5))) _ _ fA1))) (.cons (.str _ sqk) .nil)) 40)), by decide +kernel, .tup (.inl (.inl fA5)) .nil, ⟨by decide, (fun _ h => nomatch h), .nil⟩, fun LA sLA => ?_⟩
      have el := (sA.trans (tAA.trans sLA)) _ _ el1
      have dO := Dp.stay (.of (sA.trans (tAA.trans sLA))) (pars_noL ownBW) dO
      clear tAA sLA tA_1 tA_2 tA_3 tA_4 tA_5 fA1 fA2 fA5 sqA3 sqA4 sA eA el1
      refine ⟨by show 2 ≤ sizeLine; decide, fun z1 nz1 => ?_⟩
      have sz1 := same_upd (o := .tup [V.str "own", V.str "w"]) nz1
      have ez1 : upd LA z1 (.tup [V.str "own", V.str "w"]) z1 = some (.tup [V.str "own", V.str "w"]) := upd_same
      generalize upd LA z1 (.tup [V.str "own", V.str "w"]) = Z2 at sz1 ez1 ⊢
      refine ⟨by show 2 ≤ sizeLine; decide, fun z3 nz3 => ?_⟩
      have sz3 := same_upd (o := .tup [V.str "run", V.str "b"]) nz3
      have ez3 : upd Z2 z3 (.tup [V.str "run", V.str "b"]) z3 = some (.tup [V.str "run", V.str "b"]) := upd_same
      generalize upd Z2 z3 (.tup [V.str "run", V.str "b"]) = Z4 at sz3 ez3 ⊢
      refine ⟨by show 3 ≤ sizeLine; decide, fun z5 nz5 => ?_⟩
      have sz5 := same_upd (o := .tup [V.str "wrap", V.ref z1, V.ref z3]) nz5
      have ez5 : upd Z4 z5 (.tup [V.str "wrap", V.ref z1, V.ref z3]) z5 = some (.tup [V.str "wrap", V.ref z1, V.ref z3]) := upd_same
      generalize upd Z4 z5 (.tup [V.str "wrap", V.ref z1, V.ref z3]) = Z6 at sz5 ez5 ⊢
      have dO := Dp.stay (.of (sz1.trans (sz3.trans sz5))) (pars_noL ownBW) dO
      refine ⟨_, rfl, 0, .ref z5, .ref q3, .tup [.str "wrap", .tup [.str "own", .str "w"], .tup [.str "run", .str "b"]], ownBW, rfl, .tup (.inl (.inl ez5)) (.cons (.str _ (shS (by decide +kernel))) (.cons (.tup (.inl (.inl ((sz3.trans sz5) _ _ ez1))) (.cons (.str _ (shS (by decide +kernel))) (.cons (.str _ (shS (by decide +kernel))) .nil))) (.cons (.tup (.inl (.inl (sz5 _ _ ez3))) (.cons (.str _ (shS (by decide +kernel))) (.cons (.str _ (shS (by decide +kernel))) .nil))) .nil))), by decide +kernel, dO, poBW, fun Y7 sY7 => ?_⟩
      have dO := Dp.stay (.of sY7) (pars_noL ownBW) dO
      have el := ((sz1.trans (sz3.trans (sz5.trans sY7)))) _ _ el
      clear sz1 sz3 sz5
      clear ez1 ez3 ez5
      clear nz1 nz3 nz5 sY7
      refine ⟨by show 2 ≤ sizeLine; decide, fun l8 nl8 => ?_⟩
      generalize hh : upd Y7 l8 _ = M9
      have sl8 : Same Y7 M9 := by rw [← hh]; exact same_upd nl8
      have el8 : M9 l8 = some (.lst [V.bl (termB [] (.tup (.str "seq" :: List.replicate 40 (.tup [.str "seq"])))), V.bl (termB ownBW (.tup [.str "wrap", .tup [.str "own", .str "w"], .tup [.str "run", .str "b"]]))]) := by rw [← hh]; exact upd_same
      clear hh nl8
      replace el := sl8 _ _ el
      refine ⟨l1, l8, _, _, rfl, rfl, el, el8, by decide, fun l10 nl10 => ?_⟩
      generalize hh : upd M9 l10 _ = M11
      have sl10 : Same M9 M11 := by rw [← hh]; exact same_upd nl10
      clear el
      have el : M11 l10 = some (.lst [V.bl (termB ownBW (dpn 5)), V.bl (termB ownBW (dpn 6)), V.bl (termB [] (.tup (.str "seq" :: List.replicate 39 (.tup [.str "seq"])))), V.bl (termB [] (.tup (.str "seq" :: List.replicate 40 (.tup [.str "seq"])))), V.bl (termB ownBW (.tup [.str "wrap", .tup [.str "own", .str "w"], .tup [.str "run", .str "b"]]))]) := by rw [← hh]; exact upd_same
      clear hh nl10 el8
      have dO := Dp.stay (.of (sl8.trans sl10)) (pars_noL ownBW) dO
      clear sl8 sl10
      refine ⟨_, rfl, ?_⟩
      refine ⟨by show 2 ≤ sizeLine; decide, fun z12 nz12 => ?_⟩
      have sz12 := same_upd (o := .tup [V.str "own", V.str "b"]) nz12
      have ez12 : upd M11 z12 (.tup [V.str "own", V.str "b"]) z12 = some (.tup [V.str "own", V.str "b"]) := upd_same
      generalize upd M11 z12 (.tup [V.str "own", V.str "b"]) = Z13 at sz12 ez12 ⊢
      refine ⟨by show 2 ≤ sizeLine; decide, fun z14 nz14 => ?_⟩
      have sz14 := same_upd (o := .tup [V.str "run", V.str "b"]) nz14
      have ez14 : upd Z13 z14 (.tup [V.str "run", V.str "b"]) z14 = some (.tup [V.str "run", V.str "b"]) := upd_same
      generalize upd Z13 z14 (.tup [V.str "run", V.str "b"]) = Z15 at sz14 ez14 ⊢
      refine ⟨by show 3 ≤ sizeLine; decide, fun z16 nz16 => ?_⟩
      have sz16 := same_upd (o := .tup [V.str "wrap", V.ref z12, V.ref z14]) nz16
      have ez16 : upd Z15 z16 (.tup [V.str "wrap", V.ref z12, V.ref z14]) z16 = some (.tup [V.str "wrap", V.ref z12, V.ref z14]) := upd_same
      generalize upd Z15 z16 (.tup [V.str "wrap", V.ref z12, V.ref z14]) = Z17 at sz16 ez16 ⊢
      have dO := Dp.stay (.of (sz12.trans (sz14.trans sz16))) (pars_noL ownBW) dO
      refine ⟨_, rfl, 0, .ref z16, .ref q3, .tup [.str "wrap", .tup [.str "own", .str "b"], .tup [.str "run", .str "b"]], ownBW, rfl, .tup (.inl (.inl ez16)) (.cons (.str _ (shS (by decide +kernel))) (.cons (.tup (.inl (.inl ((sz14.trans sz16) _ _ ez12))) (.cons (.str _ (shS (by decide +kernel))) (.cons (.str _ (shS (by decide +kernel))) .nil))) (.cons (.tup (.inl (.inl (sz16 _ _ ez14))) (.cons (.str _ (shS (by decide +kernel))) (.cons (.str _ (shS (by decide +kernel))) .nil))) .nil))), by decide +kernel, dO, poBW, fun Y18 sY18 => ?_⟩
      have dO := Dp.stay (.of sY18) (pars_noL ownBW) dO
      have el := ((sz12.trans (sz14.trans (sz16.trans sY18)))) _ _ el
      clear sz12 sz14 sz16
      clear ez12 ez14 ez16
      clear nz12 nz14 nz16 sY18
      refine ⟨by show 2 ≤ sizeLine; decide, fun z19 nz19 => ?_⟩
      have sz19 := same_upd (o := .tup [V.str "run", V.str "w"]) nz19
      have ez19 : upd Y18 z19 (.tup [V.str "run", V.str "w"]) z19 = some (.tup [V.str "run", V.str "w"]) := upd_same
      generalize upd Y18 z19 (.tup [V.str "run", V.str "w"]) = Z20 at sz19 ez19 ⊢
      have dO := Dp.stay (.of sz19) (pars_noL ownBW) dO
      refine ⟨_, rfl, 0, .ref z19, .ref q3, .tup [.str "run", .str "w"], ownBW, rfl, .tup (.inl (.inl ez19)) (.cons (.str _ (shS (by decide +kernel))) (.cons (.str _ (shS (by decide +kernel))) .nil)), by decide +kernel, dO, poBW, fun Y21 sY21 => ?_⟩
      have dO := Dp.stay (.of sY21) (pars_noL ownBW) dO
      have el := ((sz19.trans sY21)) _ _ el
      clear sz19
      clear ez19
      clear nz19 sY21
      refine ⟨by show 2 ≤ sizeLine; decide, fun z22 nz22 => ?_⟩
      have sz22 := same_upd (o := .tup [V.str "own", V.str "w"]) nz22
      have ez22 : upd Y21 z22 (.tup [V.str "own", V.str "w"]) z22 = some (.tup [V.str "own", V.str "w"]) := upd_same
      generalize upd Y21 z22 (.tup [V.str "own", V.str "w"]) = Z23 at sz22 ez22 ⊢
      have dO := Dp.stay (.of sz22) (pars_noL ownBW) dO
      refine ⟨_, rfl, 0, .ref z22, .ref q3, .tup [.str "own", .str "w"], ownBW, rfl, .tup (.inl (.inl ez22)) (.cons (.str _ (shS (by decide +kernel))) (.cons (.str _ (shS (by decide +kernel))) .nil)), by decide +kernel, dO, poBW, fun Y24 sY24 => ?_⟩
      have dO := Dp.stay (.of sY24) (pars_noL ownBW) dO
      have el := ((sz22.trans sY24)) _ _ el
      clear sz22
      clear ez22
      clear nz22 sY24
      refine ⟨by show 3 ≤ sizeLine; decide, fun l25 nl25 => ?_⟩
      generalize hh : upd Y24 l25 _ = M26
      have sl25 : Same Y24 M26 := by rw [← hh]; exact same_upd nl25
      have el25 : M26 l25 = some (.lst [V.bl (termB ownBW (.tup [.str "wrap", .tup [.str "own", .str "b"], .tup [.str "run", .str "b"]])), V.bl (termB ownBW (.tup [.str "run", .str "w"])), V.bl (termB ownBW (.tup [.str "own", .str "w"]))]) := by rw [← hh]; exact upd_same
      clear hh nl25
      replace el := sl25 _ _ el
      refine ⟨l10, l25, _, _, rfl, rfl, el, el25, by decide, fun l27 nl27 => ?_⟩
      generalize hh : upd M26 l27 _ = M28
      have sl27 : Same M26 M28 := by rw [← hh]; exact same_upd nl27
      clear el
      have el : M28 l27 = some (.lst [V.bl (termB ownBW (dpn 5)), V.bl (termB ownBW (dpn 6)), V.bl (termB [] (.tup (.str "seq" :: List.replicate 39 (.tup [.str "seq"])))), V.bl (termB [] (.tup (.str "seq" :: List.replicate 40 (.tup [.str "seq"])))), V.bl (termB ownBW (.tup [.str "wrap", .tup [.str "own", .str "w"], .tup [.str "run", .str "b"]])), V.bl (termB ownBW (.tup [.str "wrap", .tup [.str "own", .str "b"], .tup [.str "run", .str "b"]])), V.bl (termB ownBW (.tup [.str "run", .str "w"])), V.bl (termB ownBW (.tup [.str "own", .str "w"]))]) := by rw [← hh]; exact upd_same
      clear hh nl27 el25
      have dO := Dp.stay (.of (sl25.trans sl27)) (pars_noL ownBW) dO
      clear sl25 sl27
      refine ⟨_, rfl, ?_⟩
      refine ⟨by show 2 ≤ sizeLine; decide, fun z29 nz29 => ?_⟩
      have sz29 := same_upd (o := .tup [V.str "own", V.str "w"]) nz29
      have ez29 : upd M28 z29 (.tup [V.str "own", V.str "w"]) z29 = some (.tup [V.str "own", V.str "w"]) := upd_same
      generalize upd M28 z29 (.tup [V.str "own", V.str "w"]) = Z30 at sz29 ez29 ⊢
      refine ⟨by show 3 ≤ sizeLine; decide, fun z31 nz31 => ?_⟩
      have sz31 := same_upd (o := .tup [V.str "call", V.str "p", V.ref z29]) nz31
      have ez31 : upd Z30 z31 (.tup [V.str "call", V.str "p", V.ref z29]) z31 = some (.tup [V.str "call", V.str "p", V.ref z29]) := upd_same
      generalize upd Z30 z31 (.tup [V.str "call", V.str "p", V.ref z29]) = Z32 at sz31 ez31 ⊢
      have dO := Dp.stay (.of (sz29.trans sz31)) (pars_noL ownBW) dO
      refine ⟨_, rfl, 0, .ref z31, .ref q3, .tup [.str "call", .str "p", .tup [.str "own", .str "w"]], ownBW, rfl, .tup (.inl (.inl ez31)) (.cons (.str _ (shS (by decide +kernel))) (.cons (.str _ (shS (by decide +kernel))) (.cons (.tup (.inl (.inl (sz31 _ _ ez29))) (.cons (.str _ (shS (by decide +kernel))) (.cons (.str _ (shS (by decide +kernel))) .nil))) .nil))), by decide +kernel, dO, poBW, fun Y33 sY33 => ?_⟩
      have dO := Dp.stay (.of sY33) (pars_noL ownBW) dO
      have el := ((sz29.trans (sz31.trans sY33))) _ _ el
      clear sz29 sz31
      clear ez29 ez31
      clear nz29 nz31 sY33
      clear dO
      refine ⟨by show 1 ≤ sizeLine; decide, fun z34 nz34 => ?_⟩
      have sz34 := same_upd (o := .tup [V.int 3]) nz34
      have ez34 : upd Y33 z34 (.tup [V.int 3]) z34 = some (.tup [V.int 3]) := upd_same
      generalize upd Y33 z34 (.tup [V.int 3]) = Z35 at sz34 ez34 ⊢
      refine ⟨by show 3 ≤ sizeLine; decide, fun z36 nz36 => ?_⟩
      have sz36 := same_upd (o := .tup [V.str "do", V.str "go", V.ref z34]) nz36
      have ez36 : upd Z35 z36 (.tup [V.str "do", V.str "go", V.ref z34]) z36 = some (.tup [V.str "do", V.str "go", V.ref z34]) := upd_same
      generalize upd Z35 z36 (.tup [V.str "do", V.str "go", V.ref z34]) = Z37 at sz36 ez36 ⊢
      refine ⟨Nat.zero_le _, fun z38 nz38 => ?_⟩
      have sz38 := same_upd (o := .tup []) nz38
      have ez38 : upd Z37 z38 (.tup []) z38 = some (.tup []) := upd_same
      generalize upd Z37 z38 (.tup []) = Z39 at sz38 ez38 ⊢
      refine ⟨0, .ref z36, .ref z38, .tup [.str "do", .str "go", .tup [.int 3]], [], rfl, .tup (.inl (.inl (sz38 _ _ ez36))) (.cons (.str _ (shS (by decide +kernel))) (.cons (.str _ (shS (by decide +kernel))) (.cons (.tup (.inl (.inl ((sz36.trans sz38) _ _ ez34))) (.cons (.int _) .nil)) .nil))), by decide +kernel, .tup (.inl (.inl ez38)) .nil, ⟨by decide, (fun _ h => nomatch h), .nil⟩, fun Y40 sY40 => ?_⟩
      have el := ((sz34.trans (sz36.trans (sz38.trans sY40)))) _ _ el
      clear sz34 sz36 sz38
      clear ez34 ez36 ez38
      clear nz34 nz36 nz38 sY40
      refine ⟨Nat.zero_le _, fun z41 nz41 => ?_⟩
      have sz41 := same_upd (o := .tup []) nz41
      have ez41 : upd Y40 z41 (.tup []) z41 = some (.tup []) := upd_same
      generalize upd Y40 z41 (.tup []) = Z42 at sz41 ez41 ⊢
      refine ⟨by show 3 ≤ sizeLine; decide, fun z43 nz43 => ?_⟩
      have sz43 := same_upd (o := .tup [V.str "do", V.str "go", V.ref z41]) nz43
      have ez43 : upd Z42 z43 (.tup [V.str "do", V.str "go", V.ref z41]) z43 = some (.tup [V.str "do", V.str "go", V.ref z41]) := upd_same
      generalize upd Z42 z43 (.tup [V.str "do", V.str "go", V.ref z41]) = Z44 at sz43 ez43 ⊢
      refine ⟨Nat.zero_le _, fun z45 nz45 => ?_⟩
      have sz45 := same_upd (o := .tup []) nz45
      have ez45 : upd Z44 z45 (.tup []) z45 = some (.tup []) := upd_same
      generalize upd Z44 z45 (.tup []) = Z46 at sz45 ez45 ⊢
      refine ⟨0, .ref z43, .ref z45, .tup [.str "do", .str "go", .tup []], [], rfl, .tup (.inl (.inl (sz45 _ _ ez43))) (.cons (.str _ (shS (by decide +kernel))) (.cons (.str _ (shS (by decide +kernel))) (.cons (.tup (.inl (.inl ((sz43.trans sz45) _ _ ez41))) .nil) .nil))), by decide +kernel, .tup (.inl (.inl ez45)) .nil, ⟨by decide, (fun _ h => nomatch h), .nil⟩, fun Y47 sY47 => ?_⟩
      have el := ((sz41.trans (sz43.trans (sz45.trans sY47)))) _ _ el
      clear sz41 sz43 sz45
      clear ez41 ez43 ez45
      clear nz41 nz43 nz45 sY47
      refine ⟨by show 3 ≤ sizeLine; decide, fun l48 nl48 => ?_⟩
      generalize hh : upd Y47 l48 _ = M49
      have sl48 : Same Y47 M49 := by rw [← hh]; exact same_upd nl48
      have el48 : M49 l48 = some (.lst [V.bl (termB ownBW (.tup [.str "call", .str "p", .tup [.str "own", .str "w"]])), V.bl (termB [] (.tup [.str "do", .str "go", .tup [.int 3]])), V.bl (termB [] (.tup [.str "do", .str "go", .tup []]))]) := by rw [← hh]; exact upd_same
      clear hh nl48
      replace el := sl48 _ _ el
      refine ⟨l27, l48, _, _, rfl, rfl, el, el48, by decide, fun l50 nl50 => ?_⟩
      generalize hh : upd M49 l50 _ = M51
      have sl50 : Same M49 M51 := by rw [← hh]; exact same_upd nl50
      clear el
      have el : M51 l50 = some (.lst [V.bl (termB ownBW (dpn 5)), V.bl (termB ownBW (dpn 6)), V.bl (termB [] (.tup (.str "seq" :: List.replicate 39 (.tup [.str "seq"])))), V.bl (termB [] (.tup (.str "seq" :: List.replicate 40 (.tup [.str "seq"])))), V.bl (termB ownBW (.tup [.str "wrap", .tup [.str "own", .str "w"], .tup [.str "run", .str "b"]])), V.bl (termB ownBW (.tup [.str "wrap", .tup [.str "own", .str "b"], .tup [.str "run", .str "b"]])), V.bl (termB ownBW (.tup [.str "run", .str "w"])), V.bl (termB ownBW (.tup [.str "own", .str "w"])), V.bl (termB ownBW (.tup [.str "call", .str "p", .tup [.str "own", .str "w"]])), V.bl (termB [] (.tup [.str "do", .str "go", .tup [.int 3]])), V.bl (termB [] (.tup [.str "do", .str "go", .tup []]))]) := by rw [← hh]; exact upd_same
      clear hh nl50 el48
      clear sl48 sl50
      rw [t_1, t_2, t_3, t_4, t_5, t_6, t_7, t_8, t_9, t_10, t_11] at el
      refine ⟨_, rfl, by show 11 ≤ sizeLine; decide, fun pe ne => ?_⟩
      have sE := same_upd (o := .lst [V.bl true, V.bl false, V.bl true, V.bl false, V.bl true, V.bl false, V.bl false, V.bl false, V.bl true, V.bl false, V.bl false]) ne
      refine ⟨.list [.bool true, .bool false, .bool true, .bool false, .bool true, .bool false, .bool false, .bool false, .bool true, .bool false, .bool false], .list [.bool true, .bool false, .bool true, .bool false, .bool true, .bool false, .bool false, .bool false, .bool true, .bool false, .bool false], .lst (.inl (.inl (sE _ _ el))) dpB11, .lst (.inl (.inl upd_same)) dpB11, by decide +kernel, by decide +kernel, ?_⟩
      exact q _
end
end FS

set_option Elab.async false
set_option linter.all false
set_option maxRecDepth 100000
set_option maxHeartbeats 4000000
namespace FS
open PySem PySem.Spec PyProof.Rows L2
section
variable {P : Program} {w : World} {K : PySem.W.Frag} {mg : Str → Option Value} {base : Heap}
abbrev N_law_shuffle : List Str := ["_law_die", "_law_items", "_law_pool", "_law_turn"]
theorem sc_law_shuffle : FnScope N_law_shuffle ["_law_die", "_law_items"] (defScope s_law_shuffle) := ⟨rfl, rfl, rfl, by decide +kernel, rfl, by decide +kernel, by decide +kernel⟩
theorem ok_l_shuffle {f : Addr} {fd : FuncData} (F : Fun K "_law_shuffle" "_law_shuffle" s_law_shuffle f fd) (T : Nm K mg) (Cl_cast : Cal P w K mg base 1 "_law_cast" ["_law_die", "_law_total"] spCast) : FnOk P w K mg base CX0 2 f fd ["_law_die", "_law_items"] (spShuffle K) := by
  have nd := sc_law_shuffle.nd
  refine F.ok sc_law_shuffle (fun vs H Q E h => ?_) (fun cdv A outer s H vs Q E hr h => ?_)
  · obtain ⟨a, b, ys, rfl, d, sq, nb, few, q⟩ := h
    rfl
  · obtain ⟨a, b, ys, rfl, d, sq, nb, few, q⟩ := h
    skip
    refine ⟨_, (pss_cons (ps_set (i := 2) nd rfl (Or.inr rfl) (pe_callTy call_list_of (by rfl) T.b_list (by decide +kernel) (pa_cons (pv 1) pa_nil)))
  (pss_one (ps_ret (pe_lc (own := [("_law_turn", 3)]) (g := gName 3) (tt := tYes) rfl nd (pi_range1 rfl T.b_range (pa_cons (pe_callB call_len (by rfl) T.b_len PySem.boot_len (pa_cons (pv 1) pa_nil)) pa_nil)) (blkOk_by (own := [("_law_turn", 3)]) (N := N_law_shuffle) (sc := defScope s_law_shuffle) (by decide +kernel)) (fun _ _ _ _ _ => (pg_name (i := 3) nd rfl (Or.inl rfl))) (fun _ _ _ _ _ => pts_nil) (fun _ _ _ _ _ => (pe_bmK (K := K) rfl PySem.F.plainAttrs_list PySem.F.slot_list_pop PySem.F.type_list_pop mt_popAt (pv 2) (pa_cons (pe_own Cl_cast (hr.mono (by decide)) (by rfl) (pa_cons (pv 0) (pa_cons (pe_callB (call_lenK (K := K) rfl) (by rfl) T.b_len PySem.boot_len (pa_cons (pv 2) pa_nil)) pa_nil))) pa_nil))))))), ?_⟩

    refine ⟨_, rfl, b, _, rfl, .inl sq, fun p np => ?_⟩
    have npD := d.ne np
    have g1 : Go a H (upd H p (.lst (ys.map V.str))) := .new d np
    have e1 : upd H p (.lst (ys.map V.str)) p = some (.lst (ys.map V.str)) := upd_same
    generalize upd H p (.lst (ys.map V.str)) = H1 at g1 e1 ⊢
    refine ⟨_, rfl, _, _, rfl, .inl ⟨_, g1.seq nb sq, rfl⟩, _, rfl, by rw [List.length_map]; omega, by rw [List.length_map]; omega, fun L nL => ?_⟩
    have nLD := g1.2.ne nL
    have nLp : p ≠ L := ne_of_none e1 nL
    have nL0 : H L = none := by
      cases e : H L with
      | none => rfl
      | some o =>
        rw [g1.1 _ _ nLD e] at nL
        cases nL
    refine lc_range (lo := 0) (n := (ys.map V.str).length) (fun i H' => Go a H H' ∧ ∃ zs us : List Str, zs.length = i ∧ (zs ++ us).Perm ys ∧ H' p = some (.lst (us.map V.str)) ∧ H' L = some (.lst (zs.map V.str))) ⟨(g1.upd nL0 nLD), [], ys, rfl, .refl _, by rw [upd_ne nLp]; exact e1, upd_same⟩ (fun i H2 hi hp => ?_) (fun H2 hp => ?_)
    · obtain ⟨g2, zs, us, lz, pm, ep, eL⟩ := hp
      rw [List.length_map] at hi
      have lu := pm.length_eq
      rw [List.length_append] at lu
      refine ⟨rfl, _, rfl, .inl ⟨rfl, _, .inl (.inl ep)⟩, ?_⟩
      refine ⟨_, rfl, _, rfl, _, _, rfl, .inl ⟨_, .inl (.inl ep), rfl⟩, a, _, rfl, g2.2, by rw [List.length_map]; omega, by rw [List.length_map]; omega, fun r H3 r0 r1 g3 f3 => ?_⟩
      rw [List.length_map] at r1
      obtain ⟨k, rfl⟩ : ∃ k : Nat, r = (k : Int) := ⟨r.toNat, by omega⟩
      have hk : k < us.length := by omega
      have ep3 := g3.1 _ _ npD ep
      have eL3 := g3.1 _ _ nLD eL
      refine ⟨p, us.map V.str, _, k, .str us[k], rfl, rfl, ep3, by omega, by omega, ?_, by rw [List.getElem?_map, List.getElem?_eq_getElem hk]; rfl, ?_⟩
      · rw [List.length_map]
        exact seq_at hk
      · have e4 : upd H3 p (.lst ((us.map V.str).eraseIdx k)) L = some (.lst (zs.map V.str)) := by
          rw [upd_ne (fun z => nLp z.symm)]
          exact eL3
        refine ⟨_, e4, ?_, ?_, zs ++ [us[k]], us.eraseIdx k, ?_, ?_, ?_, ?_⟩
        · rw [List.length_map]
          exact small1000 (by omega)
        · exact ((g2.trans g3).upd np npD).upd nL0 nLD
        · rw [List.length_append, lz]
          rfl
        · refine List.Perm.trans ?_ pm
          rw [List.append_assoc]
          exact List.Perm.append_left zs (erase_perm hk)
        · rw [upd_ne nLp, upd_same, erase_map]
        · rw [upd_same, List.map_append]
          rfl
    · obtain ⟨g2, zs, us, lz, pm, ep, eL⟩ := hp
      rw [List.length_map] at lz
      have lu := pm.length_eq
      rw [List.length_append] at lu
      have u0 : us = [] := List.eq_nil_of_length_eq_zero (by omega)
      subst u0
      rw [List.append_nil] at pm
      exact q zs H2 L pm g2 nL0 nLD eL
end
end FS

set_option Elab.async false
set_option linter.all false
set_option maxRecDepth 100000
set_option maxHeartbeats 4000000
namespace FS
open PySem PySem.Spec PyProof.Rows L2
section
variable {P : Program} {w : World} {K : PySem.W.Frag} {mg : Str → Option Value} {base : Heap}
abbrev N_law_own_names : List Str := ["_law_own", "_law_kind", "_law_name", "_law_other"]
theorem sc_law_own_names : FnScope N_law_own_names ["_law_own", "_law_kind"] (defScope s_law_own_names) := ⟨rfl, rfl, rfl, by decide +kernel, rfl, by decide +kernel, by decide +kernel⟩
theorem ok_l_own_names {f : Addr} {fd : FuncData} (F : Fun K "_law_own_names" "_law_own_names" s_law_own_names f fd) (T : Nm K mg) : FnOk P w K mg base CX0 1 f fd ["_law_own", "_law_kind"] (spOwn K) := by
  have nd := sc_law_own_names.nd
  refine F.ok sc_law_own_names (fun vs H Q E h => ?_) (fun cdv A outer s H vs Q E hr h => ?_)
  · obtain ⟨v, own, k, rfl, dp, few, q⟩ := h
    rfl
  · obtain ⟨v, own, k, rfl, dp, few, q⟩ := h
    skip
    refine ⟨_, (pss_one (ps_ret (pe_lc (own := [("_law_name", 2), ("_law_other", 3)]) (g := gTup K 2 (gCons (gName 2) (gCons (gName 3) gNil))) rfl nd (pi_tup (pv 0)) (blkOk_by (own := [("_law_name", 2), ("_law_other", 3)]) (N := N_law_own_names) (sc := defScope s_law_own_names) (by decide +kernel)) (fun _ _ _ _ _ => (pg_tup rfl (pgs_cons (pg_name (i := 2) nd rfl (Or.inl rfl)) (pgs_cons (pg_name (i := 3) nd rfl (Or.inl rfl)) pgs_nil)))) (fun _ _ _ _ _ => pts_one (pt_cmpR op_eq (pv 3) (pv 1) (nomark _))) (fun _ _ _ _ _ => (pv 2))))), ?_⟩

    obtain ⟨aw, ps, rfl, sqp, rp⟩ := Dp.tup_inv (show Dp K H v (.tuple (own.map parD)) from dp)
    have lp : ps.length = own.length := by rw [DpAll.len rp, List.length_map]
    refine ⟨_, rfl, aw, rfl, ⟨ps, sqp⟩, fun D nD => ?_⟩
    refine lc_tup (xs := ps) (fun i H' => Same H H' ∧ H' D = some (.lst ((namesOf (own.take i) k).map V.str))) ⟨same_upd nD, upd_same⟩ (fun i H' hi h => Same.sqT h.1 sqp) (fun i x H8 hx h => ?_) (fun H8 h => ?_)
    · obtain ⟨sm, eD⟩ := h
      obtain ⟨d, hd, dx'⟩ := DpAll.get (DpAll.stay (.of sm) (pars_noL own) rp) hx
      rw [List.getElem?_map] at hd
      obtain ⟨z, hz, rfl⟩ := Option.map_eq_some_iff.mp hd
      have li := (List.getElem?_eq_some_iff.mp hx).1
      obtain ⟨b, ys, rfl, sb, rb⟩ := Dp.tup_inv (show Dp K H8 x (.tuple [.str z.1, .str (kd z.2)]) from dx')
      cases rb with
      | cons y1 rb => cases rb with
        | cons y2 rb =>
        cases rb
        cases Dp.str_inv y1
        cases Dp.str_inv y2
        have em : namesOf (own.take (i + 1)) k = namesOf (own.take i) k ++ (if z.2 == k then [z.1] else []) := by
          unfold namesOf
          rw [take_more hz, List.filter_append, List.map_append, List.filter_cons]
          cases z.2 == k <;> rfl
        refine ⟨b, _, rfl, sb, rfl, _, _, rfl, _, _, rfl, rfl, ?_⟩
        refine ⟨rfl, _, rfl, _, rfl, rfl, _, rfl, ?_⟩
        have ek : decide (V.str (kd z.2) = V.str (kd k)) = (z.2 == k) := by
          cases z.2 <;> cases k <;> decide +kernel
        rw [ek]
        cases e : (z.2 == k) with
        | true =>
          rw [e] at em
          refine iteT ?_
          refine ⟨_, rfl, _, eD, ?_, Same.set sm nD, ?_⟩
          · rw [List.length_map]
            have : (namesOf (own.take i) k).length ≤ 100 := by
              unfold namesOf
              rw [List.length_map]
              refine Nat.le_trans (List.length_filter_le _ _) ?_
              rw [List.length_take]
              omega
            exact small1000 (by omega)
          · rw [upd_same, em, List.map_append]
            rfl
        | false =>
          rw [e] at em
          refine iteF ?_
          refine ⟨sm, ?_⟩
          rw [em]
          rw [show (if false = true then [z.1] else []) = ([] : List Str) from rfl, List.append_nil]
          exact eD
    · obtain ⟨s8, eD⟩ := h
      rw [lp, List.take_length] at eD
      exact q H8 D s8 nD eD
end
end FS

set_option Elab.async false
set_option linter.all false
set_option maxRecDepth 100000
set_option maxHeartbeats 4000000
namespace FS
open PySem PySem.Spec PyProof.Rows L2
section
variable {P : Program} {w : World} {K : PySem.W.Frag} {mg : Str → Option Value} {base : Heap}
abbrev N_law_all_in : List Str := ["_law_piece", "_law_found", "_law_one"]
theorem sc_law_all_in : FnScope N_law_all_in ["_law_piece"] (defScope s_law_all_in) := ⟨rfl, rfl, rfl, by decide +kernel, rfl, by decide +kernel, by decide +kernel⟩
theorem ok_l_all_in {f : Addr} {fd : FuncData} (F : Fun K "_law_all_in" "_law_all_in" s_law_all_in f fd) (T : Nm K mg) {n k : Nat} (Cl_all_in : Cal P w K mg base k "_law_all_in" ["_law_piece"] (spAll K n)) : FnOk P w K mg base CX0 (k + 1) f fd ["_law_piece"] (spAll K (n + 1)) := by
  have nd := sc_law_all_in.nd
  refine F.ok sc_law_all_in (fun vs H Q E h => ?_) (fun cdv A outer s H vs Q E hr h => ?_)
  · obtain ⟨own, v, t, rfl, dp, gd, low, few, q⟩ := h
    rfl
  · obtain ⟨own, v, t, rfl, dp, gd, low, few, q⟩ := h
    skip
    refine ⟨_, (pss_cons (ps_set (i := 1) nd rfl (Or.inl rfl) (pe_lst (pa_cons (pv 0) pa_nil)))
  (pss_cons (ps_if (pt_cmpR op_in_seq (pe_ix ix_tup (pv 0) pe_int (fun _ _ => rfl)) (pe_tup (pa_cons pe_str (pa_cons pe_str (pa_cons pe_str pa_nil)))) (by rfl))
  (pss_one (ps_for PassesOwn.never rfl (pi_tup (pe_slice sl_tupA (pv 0) (po_some pe_int) po_none)) (pg_name (i := 2) nd rfl (Or.inl rfl))
  (pss_one (ps_expr (pe_bm PySem.F.plainAttrs_list PySem.F.slot_list_extend PySem.F.type_list_extend mt_extend (pv 1) (pa_cons (pe_own Cl_all_in (hr.mono (by omega)) (by rfl) (pa_cons (pv 2) pa_nil)) pa_nil))))))
  pss_nil)
  (pss_cons (ps_if (pt_cmpR op_in_seq (pe_ix ix_tup (pv 0) pe_int (fun _ _ => rfl)) (pe_tup (pa_cons pe_str (pa_cons pe_str pa_nil))) (by rfl))
  (pss_one (ps_for PassesOwn.never rfl (pi_tup (pe_slice sl_tupA (pv 0) (po_some pe_int) po_none)) (pg_name (i := 2) nd rfl (Or.inl rfl))
  (pss_one (ps_expr (pe_bm PySem.F.plainAttrs_list PySem.F.slot_list_extend PySem.F.type_list_extend mt_extend (pv 1) (pa_cons (pe_own Cl_all_in (hr.mono (by omega)) (by rfl) (pa_cons (pv 2) pa_nil)) pa_nil))))))
  pss_nil)
  (pss_one (ps_ret (pv 1)))))), ?_⟩

    obtain ⟨h, ks⟩ := t
    obtain ⟨a, rs, kv, rfl, sq, r1, r2⟩ := tm_open dp
    have cnt := count_eq (Tm.mk h ks)
    have cnt2 : (Tm.mk h ks).count = 1 + counts ks := cnt
    refine ⟨_, rfl, by show 1 ≤ sizeLine; decide, fun p np => ?_⟩
    have s1 := same_upd (o := .lst [V.ref a]) np
    have h1 : upd H p (.lst [V.ref a]) p = some (.lst [V.ref a]) := upd_same
    generalize upd H p (.lst [V.ref a]) = H1 at s1 h1 ⊢
    refine ⟨_, rfl, a, _, 0, _, rfl, rfl, Same.sqT s1 sq, at0, by show 3 ≤ sizeLine; decide, fun p1 n1 => ?_⟩
    have s1b := s1.trans (same_upd (o := .tup ([("seq" : Str), "or", "wrap"].map V.str)) n1)
    have h1b := same_upd (o := .tup ([("seq" : Str), "or", "wrap"].map V.str)) n1 _ _ h1
    refine ⟨p1, [("seq" : Str), "or", "wrap"].map V.str, rfl, .inr (.inl (.inl upd_same)), rfl, flat_strs _, _, rfl, ?_⟩
    rw [inV_strs, tag3]
    change Same H (upd H1 p1 (.tup [V.str "seq", V.str "or", V.str "wrap"])) at s1b
    change upd H1 p1 (.tup [V.str "seq", V.str "or", V.str "wrap"]) p = _ at h1b
    generalize upd H1 p1 (.tup [V.str "seq", V.str "or", V.str "wrap"]) = H1b at s1b h1b ⊢
    refine ite2 (fun e3 => ?_) (fun e3 => ?_)
    · cases Hd.rest0 r1 e3
      refine ⟨_, rfl, _, rfl, ?_⟩
      refine ⟨a, _, rfl, Same.sqT s1b sq, fun z => absurd z.1 (cut_ne (k := 1) (by decide) (List.cons_ne_nil _ _)), fun _ p2 np2 => ?_⟩
      generalize hh : upd H1b p2 _ = H2
      have s2' : Same H1b H2 := by
        rw [← hh]
        exact same_upd np2
      have sq2 : SqT K H2 p2 kv := by
        rw [← hh]
        refine .inl (.inl ?_)
        rw [upd_same]
        show some (HO.tup (cutV (V.str h.tag :: ([] ++ kv)) (some ((1 : Nat) : Int)) none)) = some (HO.tup kv)
        rw [cut_from]
        rfl
      clear hh
      have s2 := s1b.trans s2'
      have hp2 := s2' _ _ h1b
      have rk2 := DpAll.stay (.of s2) (noL_datas ks) r2
      refine ⟨p2, rfl, ⟨kv, sq2⟩, for_tup (xs := kv) (fun i σ H' => (∃ y, σ = [some (.ref a), some (.ref p), y]) ∧ Same H H' ∧ Stay H2 H' ∧ ∃ xs, H' p = some (.lst xs) ∧ DpAll K H' xs (datas (Tm.mk h ks :: alls (ks.take i)))) ?_ ?_ ?_ ?_⟩
      · exact ⟨⟨_, rfl⟩, s2, .refl _, [.ref a], hp2, .cons (Dp.stay (.of s2) (Tm.noL _) dp) .nil⟩
      · rintro i σ H' hi ⟨_, _, st, _⟩
        exact st.sqT sq2
      · rintro i x σ H' hx ⟨⟨y, rfl⟩, sm, st, xs, hp, rx⟩
        obtain ⟨u, hu, du⟩ := DpAll.kid rk2 hx
        have mu : u ∈ (Tm.mk h ks).kids := List.mem_of_getElem? hu
        have du2 : Dp K H' x u.data := Dp.stay st u.noL du
        have c1 := counts_take ks (i + 1)
        rw [take_more hu, counts_app] at c1
        have c2 : counts [u] = u.count := by
          rw [counts_cons]
          rfl
        refine ⟨_, rfl, .inl ⟨rfl, xs, .inl (.inl hp)⟩, _, rfl, own, x, u, rfl, du2, gd.kid mu, by have := deep_kid mu; omega, by omega, fun H3 b zs s3 nb hb rz => ?_⟩
        refine ⟨p, b, xs, zs, rfl, rfl, s3 _ _ hp, hb, ?_, ?_⟩
        · rw [DpAll.len rx, DpAll.len rz, datas_len, datas_len]
          have e1 : (Tm.mk h ks :: alls (ks.take i)).length = counts (ks.take i) + 1 := rfl
          have e2 : u.all.length = u.count := rfl
          rw [e1, e2, sizeLine_eq]
          omega
        · have ss := Stay.set (ys := xs ++ zs) (s3 _ _ hp)
          refine ⟨⟨_, rfl⟩, Same.set (sm.trans s3) np, (st.trans (.of s3)).trans ss, xs ++ zs, upd_same, ?_⟩
          rw [take_more hu, alls_app, alls_one, ← List.cons_append, datas_app]
          exact DpAll.app (DpAll.stay ((Stay.of s3).trans ss) (noL_datas _) rx) (DpAll.stay ss (noL_datas _) rz)
      · rintro σ H' ⟨⟨y, rfl⟩, sm, st, xs, hp, rx⟩
        have l : kv.length = ks.length := by rw [DpAll.len rk2, datas_len]
        rw [l, List.take_length] at rx
        -- the second look
        refine ⟨_, rfl, a, _, 0, _, rfl, rfl, Same.sqT sm sq, at0, by show 2 ≤ sizeLine; decide, fun p3 n3 => ?_⟩
        have s3 := same_upd (o := .tup ([("call" : Str), "with"].map V.str)) n3
        refine ⟨p3, [("call" : Str), "with"].map V.str, rfl, .inr (.inl (.inl upd_same)), rfl, flat_strs _, _, rfl, ?_⟩
        rw [inV_strs, tag2]
        have e2 : h.is2 = false := by cases h <;> first | rfl | cases e3
        rw [e2]
        refine iteF ?_
        exact ⟨_, rfl, q _ p xs (sm.trans s3) np (s3 _ _ hp) (DpAll.stay (.of s3) (noL_datas _) rx)⟩
    · refine ⟨_, rfl, a, _, 0, _, rfl, rfl, Same.sqT s1b sq, at0, by show 2 ≤ sizeLine; decide, fun p3 n3 => ?_⟩
      have s1c := s1b.trans (same_upd (o := .tup ([("call" : Str), "with"].map V.str)) n3)
      have h1c := same_upd (o := .tup ([("call" : Str), "with"].map V.str)) n3 _ _ h1b
      refine ⟨p3, [("call" : Str), "with"].map V.str, rfl, .inr (.inl (.inl upd_same)), rfl, flat_strs _, _, rfl, ?_⟩
      rw [inV_strs, tag2]
      change Same H (upd H1b p3 (.tup [V.str "call", V.str "with"])) at s1c
      change upd H1b p3 (.tup [V.str "call", V.str "with"]) p = _ at h1c
      generalize upd H1b p3 (.tup [V.str "call", V.str "with"]) = H1c at s1c h1c ⊢
      refine ite2 (fun e2 => ?_) (fun e2 => ?_)
      · obtain ⟨x, rfl⟩ := Hd.rest1 r1 e2
        refine ⟨_, rfl, _, rfl, ?_⟩
        refine ⟨a, _, rfl, Same.sqT s1c sq, fun z => absurd z.1 (cut_ne (k := 2) (by decide) (List.cons_ne_nil _ _)), fun _ p2 np2 => ?_⟩
        generalize hh : upd H1c p2 _ = H2
        have s2' : Same H1c H2 := by
          rw [← hh]
          exact same_upd np2
        have sq2 : SqT K H2 p2 kv := by
          rw [← hh]
          refine .inl (.inl ?_)
          rw [upd_same]
          show some (HO.tup (cutV (V.str h.tag :: ([V.str x] ++ kv)) (some ((2 : Nat) : Int)) none)) = some (HO.tup kv)
          rw [cut_from]
          rfl
        clear hh
        have s2 := s1c.trans s2'
        have hp2 := s2' _ _ h1c
        have rk2 := DpAll.stay (.of s2) (noL_datas ks) r2
        refine ⟨p2, rfl, ⟨kv, sq2⟩, for_tup (xs := kv) (fun i σ H' => (∃ y, σ = [some (.ref a), some (.ref p), y]) ∧ Same H H' ∧ Stay H2 H' ∧ ∃ xs, H' p = some (.lst xs) ∧ DpAll K H' xs (datas (Tm.mk h ks :: alls (ks.take i)))) ?_ ?_ ?_ ?_⟩
        · exact ⟨⟨_, rfl⟩, s2, .refl _, [.ref a], hp2, .cons (Dp.stay (.of s2) (Tm.noL _) dp) .nil⟩
        · rintro i σ H' hi ⟨_, _, st, _⟩
          exact st.sqT sq2
        · rintro i x σ H' hx ⟨⟨y, rfl⟩, sm, st, xs, hp, rx⟩
          obtain ⟨u, hu, du⟩ := DpAll.kid rk2 hx
          have mu : u ∈ (Tm.mk h ks).kids := List.mem_of_getElem? hu
          have du2 : Dp K H' x u.data := Dp.stay st u.noL du
          have c1 := counts_take ks (i + 1)
          rw [take_more hu, counts_app] at c1
          have c2 : counts [u] = u.count := by
            rw [counts_cons]
            rfl
          refine ⟨_, rfl, .inl ⟨rfl, xs, .inl (.inl hp)⟩, _, rfl, own, x, u, rfl, du2, gd.kid mu, by have := deep_kid mu; omega, by omega, fun H3 b zs s3 nb hb rz => ?_⟩
          refine ⟨p, b, xs, zs, rfl, rfl, s3 _ _ hp, hb, ?_, ?_⟩
          · rw [DpAll.len rx, DpAll.len rz, datas_len, datas_len]
            have e1 : (Tm.mk h ks :: alls (ks.take i)).length = counts (ks.take i) + 1 := rfl
            have e2 : u.all.length = u.count := rfl
            rw [e1, e2, sizeLine_eq]
            omega
          · have ss := Stay.set (ys := xs ++ zs) (s3 _ _ hp)
            refine ⟨⟨_, rfl⟩, Same.set (sm.trans s3) np, (st.trans (.of s3)).trans ss, xs ++ zs, upd_same, ?_⟩
            rw [take_more hu, alls_app, alls_one, ← List.cons_append, datas_app]
            exact DpAll.app (DpAll.stay ((Stay.of s3).trans ss) (noL_datas _) rx) (DpAll.stay ss (noL_datas _) rz)
        · rintro σ H' ⟨⟨y, rfl⟩, sm, st, xs, hp, rx⟩
          have l : kv.length = ks.length := by rw [DpAll.len rk2, datas_len]
          rw [l, List.take_length] at rx
          exact ⟨_, rfl, q _ p xs sm np hp rx⟩
      · have e0 : ks = [] := gd.kids0 e3 e2
        subst e0
        exact ⟨_, rfl, q _ p [.ref a] s1c np h1c (.cons (Dp.stay (.of s1c) (Tm.noL _) dp) .nil)⟩
end
end FS

set_option Elab.async false
set_option linter.all false
set_option maxRecDepth 100000
set_option maxHeartbeats 4000000
namespace FS
open PySem PySem.Spec PyProof.Rows L2
section
variable {P : Program} {w : World} {K : PySem.W.Frag} {mg : Str → Option Value} {base : Heap}
abbrev N_law_any_deed : List Str := ["_law_die", "_law_modes", "_law_table", "_law_mode"]
theorem sc_law_any_deed : FnScope N_law_any_deed ["_law_die", "_law_modes"] (defScope s_law_any_deed) := ⟨rfl, rfl, rfl, by decide +kernel, rfl, by decide +kernel, by decide +kernel⟩
theorem ok_l_any_deed {f : Addr} {fd : FuncData} (F : Fun K "_law_any_deed" "_law_any_deed" s_law_any_deed f fd) (T : Nm K mg) (Cl_pick : Cal P w K mg base 2 "_law_pick" ["_law_die", "_law_items"] (spPick K)) : FnOk P w K mg base CX0 3 f fd ["_law_die", "_law_modes"] (spDeed K) := by
  have nd := sc_law_any_deed.nd
  refine F.ok sc_law_any_deed (fun vs H Q E h => ?_) (fun cdv A outer s H vs Q E hr h => ?_)
  · obtain ⟨D, m, rfl, d, m1, m3, q⟩ := h
    rfl
  · obtain ⟨D, m, rfl, d, m1, m3, q⟩ := h
    skip
    refine ⟨_, (pss_cons (ps_setLc (i := 2) (own := [("_law_mode", 3)]) (g := gName 3) (tt := tYes) rfl nd rfl rfl (sw_true rfl rfl rfl (by decide +kernel)) (pi_range1 rfl T.b_range (pa_cons (pv 1) pa_nil)) (blkOk_by (own := [("_law_mode", 3)]) (N := N_law_any_deed) (sc := defScope s_law_any_deed) (by decide +kernel)) (fun _ _ _ _ _ => (pg_name (i := 3) nd rfl (Or.inl rfl))) (fun _ _ _ _ _ => pts_nil) (fun _ _ _ _ _ => (pe_own Cl_pick (hr.mono (by decide)) (by rfl) (pa_cons (pv 0) (pa_cons (pe_op op_cat (pe_lst (pa_cons pe_non pa_nil)) (pe_op op_rep (pe_listRg rfl (by rfl) T.b_list (prg_1 (by rfl) T.b_range (pv 1))) pe_int)) pa_nil)))))
  (pss_one (ps_ret (pe_tup (pa_cons pe_str (pa_cons (pe_own Cl_pick (hr.mono (by decide)) (by rfl) (pa_cons (pv 0) (pa_cons (pe_lst (pa_cons pe_str (pa_cons pe_str (pa_cons pe_str (pa_cons pe_str pa_nil))))) pa_nil))) (pa_cons (pe_callTy call_tuple_of (by rfl) T.b_tuple (by decide +kernel) (pa_cons (pv 2) pa_nil)) pa_nil))))))), ?_⟩

    obtain ⟨k, rfl⟩ : ∃ k : Nat, m = (k : Int) := ⟨m.toNat, by omega⟩
    refine ⟨_, rfl, _, rfl, by omega, by omega, fun L nL => ?_⟩
    have nLD := d.ne nL
    refine lc_range (lo := 0) (n := (k : Int).toNat) (fun i H' => Go D H H' ∧ ∃ es : List (Option Nat), es.length = i ∧ (∀ e ∈ es, entK k e = true) ∧ H' L = some (.lst (es.map entryV))) ⟨(Go.refl d).upd nL nLD, [], rfl, (fun _ h => nomatch h), upd_same⟩ (fun i H1 hi hp => ?_) (fun H1 hp => ?_)
    · obtain ⟨g1, es, le, oe, eL⟩ := hp
      have hi3 : i < 3 := by omega
      refine ⟨rfl, _, rfl, by show 1 ≤ sizeLine; decide, fun p1 n1 => ?_⟩
      have g2 := g1.same (same_upd (o := .lst [V.non]) n1)
      have e1 : upd H1 p1 (.lst [V.non]) p1 = some (.lst [V.non]) := upd_same
      have eL1 := same_upd (o := .lst [V.non]) n1 _ _ eL
      generalize upd H1 p1 (.lst [V.non]) = H2 at g2 e1 eL1 ⊢
      refine ⟨_, rfl, _, rfl, .of_le (by omega) (by omega) (by omega) (by omega), fun p2 n2 => ?_⟩
      have g3 := g2.same (same_upd (o := .lst (rgV 0 (k : Int))) n2)
      have e2 := same_upd (o := .lst (rgV 0 (k : Int))) n2 _ _ e1
      have f2 : upd H2 p2 (.lst (rgV 0 (k : Int))) p2 = some (.lst (rgV 0 (k : Int))) := upd_same
      have eL2 := same_upd (o := .lst (rgV 0 (k : Int))) n2 _ _ eL1
      generalize upd H2 p2 (.lst (rgV 0 (k : Int))) = H3 at g3 e2 f2 eL2 ⊢
      have lr : (rgV 0 (k : Int)).length = k := by rw [rgV_length]; omega
      refine ⟨p2, 2, _, rfl, rfl, f2, by omega, by omega, by rw [lr, sizeLine_eq, show (2 : Int).toNat = 2 from rfl]; omega, fun p3 n3 => ?_⟩
      have mem : ∀ v ∈ (List.replicate (2 : Int).toNat (rgV 0 (k : Int))).flatten, ∃ j : Nat, j < k ∧ v = .int (j : Int) := fun v hv => by
        obtain ⟨l, hl, hv⟩ := List.mem_flatten.mp hv
        rw [List.eq_of_mem_replicate hl] at hv
        obtain ⟨j, hj, rfl⟩ := List.mem_map.mp hv
        have := List.mem_range.mp hj
        exact ⟨j, by omega, by rw [Int.zero_add]⟩
      have lf : (List.replicate (2 : Int).toNat (rgV 0 (k : Int))).flatten.length = 2 * k := by
        rw [List.length_flatten, List.map_replicate, lr, show (2 : Int).toNat = 2 from rfl]
        simp [List.replicate]
        omega
      generalize (List.replicate (2 : Int).toNat (rgV 0 (k : Int))).flatten = fl at mem lf ⊢
      have g4 := g3.same (same_upd (o := .lst fl) n3)
      have e3 := same_upd (o := .lst fl) n3 _ _ e2
      have f3 : upd H3 p3 (.lst fl) p3 = some (.lst fl) := upd_same
      have eL3 := same_upd (o := .lst fl) n3 _ _ eL2
      generalize upd H3 p3 (.lst fl) = H4 at g4 e3 f3 eL3 ⊢
      refine ⟨p1, p3, _, _, rfl, rfl, e3, f3, by rw [lf, sizeLine_eq]; show 1 + 2 * k ≤ _; omega, fun p4 n4 => ?_⟩
      have g5 := g4.same (same_upd (o := .lst ([V.non] ++ fl)) n4)
      have f4 : upd H4 p4 (.lst ([V.non] ++ fl)) p4 = some (.lst ([V.non] ++ fl)) := upd_same
      have eL4 := same_upd (o := .lst ([V.non] ++ fl)) n4 _ _ eL3
      have np4 := g4.2.ne n4
      generalize upd H4 p4 (.lst ([V.non] ++ fl)) = H5 at g5 f4 eL4 ⊢
      refine ⟨D, p4, _, g5.2, rfl, .inl (.inl f4), np4, (fun z => nomatch z), by show (fl.length + 1) < 1000; omega, fun v H6 hv g6 f6 => ?_⟩
      have ev : ∃ e : Option Nat, entK k e = true ∧ v = entryV e := by
        rcases List.mem_cons.mp hv with rfl | hv
        · exact ⟨none, rfl, rfl⟩
        · obtain ⟨j, hj, rfl⟩ := mem v hv
          exact ⟨some j, decide_eq_true hj, rfl⟩
      obtain ⟨e, oe2, rfl⟩ := ev
      refine ⟨_, g6.1 _ _ nLD eL4, by rw [List.length_map]; exact small1000 (by omega), (g5.trans g6).upd nL nLD, es ++ [e], ?_, ?_, ?_⟩
      · rw [List.length_append, le]
        rfl
      · intro z hz
        rcases List.mem_append.mp hz with h | h
        · exact oe z h
        · rw [List.mem_singleton.mp h]
          exact oe2
      · rw [upd_same, List.map_append]
        rfl
    · obtain ⟨g1, es, le, oe, eL⟩ := hp
      refine ⟨_, rfl, by show 4 ≤ sizeLine; decide, fun p1 n1 => ?_⟩
      have g2 := g1.same (same_upd (o := .lst [V.str "go", V.str "work", V.str "flip", V.str "go"]) n1)
      have e1 : upd H1 p1 (.lst [V.str "go", V.str "work", V.str "flip", V.str "go"]) p1 = some (.lst [V.str "go", V.str "work", V.str "flip", V.str "go"]) := upd_same
      have eL1 := same_upd (o := .lst [V.str "go", V.str "work", V.str "flip", V.str "go"]) n1 _ _ eL
      have np1 := g1.2.ne n1
      generalize upd H1 p1 (.lst [V.str "go", V.str "work", V.str "flip", V.str "go"]) = H2 at g2 e1 eL1 ⊢
      refine ⟨D, p1, _, g2.2, rfl, .inl (.inl e1), np1, (fun z => nomatch z), by show 4 < 1000; decide, fun v H3 hv g3 f3 => ?_⟩
      have ev : ∃ z : Str, wordB z = true ∧ v = .str z := by
        simp only [List.mem_cons, List.not_mem_nil, or_false] at hv
        rcases hv with rfl | rfl | rfl | rfl
        · exact ⟨_, (by decide +kernel : wordB "go" = true), rfl⟩
        · exact ⟨_, (by decide +kernel : wordB "work" = true), rfl⟩
        · exact ⟨_, (by decide +kernel : wordB "flip" = true), rfl⟩
        · exact ⟨_, (by decide +kernel : wordB "go" = true), rfl⟩
      obtain ⟨z, wz, rfl⟩ := ev
      have eL3 := g3.1 _ _ nLD eL1
      have g4 := g2.trans g3
      refine ⟨_, rfl, L, _, rfl, .inl ⟨.inl (.inl eL3), fun p5 n5 => ?_⟩⟩
      have g5 := g4.same (same_upd (o := .tup (es.map entryV)) n5)
      have f5 : upd H3 p5 (.tup (es.map entryV)) p5 = some (.tup (es.map entryV)) := upd_same
      generalize upd H3 p5 (.tup (es.map entryV)) = H6 at g5 f5 ⊢
      refine ⟨by show 3 ≤ sizeLine; decide, fun p6 n6 => ?_⟩
      have s7 := same_upd (o := .tup [V.str "do", V.str z, V.ref p5]) n6
      have g7 := g5.same s7
      have f7 : upd H6 p6 (.tup [V.str "do", V.str z, V.ref p5]) p6 = some (.tup [V.str "do", V.str z, V.ref p5]) := upd_same
      have f5b := s7 _ _ f5
      generalize upd H6 p6 (.tup [V.str "do", V.str z, V.ref p5]) = H7 at g7 f7 f5b ⊢
      have de : ∀ es : List (Option Nat), DpAll K H7 (es.map entryV) (es.map entryD) := fun es => by
        induction es with
        | nil => exact .nil
        | cons e r ih =>
          cases e with
          | none => exact .cons .non ih
          | some j => exact .cons (.int _) ih
      refine q _ H7 (.mk (.deed z es) []) g7 fun tb own => ⟨.tup (.inl (.inl f7)) (.cons (.str _) (.cons (.str _) (.cons (.tup (.inl (.inl f5b)) (de es)) .nil))), ?_, rfl, Nat.le_refl _, Nat.le_refl _⟩
      refine .mk ?_ rfl (fun t h => nomatch h) (deed_fit (by omega) oe)
      show (wordB z && decide (1 ≤ es.length ∧ es.length ≤ 3) && es.all entB && decide (([] : List Tm).length = 0)) = true
      rw [wz, decide_eq_true (by omega : 1 ≤ es.length ∧ es.length ≤ 3), List.all_eq_true.mpr fun e he => entK_B (by omega) (oe e he)]
      rfl
end
end FS

set_option Elab.async false
set_option linter.all false
set_option maxRecDepth 100000
set_option maxHeartbeats 4000000
namespace FS
open PySem PySem.Spec PyProof.Rows L2
section
variable {P : Program} {w : World} {K : PySem.W.Frag} {mg : Str → Option Value} {base : Heap}
abbrev N_law_any_given : List Str := ["_law_die", "_law_modes", "_law_table", "_law_own", "_law_kinds", "_law_deep", "_law_found", "_law_kind", "_law_one"]
theorem sc_law_any_given : FnScope N_law_any_given ["_law_die", "_law_modes", "_law_table", "_law_own", "_law_kinds", "_law_deep"] (defScope s_law_any_given) := ⟨rfl, rfl, rfl, by decide +kernel, rfl, by decide +kernel, by decide +kernel⟩
theorem ok_l_any_given {f : Addr} {fd : FuncData} (F : Fun K "_law_any_given" "_law_any_given" s_law_any_given f fd) (T : Nm K mg) {n k : Nat} (Cl_any_wrap : Cal P w K mg base k "_law_any_wrap" ["_law_die", "_law_modes", "_law_table", "_law_own", "_law_deep"] (spWrap K n)) (Cl_any_term : Cal P w K mg base k "_law_any_term" ["_law_die", "_law_modes", "_law_table", "_law_own", "_law_deep"] (spTermD K n)) : FnOk P w K mg base CX0 (k + 1) f fd ["_law_die", "_law_modes", "_law_table", "_law_own", "_law_kinds", "_law_deep"] (spGiven K n) := by
  have nd := sc_law_any_given.nd
  refine F.ok sc_law_any_given (fun vs H Q E h => ?_) (fun cdv A outer s H vs Q E hr h => ?_)
  · obtain ⟨D, ta, kl, m, tb, ov, own, ks, rfl, ak, n6, hkl, nkD, k3, q0, q⟩ := h
    rfl
  · obtain ⟨D, ta, kl, m, tb, ov, own, ks, rfl, ak, n6, hkl, nkD, k3, q0, q⟩ := h
    skip
    refine ⟨_, (pss_cons (ps_set (i := 6) nd rfl (Or.inl rfl) (pe_lst pa_nil))
  (pss_cons (ps_for PassesOwn.never rfl (pi_list (pv 4)) (pg_name (i := 7) nd rfl (Or.inl rfl))
  (pss_cons (ps_if (pt_cmpR op_lt (pv 5) pe_int (nomark _))
  (pss_one (ps_ret pe_non))
  pss_nil)
  (pss_cons (ps_if (pt_cmpR op_eq (pv 7) pe_str (nomark _))
  (pss_one (ps_set (i := 8) nd rfl (Or.inl rfl) (pe_own Cl_any_wrap (hr.mono (by omega)) (by rfl) (pa_cons (pv 0) (pa_cons (pv 1) (pa_cons (pv 2) (pa_cons (pv 3) (pa_cons (pv 5) pa_nil))))))))
  (pss_one (ps_set (i := 8) nd rfl (Or.inl rfl) (pe_own Cl_any_term (hr.mono (by omega)) (by rfl) (pa_cons (pv 0) (pa_cons (pv 1) (pa_cons (pv 2) (pa_cons (pv 3) (pa_cons (pv 5) pa_nil)))))))))
  (pss_cons (ps_if (pt_cmpR op_isN (pv 8) pe_non (nomark _))
  (pss_one (ps_ret pe_non))
  pss_nil)
  (pss_one (ps_expr (pe_bm PySem.F.plainAttrs_list PySem.F.slot_list_append PySem.F.type_list_append mt_append (pv 6) (pa_cons (pv 8) pa_nil))))))))
  (pss_one (ps_ret (pe_callTy call_tuple_of (by rfl) T.b_tuple (by decide +kernel) (pa_cons (pv 6) pa_nil)))))), ?_⟩

    have nrl : SqL K H kl ((ks.map kd).map V.str) := .inl (.inl hkl)
    refine ⟨Nat.zero_le _, fun p np => ?_⟩
    have npD := ak.die.ne np
    have npk : p ≠ kl := fun z => by
      rw [z, hkl] at np
      cases np
    have g1 : Go D H (upd H p (.lst [])) := .new ak.die np
    have e1 : upd H p (.lst []) p = some (.lst []) := upd_same
    generalize upd H p (.lst []) = H1 at g1 e1 ⊢
    refine ⟨_, rfl, kl, rfl, ⟨_, g1.seq nkD nrl⟩, for_list (xs := (ks.map kd).map V.str) (fun i σ H' => ∃ (y7 y8 : Option V) (vs' : List V) (us : List Tm), σ = [some (.ref D), some (.int m), some (.ref ta), some ov, some (.ref kl), some (.int (n : Int)), some (.ref p), y7, y8] ∧ Go D H H' ∧ H' p = some (.lst vs') ∧ DpAll K H' vs' (datas us) ∧ (∀ u ∈ us, GF m tb own u ∧ u.deep ≤ n ∧ u.count ≤ cb n) ∧ us.map Tm.isW = ks.take i) ?_ ?_ ?_ ?_⟩
    · exact ⟨_, _, [], [], rfl, g1, e1, .nil, (fun _ h => nomatch h), rfl⟩
    · rintro i σ H' hi ⟨_, _, _, _, _, g, _⟩
      exact g.seq nkD nrl
    · rintro i x σ H2 hx ⟨y7, y8, vs', us, rfl, g2, ep, ru, gu, eu⟩
      rw [List.getElem?_map, List.getElem?_map] at hx
      obtain ⟨z, hz, rfl⟩ := Option.map_eq_some_iff.mp hx
      obtain ⟨b, hb, rfl⟩ := Option.map_eq_some_iff.mp hz
      have li := (List.getElem?_eq_some_iff.mp hb).1
      refine ⟨_, rfl, _, _, rfl, rfl, _, rfl, ite2 (fun e => ?_) (fun e => ?_)⟩
      · exact q0 _ g2
      have n1 : 1 ≤ n := by
        have := e
        simp at this
        omega
      have fin : ∀ (v : V) (H3 : Hp) (t : Tm), Go D H2 H3 → Got K H3 m tb own n b v t → ∃ xs y, H3 p = some (.lst xs) ∧ xs.length < sizeLine ∧ y = v ∧ Go D H (upd H3 p (.lst (xs ++ [y]))) ∧ DpAll K (upd H3 p (.lst (xs ++ [y]))) (xs ++ [y]) (datas (us ++ [t])) ∧ (∀ u ∈ us ++ [t], GF m tb own u ∧ u.deep ≤ n ∧ u.count ≤ cb n) ∧ (us ++ [t]).map Tm.isW = ks.take (i + 1) := fun v H3 t g3 gt => by
        have ep3 := g3.1 _ _ npD ep
        have st := Stay.set (ys := vs' ++ [v]) ep3
        have tk3 := g3.tk g2.2
        refine ⟨vs', v, ep3, ?_, rfl, (g2.trans g3).upd np npD, ?_, ?_, ?_⟩
        · have l1 : vs'.length = us.length := by rw [DpAll.len ru, datas_len]
          have l2 : us.length = (ks.take i).length := by rw [← eu, List.length_map]
          rw [List.length_take] at l2
          exact small1000 (by omega)
        · rw [datas_app]
          exact DpAll.app (DpAll.tk (tk3.trans (.stay st)) (noL_datas _) ru) (.cons (Dp.tk (.stay st) t.noL gt.dp) .nil)
        · intro u hu
          rcases List.mem_append.mp hu with h | h
          · exact gu u h
          · rw [List.mem_singleton.mp h]
            exact ⟨gt.good, gt.deep, gt.few⟩
        · rw [List.map_append, eu, take_more hb]
          show _ ++ [t.isW] = _
          rw [gt.kind]
      have ak2 := ak.go g2
      refine ⟨_, rfl, rfl, _, rfl, ?_⟩
      cases b with
      | true =>
        refine iteT ?_
        refine ⟨_, rfl, _, rfl, _, rfl, _, rfl, _, rfl, D, ta, m, tb, ov, own, rfl, ak2, n1, n6, fun H3 g3 => ?_, fun v H3 t g3 gt => ?_⟩
        · exact ⟨_, rfl, rfl, _, rfl, iteT (q0 _ (g2.trans g3))⟩
        · refine ⟨_, rfl, rfl, _, rfl, ?_⟩
          have nv : decide (v = V.non) = false := decide_eq_false (got_ne gt)
          rw [nv]
          refine iteF ?_
          obtain ⟨xs, y, h1, h2, rfl, h3, h4, h5, h6⟩ := fin v H3 t g3 gt
          exact ⟨_, rfl, .inl ⟨rfl, _, .inl (.inl h1)⟩, _, rfl, p, xs, y, rfl, rfl, h1, h2, _, _, _, _, rfl, h3, upd_same, h4, h5, h6⟩
      | false =>
        refine iteF ?_
        refine ⟨_, rfl, _, rfl, _, rfl, _, rfl, _, rfl, D, ta, m, tb, ov, own, rfl, ak2, n1, n6, fun v H3 t g3 gt => ?_⟩
        refine ⟨_, rfl, rfl, _, rfl, ?_⟩
        have nv : decide (v = V.non) = false := decide_eq_false (got_ne gt)
        rw [nv]
        refine iteF ?_
        obtain ⟨xs, y, h1, h2, rfl, h3, h4, h5, h6⟩ := fin v H3 t g3 gt
        exact ⟨_, rfl, .inl ⟨rfl, _, .inl (.inl h1)⟩, _, rfl, p, xs, y, rfl, rfl, h1, h2, _, _, _, _, rfl, h3, upd_same, h4, h5, h6⟩
    · rintro σ H2 ⟨y7, y8, vs', us, rfl, g2, ep, ru, gu, eu⟩
      rw [List.length_map, List.length_map, List.take_length] at eu
      refine ⟨_, rfl, p, _, rfl, .inl ⟨.inl (.inl ep), fun p2 n2 => ?_⟩⟩
      have s3 := same_upd (o := .tup vs') n2
      exact q p2 vs' us _ (g2.same s3) (.inl (.inl upd_same)) (DpAll.tk (.of s3) (noL_datas _) ru) ⟨gu, eu⟩
end
end FS

set_option Elab.async false
set_option linter.all false
set_option maxRecDepth 100000
set_option maxHeartbeats 4000000
namespace FS
open PySem PySem.Spec PyProof.Rows L2
section
variable {P : Program} {w : World} {K : PySem.W.Frag} {mg : Str → Option Value} {base : Heap}
abbrev N_law_any_wrap : List Str := ["_law_die", "_law_modes", "_law_table", "_law_own", "_law_deep", "_law_wraps", "_law_some", "_law_name", "_law_kinds", "_law_given", "_law_one"]
theorem sc_law_any_wrap : FnScope N_law_any_wrap ["_law_die", "_law_modes", "_law_table", "_law_own", "_law_deep"] (defScope s_law_any_wrap) := ⟨rfl, rfl, rfl, by decide +kernel, rfl, by decide +kernel, by decide +kernel⟩
theorem ok_l_any_wrap {f : Addr} {fd : FuncData} (F : Fun K "_law_any_wrap" "_law_any_wrap" s_law_any_wrap f fd) (T : Nm K mg) {n k : Nat} (hk : 2 ≤ k) (Cl_own_names : Cal P w K mg base 1 "_law_own_names" ["_law_own", "_law_kind"] (spOwn K)) (Cl_cast : Cal P w K mg base 1 "_law_cast" ["_law_die", "_law_total"] spCast) (Cl_pick : Cal P w K mg base 2 "_law_pick" ["_law_die", "_law_items"] (spPick K)) (Cl_any_given : Cal P w K mg base k "_law_any_given" ["_law_die", "_law_modes", "_law_table", "_law_own", "_law_kinds", "_law_deep"] (spGiven K n)) : FnOk P w K mg base CX0 (k + 1) f fd ["_law_die", "_law_modes", "_law_table", "_law_own", "_law_deep"] (spWrap K (n + 1)) := by
  have nd := sc_law_any_wrap.nd
  refine F.ok sc_law_any_wrap (fun vs H Q E h => ?_) (fun cdv A outer s H vs Q E hr h => ?_)
  · obtain ⟨D, ta, m, tb, ov, own, rfl, ak, n1, n6, q0, q⟩ := h
    rfl
  · obtain ⟨D, ta, m, tb, ov, own, rfl, ak, n1, n6, q0, q⟩ := h
    skip
    refine ⟨_, (pss_cons (ps_set (i := 5) nd rfl (Or.inl rfl) (pe_own Cl_own_names (hr.mono (by omega)) (by rfl) (pa_cons (pv 3) (pa_cons pe_str pa_nil))))
  (pss_cons (ps_if (PW.pt (pw_and (pt_cmpR (op_neD hr.units) (pv 5) (pe_lst pa_nil) (nomark _)) (pw_and1 (pt_cmpR op_eq (pe_own Cl_cast (hr.mono (by omega)) (by rfl) (pa_cons (pv 0) (pa_cons pe_int pa_nil))) pe_int (nomark _)))))
  (pss_one (ps_ret (pe_tup (pa_cons pe_str (pa_cons (pe_own Cl_pick (hr.mono (by omega)) (by rfl) (pa_cons (pv 0) (pa_cons (pv 5) pa_nil))) pa_nil)))))
  pss_nil)
  (pss_cons (ps_setLc (i := 6) (own := [("_law_name", 7)]) (g := gName 7) rfl nd rfl rfl (sw_true rfl rfl rfl (by decide +kernel)) (pi_list (pe_callB (call_sortedD rfl) (by rfl) T.b_sorted (by decide +kernel) (pa_cons (pv 2) pa_nil))) (blkOk_by (own := [("_law_name", 7)]) (N := N_law_any_wrap) (sc := defScope s_law_any_wrap) (by decide +kernel)) (fun _ _ _ _ _ => (pg_name (i := 7) nd rfl (Or.inl rfl))) (fun _ _ _ _ _ => pts_one (pt_cmpR (op_neDK (K := K) rfl hr.units) (pe_slice (sl_tupK (K := K) rfl) (pe_dget (u1 hr) (pv 2) (pv 7) (fun _ _ => rfl)) (po_some (pe_un un_neg pe_int)) po_none) (pe_tup pa_nil) (nomark _))) (fun _ _ _ _ _ => (pv 7)))
  (pss_cons (ps_setLc (i := 6) (own := [("_law_name", 7)]) (g := gName 7) rfl nd rfl rfl (sw_true rfl rfl rfl (by decide +kernel)) (pi_list (pv 6)) (blkOk_by (own := [("_law_name", 7)]) (N := N_law_any_wrap) (sc := defScope s_law_any_wrap) (by decide +kernel)) (fun _ _ _ _ _ => (pg_name (i := 7) nd rfl (Or.inl rfl))) (fun _ _ _ _ _ => pts_one (pt_cmpR op_eq (pe_ix (ix_tupK (K := K) rfl) (pe_ix (ix_tupK (K := K) rfl) (pe_dget (u1 hr) (pv 2) (pv 7) (fun _ _ => rfl)) (pe_un un_neg pe_int) (fun _ _ => rfl)) pe_int (fun _ _ => rfl)) pe_str (nomark _))) (fun _ _ _ _ _ => (pv 7)))
  (pss_cons (ps_if (PW.pt (pw_and (pt_cmpR (op_neD hr.units) (pv 6) (pe_lst pa_nil) (nomark _)) (pw_and1 (pt_cmpR op_gt (pv 4) pe_int (nomark _)))))
  (pss_cons (ps_set (i := 7) nd rfl (Or.inl rfl) (pe_own Cl_pick (hr.mono (by omega)) (by rfl) (pa_cons (pv 0) (pa_cons (pv 6) pa_nil))))
  (pss_cons (ps_setLc (i := 8) (own := [("_law_one", 10)]) (g := gName 10) (tt := tYes) rfl nd rfl rfl (sw_true rfl rfl rfl (by decide +kernel)) (pi_tup (pe_slice sl_tupA (pe_dget (u1 hr) (pv 2) (pv 7) (fun _ _ => rfl)) po_none (po_some (pe_un un_neg pe_int)))) (blkOk_by (own := [("_law_one", 10)]) (N := N_law_any_wrap) (sc := defScope s_law_any_wrap) (by decide +kernel)) (fun _ _ _ _ _ => (pg_name (i := 10) nd rfl (Or.inl rfl))) (fun _ _ _ _ _ => pts_nil) (fun _ _ _ _ _ => (pe_ix (ix_tupK (K := K) rfl) (pv 10) pe_int (fun _ _ => rfl))))
  (pss_cons (ps_set (i := 9) nd rfl (Or.inl rfl) (pe_own Cl_any_given (hr.mono (by omega)) (by rfl) (pa_cons (pv 0) (pa_cons (pv 1) (pa_cons (pv 2) (pa_cons (pv 3) (pa_cons (pv 8) (pa_cons (pe_op op_sub (pv 4) pe_int) pa_nil))))))))
  (pss_one (ps_if (pt_cmpR op_notN (pv 9) pe_non (nomark _))
  (pss_one (ps_ret (pe_op op_catA (pe_tup (pa_cons pe_str (pa_cons (pv 7) pa_nil))) (pv 9))))
  pss_nil)))))
  pss_nil)
  (pss_one (ps_ret (pe_ifExp (pt_cmpR (op_neD hr.units) (pv 5) (pe_lst pa_nil) (nomark _)) (pe_tup (pa_cons pe_str (pa_cons (pe_ix ix_list (pv 5) pe_int (fun _ _ => rfl)) pa_nil))) pe_non)))))))), ?_⟩

    have po := ak.po
    refine ⟨_, rfl, ov, own, true, rfl, ak.par, by have := po.few; omega, fun H1 p1 s1 np1 e1 => ?_⟩
    have g1 : Go D H H1 := .of ak.die s1
    have np1D := ak.die.ne np1
    have nf := names_few po true
    refine ⟨_, rfl, Nat.zero_le _, fun p2 n2 => ?_⟩
    have g2 := g1.same (same_upd (o := .lst []) n2)
    have e2 := same_upd (o := .lst []) n2 _ _ e1
    refine ne_nil e2 upd_same (fun z hz => names_word po hz) ?_
    refine ⟨_, rfl, ite2 (fun e => ?A) (fun e => ?B)⟩
    case' A =>
      refine ⟨_, rfl, D, 2, rfl, g2.2, by omega, by omega, fun r HH r0 r1 g3 f3 => ?_⟩
      have gg := g2.trans g3
      have ee := g3.1 _ _ np1D e2
      refine ⟨rfl, _, rfl, ite2 (fun _ => ?C) (fun _ => ?D)⟩
      case' C =>
        have ne : (namesOf own true).map V.str ≠ [] := fun z => by
          cases hn : namesOf own true with
          | nil => rw [hn] at e; cases e
          | cons a b => rw [hn] at z; cases z
        refine ⟨_, rfl, _, rfl, D, p1, _, gg.2, rfl, .inl (.inl ee), np1D, ne, by rw [List.length_map]; omega, fun v H4 hv g4 f4 => ?_⟩
        obtain ⟨z, hz, rfl⟩ := List.mem_map.mp hv
        refine ⟨by show 2 ≤ sizeLine; decide, fun p5 n5 => ?_⟩
        obtain ⟨t, gt⟩ := got_leaf (K := K) (H := upd H4 p5 (.tup [V.str "own", V.str z])) (k := true) n1 (.inl (.inl upd_same)) (names_ok hz)
        exact q _ _ t ((gg.trans g4).same (same_upd n5)) gt
      case' D => clear r0 r1 g3 f3
    case' B =>
      generalize upd H1 p2 (.lst []) = HH at g2 e2 ⊢
      have gg := g2
      have ee := e2
    all_goals
      clear e2 g2 g1 s1 e1 n2
      have ak2 := ak.go gg
      obtain ⟨kvs, ht, tv, t8⟩ := ak2.tab
      refine ⟨_, rfl, ta, kvs, tb.map (·.1), rfl, .of ht, tv.keys, by rw [List.length_map]; omega, fun ys p3 pm so n3 => ?_⟩
      have s3 := same_upd (o := .lst (ys.map V.str)) n3
      have e3 : upd HH p3 (.lst (ys.map V.str)) p3 = some (.lst (ys.map V.str)) := upd_same
      generalize upd HH p3 (.lst (ys.map V.str)) = H3 at s3 e3 ⊢
      have ht3 := s3 _ _ ht
      have tv3 := tv.tk (.of s3)
      have ly : ys.length ≤ 8 := by rw [pm.length_eq, List.length_map]; exact t8
      refine ⟨p3, rfl, ⟨_, .inl (.inl e3)⟩, fun L nL => ?_⟩
      refine lc_list (xs := ys.map V.str) (fun i H' => Same H3 H' ∧ ∃ zs : List Str, H' L = some (.lst (zs.map V.str)) ∧ zs.length ≤ i ∧ ∀ z ∈ zs, z ∈ tb.map (·.1) ∧ ∀ o, tb.lookup z = some o → o ≠ []) ⟨same_upd nL, [], upd_same, Nat.le_refl _, (fun _ h => nomatch h)⟩ (fun i H' hi h => .inl (.inl (h.1 _ _ e3))) (fun i x H4 hx h => ?_) (fun H4 h => ?_)
      · obtain ⟨sm, zs, eL, lz, hz⟩ := h
        rw [List.getElem?_map] at hx
        obtain ⟨nm, hnm, rfl⟩ := Option.map_eq_some_iff.mp hx
        have mnm : nm ∈ tb.map (·.1) := pm.mem_iff.mp (List.mem_of_getElem? hnm)
        have li := (List.getElem?_eq_some_iff.mp hnm).1
        obtain ⟨v, o, hv, dv, po', mo, wd, lk⟩ := (tv3.tk (.of sm)).get mnm
        obtain ⟨av, xs, rfl, sv, rv⟩ := Dp.tup_inv (show Dp K H4 v (.tuple (o.map parD)) from dv)
        have lo : xs.length = o.length := by rw [DpAll.len rv, List.length_map]
        have dg : DGet H4 ta (.str nm) (some (V.ref av)) := hv ▸ DGet.k (k := Sum.inr nm) (sm _ _ ht3)
        refine ⟨rfl, _, rfl, _, rfl, ta, _, rfl, dg, ?_⟩
        refine ⟨_, rfl, _, rfl, ?_⟩
        dsimp only [tNoPart]
        refine cut_last sv (fun H5 p5 s5 sq5 => ?_)
        refine ⟨Nat.zero_le _, fun p6 n6' => ?_⟩
        have s6 := s5.trans (same_upd (o := .tup []) n6')
        have pd := po'.sub (List.drop_sublist (o.length - 1) o)
        have rd := DpAll.drop (xs.length - 1) rv
        rw [← List.map_drop, lo] at rd
        refine ⟨.tuple ((o.drop (o.length - 1)).map parD), .tuple [], .tup (Same.sqT (same_upd n6') sq5) (by rw [lo]; exact DpAll.stay (.of s6) (pars_noL (o.drop (o.length - 1))) rd), .tup (.inl (.inl upd_same)) .nil, pars_shaped pd, rfl, _, rfl, ?_⟩
        rw [eqv_pars, last_empty]
        refine ite2 (fun eo => ?_) (fun eo => ?_)
        · refine ⟨_, rfl, _, s6 _ _ eL, by rw [List.length_map]; exact small1000 (by omega), Same.set (sm.trans s6) nL, zs ++ [nm], ?_, ?_, ?_⟩
          · rw [upd_same, List.map_append]
            rfl
          · rw [List.length_append]
            show _ + 1 ≤ _
            omega
          · intro z hz'
            rcases List.mem_append.mp hz' with h | h
            · exact hz z h
            · rw [List.mem_singleton.mp h]
              refine ⟨mnm, fun o2 h2 => ?_⟩
              rw [lk] at h2
              cases Option.some.inj h2
              intro z0
              rw [z0] at eo
              cases eo
        · exact ⟨sm.trans s6, zs, s6 _ _ eL, by omega, hz⟩
      · obtain ⟨sm, zs, eL, lz, hz⟩ := h
        rw [List.length_map] at lz
        have gg4 := gg.same (s3.trans sm)
        have ee4 := sm _ _ (s3 _ _ ee)
        have ht4 := sm _ _ ht3
        have tv4 := tv3.tk (.of sm)
        clear sm ht3 tv3 e3 ht tv s3 ee gg ak2 nL
        refine ⟨_, rfl, L, rfl, ⟨_, .inl (.inl eL)⟩, fun LB nLB => ?_⟩
        refine lc_list (xs := zs.map V.str) (fun i H' => Same H4 H' ∧ ∃ ws : List Str, H' LB = some (.lst (ws.map V.str)) ∧ ws.length ≤ i ∧ (∀ z ∈ ws, z ∈ tb.map (·.1)) ∧ ∀ z ∈ ws, ∀ o, tb.lookup z = some o → o.map (·.2) = (o.take (o.length - 1)).map (·.2) ++ [false]) ⟨same_upd nLB, [], upd_same, Nat.le_refl _, (fun _ h => nomatch h), (fun _ h => nomatch h)⟩ (fun i H' hi h => .inl (.inl (h.1 _ _ eL))) (fun i x H5 hx h => ?_) (fun H5 h => ?_)
        · obtain ⟨sm, ws, eLB, lw, hw, hq⟩ := h
          rw [List.getElem?_map] at hx
          obtain ⟨nm, hnm, rfl⟩ := Option.map_eq_some_iff.mp hx
          obtain ⟨mnm, hne⟩ := hz nm (List.mem_of_getElem? hnm)
          have li := (List.getElem?_eq_some_iff.mp hnm).1
          obtain ⟨v, o, hv, dv, po', mo, wd, lk⟩ := (tv4.tk (.of sm)).get mnm
          have on := hne o lk
          obtain ⟨av, xs, rfl, sv, rv⟩ := Dp.tup_inv (show Dp K H5 v (.tuple (o.map parD)) from dv)
          have lo : xs.length = o.length := by rw [DpAll.len rv, List.length_map]
          have dg : DGet H5 ta (.str nm) (some (V.ref av)) := hv ▸ DGet.k (k := Sum.inr nm) (sm _ _ ht4)
          have hl : o.length - 1 < o.length := by
            have := List.length_pos_iff.mpr on
            omega
          obtain ⟨y, hy, dy⟩ := DpAll.put rv (i := o.length - 1) (d := parD o[o.length - 1]) (by rw [List.getElem?_map, List.getElem?_eq_getElem hl]; rfl)
          obtain ⟨b, ys2, rfl, sb, rb⟩ := Dp.tup_inv (show Dp K H5 y (.tuple [.str o[o.length - 1].1, .str (kd o[o.length - 1].2)]) from dy)
          cases rb with
          | cons y1 rb => cases rb with
            | cons y2 rb =>
            cases rb
            cases Dp.str_inv y1
            cases Dp.str_inv y2
            have al : atI xs (-1) = some (V.ref b) := at_last (by rw [lo]; exact hy)
            refine ⟨rfl, _, rfl, _, rfl, ta, _, rfl, dg, _, rfl, av, xs, -1, _, rfl, rfl, sv, al, b, _, 1, _, rfl, rfl, sb, at1, rfl, _, rfl, ?_⟩
            refine ite2 (fun eo => ?_) (fun eo => ?_)
            · refine ⟨_, rfl, _, eLB, by rw [List.length_map]; exact small1000 (by omega), Same.set sm nLB, ws ++ [nm], ?_, ?_, ?_, ?_⟩
              · rw [upd_same, List.map_append]
                rfl
              · rw [List.length_append]
                show _ + 1 ≤ _
                omega
              · intro z hz'
                rcases List.mem_append.mp hz' with h | h
                · exact hw z h
                · rw [List.mem_singleton.mp h]
                  exact mnm
              · intro z hz' o2 h2
                rcases List.mem_append.mp hz' with h | h
                · exact hq z h o2 h2
                · rw [List.mem_singleton.mp h, lk] at h2
                  cases Option.some.inj h2
                  exact last_block hl (kd_block eo)
            · exact ⟨sm, ws, eLB, by omega, hw, hq⟩
        · obtain ⟨sm, ws, eLB, lw, hw, hq⟩ := h
          rw [List.length_map] at lw
          have gg5 := gg4.same sm
          have ee5 := sm _ _ ee4
          have ht5 := sm _ _ ht4
          have tv5 := tv4.tk (.of sm)
          have wo : ∀ z ∈ ws, PyData.strOk z = true := fun z h => by
            obtain ⟨_, _, _, _, _, _, wd, _⟩ := tv5.get (hw z h)
            exact (word_ok wd).1
          have nLBD := gg4.2.ne nLB
          clear sm ht4 tv4 ee4 gg4 nLB eL hz
          refine ⟨_, rfl, Nat.zero_le _, fun p7 n7 => ?_⟩
          have gg7 := gg5.same (same_upd (o := .lst []) n7)
          have ee7 := same_upd (o := .lst []) n7 _ _ ee5
          have eL7 := same_upd (o := .lst []) n7 _ _ eLB
          have ht7 := same_upd (o := .lst []) n7 _ _ ht5
          have tv7 := tv5.tk (.of (same_upd (o := .lst []) n7))
          refine ne_nil eL7 upd_same wo ?_
          generalize upd H5 p7 (.lst []) = H7 at gg7 ee7 eL7 ht7 tv7 ⊢
          clear tv5 ht5 ee5 gg5 n7 eLB
          refine ⟨_, rfl, ite2 (fun ew => ?_) (fun ew => ?_)⟩
          have ne : ws.map V.str ≠ [] := fun z => by
            cases hn : ws with
            | nil => rw [hn] at ew; cases ew
            | cons a b => rw [hn] at z; cases z
          refine ⟨_, rfl, _, _, rfl, rfl, _, rfl, ite2 (fun _ => ?_) (fun z => absurd (decide_eq_true (by omega)) z)⟩
          refine ⟨_, rfl, _, rfl, D, LB, _, gg7.2, rfl, .inl (.inl eL7), nLBD, ne, by rw [List.length_map]; omega, fun v H8 hv8 g8 f8 => ?_⟩
          obtain ⟨nm, hnm, rfl⟩ := List.mem_map.mp hv8
          have gg8 := gg7.trans g8
          have ee8 := g8.1 _ _ np1D ee7
          have ak8 := ak.go gg8
          have ht8 := f8 ta (fun z => by
            subst z
            obtain ⟨x, y, w', q'⟩ := gg7.2
            rw [ht7] at q'
            cases q')
          rw [ht7] at ht8
          obtain ⟨v, o, hv, dv, po', mo, wd, lk⟩ := (tv7.tk (g8.tk gg7.2)).get (hw nm hnm)
          obtain ⟨av, xs, rfl, sv, rv⟩ := Dp.tup_inv (show Dp K H8 v (.tuple (o.map parD)) from dv)
          have lo : xs.length = o.length := by rw [DpAll.len rv, List.length_map]
          have dg : DGet H8 ta (.str nm) (some (V.ref av)) := hv ▸ DGet.k (k := Sum.inr nm) ht8
          have o3 := po'.few
          clear hv8 g8 f8 gg7 ee7 eL7 ht7 tv7 hv
          refine ⟨_, rfl, _, rfl, ta, _, rfl, dg, ?_⟩
          dsimp only [tNoPart]
          refine ⟨_, rfl, _, rfl, ?_⟩
          refine cut_init sv (fun H9 p9 s9 sq9 => ?_)
          have dxs : DpAll K H9 (xs.take (xs.length - 1)) ((o.take (o.length - 1)).map parD) := by
            rw [List.map_take, lo]
            exact DpAll.take9 _ (DpAll.stay (.of s9) (pars_noL o) rv)
          refine ⟨p9, rfl, ⟨_, sq9⟩, fun LK nLK => ?_⟩
          have lk9 : (xs.take (xs.length - 1)).length ≤ 3 := by
            rw [List.length_take]
            omega
          refine lc_tup (xs := xs.take (xs.length - 1)) (fun i H' => Same H9 H' ∧ H' LK = some (.lst (((((o.take (o.length - 1)).take i).map (·.2)).map kd).map V.str))) ⟨same_upd nLK, upd_same⟩ (fun i H' hi h => Same.sqT h.1 sq9) (fun i x G1 hx h => ?_) (fun G1 h => ?_)
          · obtain ⟨sm, eK⟩ := h
            obtain ⟨d, hd, dx'⟩ := DpAll.get (DpAll.stay (.of sm) (pars_noL _) dxs) hx
            rw [List.getElem?_map] at hd
            obtain ⟨z, hz, rfl⟩ := Option.map_eq_some_iff.mp hd
            have li := (List.getElem?_eq_some_iff.mp hx).1
            obtain ⟨b, ys2, rfl, sb, rb⟩ := Dp.tup_inv (show Dp K G1 x (.tuple [.str z.1, .str (kd z.2)]) from dx')
            cases rb with
            | cons y1 rb => cases rb with
              | cons y2 rb =>
              cases rb
              cases Dp.str_inv y1
              cases Dp.str_inv y2
              refine ⟨rfl, _, rfl, b, _, 1, _, rfl, rfl, sb, at1, _, eK, ?_, Same.set sm nLK, ?_⟩
              · rw [List.length_map, List.length_map, List.length_map, List.length_take]
                exact Nat.lt_of_le_of_lt (Nat.min_le_left _ _) (small1000 (by omega))
              · rw [upd_same, take_more hz, List.map_append, List.map_append, List.map_append]
                rfl
          · obtain ⟨sm, eK⟩ := h
            have le : (xs.take (xs.length - 1)).length = (o.take (o.length - 1)).length := by rw [List.length_take, List.length_take, lo]
            rw [le, List.take_length] at eK
            have gg10 := gg8.same (s9.trans sm)
            have ee10 := sm _ _ (s9 _ _ ee8)
            have nKD := gg8.2.ne (Same.free s9 nLK)
            clear s9 sm ee8 gg8 dxs sq9 nLK ht8
            refine ⟨_, rfl, _, rfl, _, rfl, _, rfl, _, rfl, _, rfl, _, _, rfl, rfl, ?_⟩
            refine ⟨D, ta, LK, m, tb, ov, own, (o.take (o.length - 1)).map (·.2), congrArg (fun z => [V.ref D, V.int m, V.ref ta, ov, V.ref LK, V.int z]) (by omega : ((n + 1 : Nat) : Int) - 1 = (n : Int)), ak.go gg10, by omega, eK, nKD, by rw [List.length_map]; omega, fun G2 g11 => ?_, fun pg vs' us G2 g11 sg rg gv => ?_⟩
            rotate_left
            · -- with
              refine ⟨_, rfl, rfl, _, rfl, iteT ?_⟩
              refine ⟨_, rfl, by show 2 ≤ sizeLine; decide, fun p12 n12 => ?_⟩
              have s12 := same_upd (o := .tup [V.str "with", V.str nm]) n12
              refine ⟨_, rfl, ?_⟩
              have lv : vs'.length ≤ 3 := by
                rw [DpAll.len rg, datas_len, ← List.length_map (f := Tm.isW), gv.2, List.length_map]
                omega
              refine cat_tup (.inl (.inl upd_same)) (Same.sqT s12 sg) (List.cons_ne_nil _ _) (by show 2 + vs'.length < 16000; omega) fun G3 p13 s13 sq13 => ?_
              have s14 := s12.trans s13
              obtain ⟨t, gt⟩ := got_call (K := K) (H := G3) (own := own) true wd sq13 (DpAll.tk (.of s14) (noL_datas _) rg) gv (by rw [List.length_map]; omega) (by rw [lk]; exact congrArg some (hq nm hnm o lk))
              exact q _ _ t ((gg10.trans g11).same s14) gt
            refine ⟨_, rfl, rfl, _, rfl, iteF ?_⟩
            have gg7 := gg10.trans g11
            have ee7 := g11.1 _ _ np1D ee10
            refine ⟨_, rfl, Nat.zero_le _, fun p15 n15 => ?_⟩
            refine ne_nil (same_upd n15 _ _ ee7) upd_same (fun z hz => names_word po hz) ?_
            have g15 := gg7.same (same_upd (o := .lst []) n15)
            have e15 := same_upd (o := .lst []) n15 _ _ ee7
            generalize upd G2 p15 (.lst []) = G4 at g15 e15 ⊢
            refine ⟨_, rfl, ite2 (fun ez => ?_) (fun ez => ?_)⟩
            · cases hn : namesOf own true with
              | nil => rw [hn] at ez; cases ez
              | cons z0 zr =>
                rw [hn] at e15
                refine ⟨_, rfl, p1, _, 0, _, rfl, rfl, .inl (.inl e15), at0, by show 2 ≤ sizeLine; decide, fun p16 n16 => ?_⟩
                obtain ⟨t, gt⟩ := got_leaf (K := K) (H := upd G4 p16 (.tup [V.str "own", V.str z0])) (k := true) n1 (.inl (.inl upd_same)) (names_ok (by rw [hn]; exact List.mem_cons_self))
                exact q _ _ t (g15.same (same_upd n16)) gt
            · exact q0 _ g15
          refine ⟨_, rfl, Nat.zero_le _, fun p15 n15 => ?_⟩
          refine ne_nil (same_upd n15 _ _ ee7) upd_same (fun z hz => names_word po hz) ?_
          have g15 := gg7.same (same_upd (o := .lst []) n15)
          have e15 := same_upd (o := .lst []) n15 _ _ ee7
          generalize upd H7 p15 (.lst []) = G4 at g15 e15 ⊢
          refine ⟨_, rfl, ite2 (fun ez => ?_) (fun ez => ?_)⟩
          · cases hn : namesOf own true with
            | nil => rw [hn] at ez; cases ez
            | cons z0 zr =>
              rw [hn] at e15
              refine ⟨_, rfl, p1, _, 0, _, rfl, rfl, .inl (.inl e15), at0, by show 2 ≤ sizeLine; decide, fun p16 n16 => ?_⟩
              obtain ⟨t, gt⟩ := got_leaf (K := K) (H := upd G4 p16 (.tup [V.str "own", V.str z0])) (k := true) n1 (.inl (.inl upd_same)) (names_ok (by rw [hn]; exact List.mem_cons_self))
              exact q _ _ t (g15.same (same_upd n16)) gt
          · exact q0 _ g15
end
end FS

set_option Elab.async false
set_option linter.all false
set_option maxRecDepth 100000
set_option maxHeartbeats 4000000
namespace FS
open PySem PySem.Spec PyProof.Rows L2
section
variable {P : Program} {w : World} {K : PySem.W.Frag} {mg : Str → Option Value} {base : Heap}
abbrev N_law_any_term : List Str := ["_law_die", "_law_modes", "_law_table", "_law_own", "_law_deep", "_law_way", "_law_blocks", "_law_many", "_law_some", "_law_name", "_law_kinds", "_law_given", "_law_wrap", "_law_turn", "_law_one"]
theorem sc_law_any_term : FnScope N_law_any_term ["_law_die", "_law_modes", "_law_table", "_law_own", "_law_deep"] (defScope s_law_any_term) := ⟨rfl, rfl, rfl, by decide +kernel, rfl, by decide +kernel, by decide +kernel⟩
theorem ok_l_any_term {f : Addr} {fd : FuncData} (F : Fun K "_law_any_term" "_law_any_term" s_law_any_term f fd) (T : Nm K mg) {n k : Nat} (hk : 3 ≤ k) (Cl_own_names : Cal P w K mg base 1 "_law_own_names" ["_law_own", "_law_kind"] (spOwn K)) (Cl_cast : Cal P w K mg base 1 "_law_cast" ["_law_die", "_law_total"] spCast) (Cl_pick : Cal P w K mg base 2 "_law_pick" ["_law_die", "_law_items"] (spPick K)) (Cl_any_deed : Cal P w K mg base 3 "_law_any_deed" ["_law_die", "_law_modes"] (spDeed K)) (Cl_any_given : Cal P w K mg base k "_law_any_given" ["_law_die", "_law_modes", "_law_table", "_law_own", "_law_kinds", "_law_deep"] (spGiven K n)) (Cl_any_wrap : Cal P w K mg base k "_law_any_wrap" ["_law_die", "_law_modes", "_law_table", "_law_own", "_law_deep"] (spWrap K n)) (Cl_any_term : Cal P w K mg base k "_law_any_term" ["_law_die", "_law_modes", "_law_table", "_law_own", "_law_deep"] (spTermD K n)) : FnOk P w K mg base CX0 (k + 1) f fd ["_law_die", "_law_modes", "_law_table", "_law_own", "_law_deep"] (spTermD K (n + 1)) := by
  have nd := sc_law_any_term.nd
  refine F.ok sc_law_any_term (fun vs H Q E h => ?_) (fun cdv A outer s H vs Q E hr h => ?_)
  · obtain ⟨D, ta, m, tb, ov, own, rfl, ak, n1, n6, q⟩ := h
    rfl
  · obtain ⟨D, ta, m, tb, ov, own, rfl, ak, n1, n6, q⟩ := h
    skip
    refine ⟨_, (pss_cons (ps_set (i := 5) nd rfl (Or.inl rfl) (pe_own Cl_pick (hr.mono (by omega)) (by rfl) (pa_cons (pv 0) (pa_cons (pe_lst (pa_cons pe_str (pa_cons pe_str (pa_cons pe_str (pa_cons pe_str (pa_cons pe_str (pa_cons pe_str (pa_cons pe_str pa_nil)))))))) pa_nil))))
  (pss_cons (ps_set (i := 5) nd rfl (Or.inl rfl) (pe_ifExp (pt_cmpR op_gt (pv 4) pe_int (nomark _)) (pv 5) (pe_own Cl_pick (hr.mono (by omega)) (by rfl) (pa_cons (pv 0) (pa_cons (pe_lst (pa_cons pe_str (pa_cons pe_str pa_nil))) pa_nil)))))
  (pss_cons (ps_set (i := 6) nd rfl (Or.inl rfl) (pe_own Cl_own_names (hr.mono (by omega)) (by rfl) (pa_cons (pv 3) (pa_cons pe_str pa_nil))))
  (pss_cons (ps_if (PW.pt (pw_and (pt_cmpR op_eq (pv 5) pe_str (nomark _)) (pw_and1 (pt_cmpR (op_neD hr.units) (pv 6) (pe_lst pa_nil) (nomark _)))))
  (pss_one (ps_ret (pe_tup (pa_cons pe_str (pa_cons (pe_own Cl_pick (hr.mono (by omega)) (by rfl) (pa_cons (pv 0) (pa_cons (pv 6) pa_nil))) pa_nil)))))
  pss_nil)
  (pss_cons (ps_if (pt_cmpR op_in_seq (pv 5) (pe_tup (pa_cons pe_str (pa_cons pe_str pa_nil))) (by rfl))
  (pss_cons (ps_set (i := 7) nd rfl (Or.inl rfl) (pe_op op_add (pe_own Cl_cast (hr.mono (by omega)) (by rfl) (pa_cons (pv 0) (pa_cons pe_int pa_nil))) (pe_callTy call_int1 (by rfl) T.b_int (by decide +kernel) (pa_cons (pe_cmpR op_eq (pv 5) pe_str (nomark _)) pa_nil))))
  (pss_cons (ps_setLc (i := 8) (own := [("_law_turn", 13)]) (g := gName 13) (tt := tYes) rfl nd rfl rfl (sw_true rfl rfl rfl (by decide +kernel)) (pi_range1 rfl T.b_range (pa_cons (pv 7) pa_nil)) (blkOk_by (own := [("_law_turn", 13)]) (N := N_law_any_term) (sc := defScope s_law_any_term) (by decide +kernel)) (fun _ _ _ _ _ => (pg_name (i := 13) nd rfl (Or.inl rfl))) (fun _ _ _ _ _ => pts_nil) (fun _ _ _ _ _ => (pe_own Cl_any_term (hr.mono (by omega)) (by rfl) (pa_cons (pv 0) (pa_cons (pv 1) (pa_cons (pv 2) (pa_cons (pv 3) (pa_cons (pe_op op_sub (pv 4) pe_int) pa_nil))))))))
  (pss_one (ps_ret (pe_op op_catA (pe_tup (pa_cons (pv 5) pa_nil)) (pe_callTy call_tuple_of (by rfl) T.b_tuple (by decide +kernel) (pa_cons (pv 8) pa_nil)))))))
  pss_nil)
  (pss_cons (ps_if (pt_cmpR op_eq (pv 5) pe_str (nomark _))
  (pss_cons (ps_set (i := 9) nd rfl (Or.inl rfl) (pe_own Cl_pick (hr.mono (by omega)) (by rfl) (pa_cons (pv 0) (pa_cons (pe_callB (call_sortedD rfl) (by rfl) T.b_sorted (by decide +kernel) (pa_cons (pv 2) pa_nil)) pa_nil))))
  (pss_cons (ps_setLc (i := 10) (own := [("_law_one", 14)]) (g := gName 14) (tt := tYes) rfl nd rfl rfl (sw_true rfl rfl rfl (by decide +kernel)) (pi_tup (pe_dget (u1 hr) (pv 2) (pv 9) (fun _ _ => rfl))) (blkOk_by (own := [("_law_one", 14)]) (N := N_law_any_term) (sc := defScope s_law_any_term) (by decide +kernel)) (fun _ _ _ _ _ => (pg_name (i := 14) nd rfl (Or.inl rfl))) (fun _ _ _ _ _ => pts_nil) (fun _ _ _ _ _ => (pe_ix (ix_tupK (K := K) rfl) (pv 14) pe_int (fun _ _ => rfl))))
  (pss_cons (ps_set (i := 11) nd rfl (Or.inl rfl) (pe_own Cl_any_given (hr.mono (by omega)) (by rfl) (pa_cons (pv 0) (pa_cons (pv 1) (pa_cons (pv 2) (pa_cons (pv 3) (pa_cons (pv 10) (pa_cons (pe_op op_sub (pv 4) pe_int) pa_nil))))))))
  (pss_one (ps_if (pt_cmpR op_notN (pv 11) pe_non (nomark _))
  (pss_one (ps_ret (pe_op op_catA (pe_tup (pa_cons pe_str (pa_cons (pv 9) pa_nil))) (pv 11))))
  pss_nil)))))
  pss_nil)
  (pss_cons (ps_if (pt_cmpR op_eq (pv 5) pe_str (nomark _))
  (pss_cons (ps_set (i := 12) nd rfl (Or.inl rfl) (pe_own Cl_any_wrap (hr.mono (by omega)) (by rfl) (pa_cons (pv 0) (pa_cons (pv 1) (pa_cons (pv 2) (pa_cons (pv 3) (pa_cons (pe_op op_sub (pv 4) pe_int) pa_nil)))))))
  (pss_one (ps_if (pt_cmpR op_notN (pv 12) pe_non (nomark _))
  (pss_one (ps_ret (pe_tup (pa_cons pe_str (pa_cons (pv 12) (pa_cons (pe_own Cl_any_term (hr.mono (by omega)) (by rfl) (pa_cons (pv 0) (pa_cons (pv 1) (pa_cons (pv 2) (pa_cons (pv 3) (pa_cons (pe_op op_sub (pv 4) pe_int) pa_nil)))))) pa_nil))))))
  pss_nil)))
  pss_nil)
  (pss_one (ps_ret (pe_own Cl_any_deed (hr.mono (by omega)) (by rfl) (pa_cons (pv 0) (pa_cons (pv 1) pa_nil)))))))))))), ?_⟩

    have po := ak.po
    have nf := names_few po false
    refine ⟨_, rfl, by show 7 ≤ sizeLine; decide, fun p1 n1' => ?_⟩
    have g1 : Go D H (upd H p1 (.lst [V.str "seq", V.str "or", V.str "call", V.str "run", V.str "wrap", V.str "do", V.str "call"])) := .new ak.die n1'
    have e1 : upd H p1 (.lst [V.str "seq", V.str "or", V.str "call", V.str "run", V.str "wrap", V.str "do", V.str "call"]) p1 = some (.lst [V.str "seq", V.str "or", V.str "call", V.str "run", V.str "wrap", V.str "do", V.str "call"]) := upd_same
    have np1 := ak.die.ne n1'
    generalize upd H p1 (.lst [V.str "seq", V.str "or", V.str "call", V.str "run", V.str "wrap", V.str "do", V.str "call"]) = H1 at g1 e1 ⊢
    refine ⟨D, p1, _, g1.2, rfl, .inl (.inl e1), np1, (fun z => nomatch z), by show 7 < 1000; decide, fun v HA hv gA _ => ?_⟩
    have hv2 : ∃ wy : Str, v = .str wy ∧ (wy = "do" ∨ wy = "run" ∨ wy = "seq" ∨ wy = "or" ∨ wy = "call" ∨ wy = "wrap") := by
      simp only [List.mem_cons, List.not_mem_nil, or_false] at hv
      rcases hv with rfl | rfl | rfl | rfl | rfl | rfl | rfl <;> exact ⟨_, rfl, by simp⟩
    obtain ⟨wy0, rfl, hwy⟩ := hv2
    have gA1 := g1.trans gA
    clear hv gA g1 e1 n1'
    refine ⟨_, rfl, _, _, rfl, rfl, _, rfl, ite2 (fun ed => ?_) (fun ed => ?_)⟩
    rotate_left
    · refine ⟨_, rfl, by show 2 ≤ sizeLine; decide, fun p2 n2' => ?_⟩
      have g2 := gA1.same (same_upd (o := .lst [V.str "do", V.str "run"]) n2')
      have e2 : upd HA p2 (.lst [V.str "do", V.str "run"]) p2 = some (.lst [V.str "do", V.str "run"]) := upd_same
      have np2 := gA1.2.ne n2'
      generalize upd HA p2 (.lst [V.str "do", V.str "run"]) = H2 at g2 e2 ⊢
      clear gA1 hwy
      refine ⟨D, p2, _, g2.2, rfl, .inl (.inl e2), np2, (fun z => nomatch z), by show 2 < 1000; decide, fun v HB hv gB _ => ?_⟩
      have hv2 : ∃ wy : Str, v = .str wy ∧ (wy = "do" ∨ wy = "run" ∨ ((wy = "seq" ∨ wy = "or" ∨ wy = "call" ∨ wy = "wrap") ∧ 1 ≤ n)) := by
        simp only [List.mem_cons, List.not_mem_nil, or_false] at hv
        rcases hv with rfl | rfl <;> exact ⟨_, rfl, by simp⟩
      obtain ⟨wy, rfl, hw⟩ := hv2
      have gH := g2.trans gB
      clear hv gB g2 e2 n2'
      have akH := ak.go gH
      refine ⟨_, rfl, ov, own, false, rfl, akH.par, by have := po.few; omega, fun HC pb sC nb eb => ?_⟩
      have gC := gH.same sC
      have npb := gH.2.ne nb
      clear akH
      rcases hw with rfl | rfl | ⟨rfl | rfl | rfl | rfl, hn⟩
      · -- do
        refine ⟨_, rfl, rfl, _, rfl, iteF ?_⟩
        refine ⟨_, rfl, by show 2 ≤ sizeLine; decide, fun pi ni => ?_⟩
        have gi := (gC).same (same_upd (o := .tup ([("seq" : Str), "or"].map V.str)) ni)
        have si := same_upd (o := .tup ([("seq" : Str), "or"].map V.str)) ni
        refine ⟨pi, [("seq" : Str), "or"].map V.str, rfl, .inr (.inl (.inl upd_same)), rfl, flat_strs _, _, rfl, ?_⟩
        rw [inV_strs]
        change Go D H (upd HC pi (.tup [V.str "seq", V.str "or"])) at gi
        change Same HC (upd HC pi (.tup [V.str "seq", V.str "or"])) at si
        generalize upd HC pi (.tup [V.str "seq", V.str "or"]) = HI at gi si ⊢
        refine iteF ?_
        refine ⟨_, rfl, rfl, _, rfl, iteF ?_⟩
        refine ⟨_, rfl, rfl, _, rfl, iteF ?_⟩
        refine ⟨_, rfl, _, rfl, D, m, rfl, (gi).2, ak.m1, ak.m3, fun v G9 t g9 gt => ?_⟩
        exact q v G9 t ((gi).trans g9) (got_up (gt tb own))
      · -- run
        refine ⟨_, rfl, rfl, _, rfl, iteT ?_⟩
        refine ⟨_, rfl, Nat.zero_le _, fun p3 n3 => ?_⟩
        refine ne_nil (same_upd n3 _ _ eb) upd_same (fun z hz => names_word po hz) ?_
        have gD := gC.same (same_upd (o := .lst []) n3)
        have eD := same_upd (o := .lst []) n3 _ _ eb
        generalize upd HC p3 (.lst []) = HD at gD eD ⊢
        refine ⟨_, rfl, ite2 (fun e => ?_) (fun e => ?_)⟩
        · have ne : (namesOf own false).map V.str ≠ [] := fun z => by
            cases hz : namesOf own false with
            | nil => rw [hz] at e; cases e
            | cons a b => rw [hz] at z; cases z
          refine ⟨_, rfl, _, rfl, D, pb, _, gD.2, rfl, .inl (.inl eD), npb, ne, by rw [List.length_map]; omega, fun v H4 hv g4 f4 => ?_⟩
          obtain ⟨z, hz, rfl⟩ := List.mem_map.mp hv
          refine ⟨by show 2 ≤ sizeLine; decide, fun p5 n5 => ?_⟩
          obtain ⟨t, gt⟩ := got_leaf (K := K) (H := upd H4 p5 (.tup [V.str "run", V.str z])) (k := false) n1 (.inl (.inl upd_same)) (names_ok hz)
          exact q _ _ t ((gD.trans g4).same (same_upd n5)) gt
        · refine ⟨_, rfl, by show 2 ≤ sizeLine; decide, fun pi ni => ?_⟩
          have gi := (gD).same (same_upd (o := .tup ([("seq" : Str), "or"].map V.str)) ni)
          have si := same_upd (o := .tup ([("seq" : Str), "or"].map V.str)) ni
          refine ⟨pi, [("seq" : Str), "or"].map V.str, rfl, .inr (.inl (.inl upd_same)), rfl, flat_strs _, _, rfl, ?_⟩
          rw [inV_strs]
          change Go D H (upd HD pi (.tup [V.str "seq", V.str "or"])) at gi
          change Same HD (upd HD pi (.tup [V.str "seq", V.str "or"])) at si
          generalize upd HD pi (.tup [V.str "seq", V.str "or"]) = HI at gi si ⊢
          refine iteF ?_
          refine ⟨_, rfl, rfl, _, rfl, iteF ?_⟩
          refine ⟨_, rfl, rfl, _, rfl, iteF ?_⟩
          refine ⟨_, rfl, _, rfl, D, m, rfl, (gi).2, ak.m1, ak.m3, fun v G9 t g9 gt => ?_⟩
          exact q v G9 t ((gi).trans g9) (got_up (gt tb own))
      · -- seq
        refine ⟨_, rfl, rfl, _, rfl, iteF ?_⟩
        refine ⟨_, rfl, by show 2 ≤ sizeLine; decide, fun pi ni => ?_⟩
        have gi := (gC).same (same_upd (o := .tup ([("seq" : Str), "or"].map V.str)) ni)
        have si := same_upd (o := .tup ([("seq" : Str), "or"].map V.str)) ni
        refine ⟨pi, [("seq" : Str), "or"].map V.str, rfl, .inr (.inl (.inl upd_same)), rfl, flat_strs _, _, rfl, ?_⟩
        rw [inV_strs]
        change Go D H (upd HC pi (.tup [V.str "seq", V.str "or"])) at gi
        change Same HC (upd HC pi (.tup [V.str "seq", V.str "or"])) at si
        generalize upd HC pi (.tup [V.str "seq", V.str "or"]) = HI at gi si ⊢
        refine iteT ?_
        refine ⟨_, rfl, D, 3, rfl, gi.2, by omega, by omega, fun r HE r0 r1 gE fE => ?_⟩
        refine ⟨_, rfl, rfl, .inr ⟨_, rfl, ?_⟩⟩
        refine ⟨_, _, rfl, rfl, ?_⟩
        obtain ⟨M, rfl⟩ : ∃ M : Nat, r = (M : Int) := ⟨r.toNat, by omega⟩
        have hd : decide (V.str ("seq" : Str) = V.str "or") = false := by decide +kernel
        rw [hd]
        simp only [Bool.false_eq_true, if_false, if_true, Int.add_zero]
        have gE2 := gi.trans gE
        refine ⟨_, rfl, _, rfl, by omega, by omega, fun L nL => ?_⟩
        have nLD := gE2.2.ne nL
        have nL0 : H L = none := by
          cases e : H L with
          | none => rfl
          | some o =>
            rw [gE2.1 _ _ nLD e] at nL
            cases nL
        refine lc_range (lo := 0) (n := (M : Int).toNat) (fun i H' => Go D H H' ∧ ∃ (vs : List V) (us : List Tm), us.length = i ∧ H' L = some (.lst vs) ∧ DpAll K H' vs (datas us) ∧ ∀ u ∈ us, GF m tb own u ∧ u.isW = false ∧ u.deep ≤ n ∧ u.count ≤ cb n) ⟨gE2.upd nL0 nLD, [], [], rfl, upd_same, .nil, (fun _ h => nomatch h)⟩ (fun i H5 hi h => ?_) (fun H5 h => ?_)
        · obtain ⟨g5, vs, us, lu, eL, ru, hu⟩ := h
          refine ⟨rfl, _, rfl, _, rfl, _, rfl, _, rfl, _, rfl, _, _, rfl, rfl, ?_⟩
          refine ⟨D, ta, m, tb, ov, own, congrArg (fun z => [V.ref D, V.int m, V.ref ta, ov, V.int z]) (by omega : ((n + 1 : Nat) : Int) - 1 = (n : Int)), ak.go g5, hn, by omega, fun v H6 t g6 gt => ?_⟩
          have eL6 := g6.1 _ _ nLD eL
          have st := Stay.set (ys := vs ++ [v]) eL6
          have tk6 := (g6.tk g5.2).trans (.stay st)
          refine ⟨vs, eL6, ?_, (g5.trans g6).upd nL0 nLD, vs ++ [v], us ++ [t], ?_, upd_same, ?_, ?_⟩
          · rw [DpAll.len ru, datas_len, lu]
            exact small1000 (by omega)
          · rw [List.length_append, lu]
            rfl
          · rw [datas_app]
            exact DpAll.app (DpAll.tk tk6 (noL_datas _) ru) (.cons (Dp.tk (.stay st) t.noL gt.dp) .nil)
          · intro u h
            rcases List.mem_append.mp h with h | h
            · exact hu u h
            · rw [List.mem_singleton.mp h]
              exact ⟨gt.good, gt.kind, gt.deep, gt.few⟩
        · obtain ⟨g5, vs, us, lu, eL, ru, hu⟩ := h
          have lv : vs.length = us.length := by rw [DpAll.len ru, datas_len]
          refine ⟨_, rfl, by show 1 ≤ sizeLine; decide, fun p6 n6' => ?_⟩
          have s6 := same_upd (o := .tup [V.str "seq"]) n6'
          have eL6 := s6 _ _ eL
          refine ⟨_, rfl, L, vs, rfl, .inl ⟨.inl (.inl eL6), fun p7 n7 => ?_⟩⟩
          have s7 := same_upd (o := .tup vs) n7
          refine cat_tup (Same.sqT s7 (.inl (.inl upd_same))) (.inl (.inl upd_same)) (List.cons_ne_nil _ _) (by show 1 + vs.length < 16000; omega) fun G p8 s8 sq8 => ?_
          have s9 := (s6.trans s7).trans s8
          obtain ⟨t, gt⟩ := got_seq (K := K) (H := G) (own := own) false (fun z => nomatch z) sq8 (DpAll.tk (.of s9) (noL_datas _) ru) hu (by omega)
          exact q _ _ t (g5.same s9) gt
      · -- or
        refine ⟨_, rfl, rfl, _, rfl, iteF ?_⟩
        refine ⟨_, rfl, by show 2 ≤ sizeLine; decide, fun pi ni => ?_⟩
        have gi := (gC).same (same_upd (o := .tup ([("seq" : Str), "or"].map V.str)) ni)
        have si := same_upd (o := .tup ([("seq" : Str), "or"].map V.str)) ni
        refine ⟨pi, [("seq" : Str), "or"].map V.str, rfl, .inr (.inl (.inl upd_same)), rfl, flat_strs _, _, rfl, ?_⟩
        rw [inV_strs]
        change Go D H (upd HC pi (.tup [V.str "seq", V.str "or"])) at gi
        change Same HC (upd HC pi (.tup [V.str "seq", V.str "or"])) at si
        generalize upd HC pi (.tup [V.str "seq", V.str "or"]) = HI at gi si ⊢
        refine iteT ?_
        refine ⟨_, rfl, D, 3, rfl, gi.2, by omega, by omega, fun r HE r0 r1 gE fE => ?_⟩
        refine ⟨_, rfl, rfl, .inr ⟨_, rfl, ?_⟩⟩
        refine ⟨_, _, rfl, rfl, ?_⟩
        obtain ⟨M, rfl⟩ : ∃ M : Nat, r = (M : Int) := ⟨r.toNat, by omega⟩
        have hd : decide (V.str ("or" : Str) = V.str "or") = true := by decide +kernel
        rw [hd]
        simp only [Bool.false_eq_true, if_false, if_true, Int.add_zero]
        have gE2 := gi.trans gE
        refine ⟨_, rfl, _, rfl, by omega, by omega, fun L nL => ?_⟩
        have nLD := gE2.2.ne nL
        have nL0 : H L = none := by
          cases e : H L with
          | none => rfl
          | some o =>
            rw [gE2.1 _ _ nLD e] at nL
            cases nL
        refine lc_range (lo := 0) (n := ((M : Int) + 1).toNat) (fun i H' => Go D H H' ∧ ∃ (vs : List V) (us : List Tm), us.length = i ∧ H' L = some (.lst vs) ∧ DpAll K H' vs (datas us) ∧ ∀ u ∈ us, GF m tb own u ∧ u.isW = false ∧ u.deep ≤ n ∧ u.count ≤ cb n) ⟨gE2.upd nL0 nLD, [], [], rfl, upd_same, .nil, (fun _ h => nomatch h)⟩ (fun i H5 hi h => ?_) (fun H5 h => ?_)
        · obtain ⟨g5, vs, us, lu, eL, ru, hu⟩ := h
          refine ⟨rfl, _, rfl, _, rfl, _, rfl, _, rfl, _, rfl, _, _, rfl, rfl, ?_⟩
          refine ⟨D, ta, m, tb, ov, own, congrArg (fun z => [V.ref D, V.int m, V.ref ta, ov, V.int z]) (by omega : ((n + 1 : Nat) : Int) - 1 = (n : Int)), ak.go g5, hn, by omega, fun v H6 t g6 gt => ?_⟩
          have eL6 := g6.1 _ _ nLD eL
          have st := Stay.set (ys := vs ++ [v]) eL6
          have tk6 := (g6.tk g5.2).trans (.stay st)
          refine ⟨vs, eL6, ?_, (g5.trans g6).upd nL0 nLD, vs ++ [v], us ++ [t], ?_, upd_same, ?_, ?_⟩
          · rw [DpAll.len ru, datas_len, lu]
            exact small1000 (by omega)
          · rw [List.length_append, lu]
            rfl
          · rw [datas_app]
            exact DpAll.app (DpAll.tk tk6 (noL_datas _) ru) (.cons (Dp.tk (.stay st) t.noL gt.dp) .nil)
          · intro u h
            rcases List.mem_append.mp h with h | h
            · exact hu u h
            · rw [List.mem_singleton.mp h]
              exact ⟨gt.good, gt.kind, gt.deep, gt.few⟩
        · obtain ⟨g5, vs, us, lu, eL, ru, hu⟩ := h
          have lv : vs.length = us.length := by rw [DpAll.len ru, datas_len]
          refine ⟨_, rfl, by show 1 ≤ sizeLine; decide, fun p6 n6' => ?_⟩
          have s6 := same_upd (o := .tup [V.str "or"]) n6'
          have eL6 := s6 _ _ eL
          refine ⟨_, rfl, L, vs, rfl, .inl ⟨.inl (.inl eL6), fun p7 n7 => ?_⟩⟩
          have s7 := same_upd (o := .tup vs) n7
          refine cat_tup (Same.sqT s7 (.inl (.inl upd_same))) (.inl (.inl upd_same)) (List.cons_ne_nil _ _) (by show 1 + vs.length < 16000; omega) fun G p8 s8 sq8 => ?_
          have s9 := (s6.trans s7).trans s8
          obtain ⟨t, gt⟩ := got_seq (K := K) (H := G) (own := own) true (fun _ => by omega) sq8 (DpAll.tk (.of s9) (noL_datas _) ru) hu (by omega)
          exact q _ _ t (g5.same s9) gt
      · -- call
        refine ⟨_, rfl, rfl, _, rfl, iteF ?_⟩
        refine ⟨_, rfl, by show 2 ≤ sizeLine; decide, fun pi ni => ?_⟩
        have gi := (gC).same (same_upd (o := .tup ([("seq" : Str), "or"].map V.str)) ni)
        have si := same_upd (o := .tup ([("seq" : Str), "or"].map V.str)) ni
        refine ⟨pi, [("seq" : Str), "or"].map V.str, rfl, .inr (.inl (.inl upd_same)), rfl, flat_strs _, _, rfl, ?_⟩
        rw [inV_strs]
        change Go D H (upd HC pi (.tup [V.str "seq", V.str "or"])) at gi
        change Same HC (upd HC pi (.tup [V.str "seq", V.str "or"])) at si
        generalize upd HC pi (.tup [V.str "seq", V.str "or"]) = HI at gi si ⊢
        refine iteF ?_
        refine ⟨_, rfl, rfl, _, rfl, iteT ?_⟩
        have akC := ak.go gi
        obtain ⟨kvs, ht, tv, t8⟩ := akC.tab
        refine ⟨_, rfl, _, rfl, ta, kvs, tb.map (·.1), rfl, .of ht, tv.keys, by rw [List.length_map]; omega, fun ys p3 pm so n3 => ?_⟩
        have s3 := same_upd (o := .lst (ys.map V.str)) n3
        have e3 : upd HI p3 (.lst (ys.map V.str)) p3 = some (.lst (ys.map V.str)) := upd_same
        have np3 := gi.2.ne n3
        generalize upd HI p3 (.lst (ys.map V.str)) = H3 at s3 e3 ⊢
        have g3 := gi.same s3
        have ht3 := s3 _ _ ht
        have tv3 := tv.tk (.of s3)
        have ly : ys.length ≤ 8 := by rw [pm.length_eq, List.length_map]; exact t8
        have ne : ys.map V.str ≠ [] := fun z => by
          have l1 : ys.length = 0 := by rw [← List.length_map (f := V.str), z]; rfl
          have l2 := pm.length_eq
          rw [List.length_map] at l2
          exact ak.ne (List.eq_nil_of_length_eq_zero (by omega))
        refine ⟨D, p3, _, g3.2, rfl, .inl (.inl e3), np3, ne, by rw [List.length_map]; omega, fun v H8 hv8 g8 f8 => ?_⟩
        obtain ⟨nm, hnm, rfl⟩ := List.mem_map.mp hv8
        have gg8 := g3.trans g8
        have ht8 := f8 ta (fun z => by
          subst z
          obtain ⟨x, y, w', q'⟩ := g3.2
          rw [ht3] at q'
          cases q')
        rw [ht3] at ht8
        obtain ⟨v, o, hv, dv, po', mo, wd, lk⟩ := (tv3.tk (g8.tk g3.2)).get (pm.mem_iff.mp hnm)
        obtain ⟨av, xs, rfl, sv, rv⟩ := Dp.tup_inv (show Dp K H8 v (.tuple (o.map parD)) from dv)
        have lo : xs.length = o.length := by rw [DpAll.len rv, List.length_map]
        have dg : DGet H8 ta (.str nm) (some (V.ref av)) := hv ▸ DGet.k (k := Sum.inr nm) ht8
        have o3 := po'.few
        clear hv8 g8 f8 g3 e3 ht3 tv3 hv ht tv akC s3
        refine ⟨_, rfl, _, rfl, ta, _, rfl, dg, av, rfl, ⟨xs, sv⟩, fun LK nLK => ?_⟩
        refine lc_tup (xs := xs) (fun i H' => Same H8 H' ∧ H' LK = some (.lst ((((o.take i).map (·.2)).map kd).map V.str))) ⟨same_upd nLK, upd_same⟩ (fun i H' hi h => Same.sqT h.1 sv) (fun i x G1 hx h => ?_) (fun G1 h => ?_)
        · obtain ⟨sm, eK⟩ := h
          obtain ⟨d, hd, dx'⟩ := DpAll.get (DpAll.stay (.of sm) (pars_noL o) rv) hx
          rw [List.getElem?_map] at hd
          obtain ⟨z, hz, rfl⟩ := Option.map_eq_some_iff.mp hd
          have li := (List.getElem?_eq_some_iff.mp hx).1
          obtain ⟨b, ys2, rfl, sb, rb⟩ := Dp.tup_inv (show Dp K G1 x (.tuple [.str z.1, .str (kd z.2)]) from dx')
          cases rb with
          | cons y1 rb => cases rb with
            | cons y2 rb =>
            cases rb
            cases Dp.str_inv y1
            cases Dp.str_inv y2
            refine ⟨rfl, _, rfl, b, _, 1, _, rfl, rfl, sb, at1, _, eK, ?_, Same.set sm nLK, ?_⟩
            · rw [List.length_map, List.length_map, List.length_map, List.length_take]
              exact Nat.lt_of_le_of_lt (Nat.min_le_left _ _) (small1000 (by omega))
            · rw [upd_same, take_more hz, List.map_append, List.map_append, List.map_append]
              rfl
        · obtain ⟨sm, eK⟩ := h
          rw [lo, List.take_length] at eK
          have gg10 := gg8.same sm
          have nKD := gg8.2.ne nLK
          refine ⟨_, rfl, _, rfl, _, rfl, _, rfl, _, rfl, _, rfl, _, _, rfl, rfl, ?_⟩
          refine ⟨D, ta, LK, m, tb, ov, own, o.map (·.2), congrArg (fun z => [V.ref D, V.int m, V.ref ta, ov, V.ref LK, V.int z]) (by omega : ((n + 1 : Nat) : Int) - 1 = (n : Int)), ak.go gg10, by omega, eK, nKD, by rw [List.length_map]; omega, fun G2 g11 => ?_, fun pg vs' us G2 g11 sg rg gv => ?_⟩
          · refine ⟨_, rfl, rfl, _, rfl, iteF ?_⟩
            refine ⟨_, rfl, rfl, _, rfl, iteF ?_⟩
            refine ⟨_, rfl, _, rfl, D, m, rfl, (gg10.trans g11).2, ak.m1, ak.m3, fun v G9 t g9 gt => ?_⟩
            exact q v G9 t ((gg10.trans g11).trans g9) (got_up (gt tb own))
          · refine ⟨_, rfl, rfl, _, rfl, iteT ?_⟩
            refine ⟨_, rfl, by show 2 ≤ sizeLine; decide, fun p12 n12 => ?_⟩
            have s12 := same_upd (o := .tup [V.str "call", V.str nm]) n12
            refine ⟨_, rfl, ?_⟩
            have lv : vs'.length ≤ 3 := by
              rw [DpAll.len rg, datas_len, ← List.length_map (f := Tm.isW), gv.2, List.length_map]
              omega
            refine cat_tup (.inl (.inl upd_same)) (Same.sqT s12 sg) (List.cons_ne_nil _ _) (by show 2 + vs'.length < 16000; omega) fun G3 p13 s13 sq13 => ?_
            have s14 := s12.trans s13
            obtain ⟨t, gt⟩ := got_call (K := K) (H := G3) (own := own) false wd sq13 (DpAll.tk (.of s14) (noL_datas _) rg) gv (by rw [List.length_map]; omega) (by rw [lk]; rfl)
            exact q _ _ t ((gg10.trans g11).same s14) gt
      · -- wrap
        refine ⟨_, rfl, rfl, _, rfl, iteF ?_⟩
        refine ⟨_, rfl, by show 2 ≤ sizeLine; decide, fun pi ni => ?_⟩
        have gi := (gC).same (same_upd (o := .tup ([("seq" : Str), "or"].map V.str)) ni)
        have si := same_upd (o := .tup ([("seq" : Str), "or"].map V.str)) ni
        refine ⟨pi, [("seq" : Str), "or"].map V.str, rfl, .inr (.inl (.inl upd_same)), rfl, flat_strs _, _, rfl, ?_⟩
        rw [inV_strs]
        change Go D H (upd HC pi (.tup [V.str "seq", V.str "or"])) at gi
        change Same HC (upd HC pi (.tup [V.str "seq", V.str "or"])) at si
        generalize upd HC pi (.tup [V.str "seq", V.str "or"]) = HI at gi si ⊢
        refine iteF ?_
        refine ⟨_, rfl, rfl, _, rfl, iteF ?_⟩
        refine ⟨_, rfl, rfl, _, rfl, iteT ?_⟩
        refine ⟨_, rfl, _, rfl, _, rfl, _, rfl, _, rfl, _, _, rfl, rfl, ?_⟩
        refine ⟨D, ta, m, tb, ov, own, congrArg (fun z => [V.ref D, V.int m, V.ref ta, ov, V.int z]) (by omega : ((n + 1 : Nat) : Int) - 1 = (n : Int)), ak.go gi, hn, by omega, fun H5 g5 => ?_, fun v1 H5 t1 g5 gt1 => ?_⟩
        · refine ⟨_, rfl, rfl, _, rfl, iteF ?_⟩
          refine ⟨_, rfl, _, rfl, D, m, rfl, (gi.trans g5).2, ak.m1, ak.m3, fun v G9 t g9 gt => ?_⟩
          exact q v G9 t ((gi.trans g5).trans g9) (got_up (gt tb own))
        · have nv : (!decide (v1 = V.non)) = true := by
            rw [decide_eq_false (got_ne gt1)]
            rfl
          refine ⟨_, rfl, rfl, _, rfl, ?_⟩
          rw [nv]
          refine iteT ?_
          have g15 := gi.trans g5
          refine ⟨_, rfl, _, rfl, _, rfl, _, rfl, _, rfl, _, rfl, _, _, rfl, rfl, ?_⟩
          refine ⟨D, ta, m, tb, ov, own, congrArg (fun z => [V.ref D, V.int m, V.ref ta, ov, V.int z]) (by omega : ((n + 1 : Nat) : Int) - 1 = (n : Int)), ak.go g15, hn, by omega, fun v2 H6 t2 g6 gt2 => ?_⟩
          refine ⟨by show 3 ≤ sizeLine; decide, fun p7 n7 => ?_⟩
          have s7 := same_upd (o := .tup [V.str "wrap", v1, v2]) n7
          obtain ⟨t, gt⟩ := got_wrap (K := K) (H := upd H6 p7 (.tup [V.str "wrap", v1, v2])) (own := own) (.inl (.inl upd_same)) (gt1.tk ((g6.tk g15.2).trans (.of s7))) (gt2.tk (.of s7))
          exact q _ _ t ((g15.trans g6).same s7) gt
    · have hn1 : 1 ≤ n := by
        have := of_decide_eq_true ed
        omega
      have hw : wy0 = "do" ∨ wy0 = "run" ∨ ((wy0 = "seq" ∨ wy0 = "or" ∨ wy0 = "call" ∨ wy0 = "wrap") ∧ 1 ≤ n) := by
        rcases hwy with h | h | h | h | h | h
        · exact .inl h
        · exact .inr (.inl h)
        · exact .inr (.inr ⟨.inl h, hn1⟩)
        · exact .inr (.inr ⟨.inr (.inl h), hn1⟩)
        · exact .inr (.inr ⟨.inr (.inr (.inl h)), hn1⟩)
        · exact .inr (.inr ⟨.inr (.inr (.inr h)), hn1⟩)
      have gH := gA1
      refine ⟨_, rfl, ?_⟩
      have akH := ak.go gH
      refine ⟨_, rfl, ov, own, false, rfl, akH.par, by have := po.few; omega, fun HC pb sC nb eb => ?_⟩
      have gC := gH.same sC
      have npb := gH.2.ne nb
      clear akH
      rcases hw with rfl | rfl | ⟨rfl | rfl | rfl | rfl, hn⟩
      · -- do
        refine ⟨_, rfl, rfl, _, rfl, iteF ?_⟩
        refine ⟨_, rfl, by show 2 ≤ sizeLine; decide, fun pi ni => ?_⟩
        have gi := (gC).same (same_upd (o := .tup ([("seq" : Str), "or"].map V.str)) ni)
        have si := same_upd (o := .tup ([("seq" : Str), "or"].map V.str)) ni
        refine ⟨pi, [("seq" : Str), "or"].map V.str, rfl, .inr (.inl (.inl upd_same)), rfl, flat_strs _, _, rfl, ?_⟩
        rw [inV_strs]
        change Go D H (upd HC pi (.tup [V.str "seq", V.str "or"])) at gi
        change Same HC (upd HC pi (.tup [V.str "seq", V.str "or"])) at si
        generalize upd HC pi (.tup [V.str "seq", V.str "or"]) = HI at gi si ⊢
        refine iteF ?_
        refine ⟨_, rfl, rfl, _, rfl, iteF ?_⟩
        refine ⟨_, rfl, rfl, _, rfl, iteF ?_⟩
        refine ⟨_, rfl, _, rfl, D, m, rfl, (gi).2, ak.m1, ak.m3, fun v G9 t g9 gt => ?_⟩
        exact q v G9 t ((gi).trans g9) (got_up (gt tb own))
      · -- run
        refine ⟨_, rfl, rfl, _, rfl, iteT ?_⟩
        refine ⟨_, rfl, Nat.zero_le _, fun p3 n3 => ?_⟩
        refine ne_nil (same_upd n3 _ _ eb) upd_same (fun z hz => names_word po hz) ?_
        have gD := gC.same (same_upd (o := .lst []) n3)
        have eD := same_upd (o := .lst []) n3 _ _ eb
        generalize upd HC p3 (.lst []) = HD at gD eD ⊢
        refine ⟨_, rfl, ite2 (fun e => ?_) (fun e => ?_)⟩
        · have ne : (namesOf own false).map V.str ≠ [] := fun z => by
            cases hz : namesOf own false with
            | nil => rw [hz] at e; cases e
            | cons a b => rw [hz] at z; cases z
          refine ⟨_, rfl, _, rfl, D, pb, _, gD.2, rfl, .inl (.inl eD), npb, ne, by rw [List.length_map]; omega, fun v H4 hv g4 f4 => ?_⟩
          obtain ⟨z, hz, rfl⟩ := List.mem_map.mp hv
          refine ⟨by show 2 ≤ sizeLine; decide, fun p5 n5 => ?_⟩
          obtain ⟨t, gt⟩ := got_leaf (K := K) (H := upd H4 p5 (.tup [V.str "run", V.str z])) (k := false) n1 (.inl (.inl upd_same)) (names_ok hz)
          exact q _ _ t ((gD.trans g4).same (same_upd n5)) gt
        · refine ⟨_, rfl, by show 2 ≤ sizeLine; decide, fun pi ni => ?_⟩
          have gi := (gD).same (same_upd (o := .tup ([("seq" : Str), "or"].map V.str)) ni)
          have si := same_upd (o := .tup ([("seq" : Str), "or"].map V.str)) ni
          refine ⟨pi, [("seq" : Str), "or"].map V.str, rfl, .inr (.inl (.inl upd_same)), rfl, flat_strs _, _, rfl, ?_⟩
          rw [inV_strs]
          change Go D H (upd HD pi (.tup [V.str "seq", V.str "or"])) at gi
          change Same HD (upd HD pi (.tup [V.str "seq", V.str "or"])) at si
          generalize upd HD pi (.tup [V.str "seq", V.str "or"]) = HI at gi si ⊢
          refine iteF ?_
          refine ⟨_, rfl, rfl, _, rfl, iteF ?_⟩
          refine ⟨_, rfl, rfl, _, rfl, iteF ?_⟩
          refine ⟨_, rfl, _, rfl, D, m, rfl, (gi).2, ak.m1, ak.m3, fun v G9 t g9 gt => ?_⟩
          exact q v G9 t ((gi).trans g9) (got_up (gt tb own))
      · -- seq
        refine ⟨_, rfl, rfl, _, rfl, iteF ?_⟩
        refine ⟨_, rfl, by show 2 ≤ sizeLine; decide, fun pi ni => ?_⟩
        have gi := (gC).same (same_upd (o := .tup ([("seq" : Str), "or"].map V.str)) ni)
        have si := same_upd (o := .tup ([("seq" : Str), "or"].map V.str)) ni
        refine ⟨pi, [("seq" : Str), "or"].map V.str, rfl, .inr (.inl (.inl upd_same)), rfl, flat_strs _, _, rfl, ?_⟩
        rw [inV_strs]
        change Go D H (upd HC pi (.tup [V.str "seq", V.str "or"])) at gi
        change Same HC (upd HC pi (.tup [V.str "seq", V.str "or"])) at si
        generalize upd HC pi (.tup [V.str "seq", V.str "or"]) = HI at gi si ⊢
        refine iteT ?_
        refine ⟨_, rfl, D, 3, rfl, gi.2, by omega, by omega, fun r HE r0 r1 gE fE => ?_⟩
        refine ⟨_, rfl, rfl, .inr ⟨_, rfl, ?_⟩⟩
        refine ⟨_, _, rfl, rfl, ?_⟩
        obtain ⟨M, rfl⟩ : ∃ M : Nat, r = (M : Int) := ⟨r.toNat, by omega⟩
        have hd : decide (V.str ("seq" : Str) = V.str "or") = false := by decide +kernel
        rw [hd]
        simp only [Bool.false_eq_true, if_false, if_true, Int.add_zero]
        have gE2 := gi.trans gE
        refine ⟨_, rfl, _, rfl, by omega, by omega, fun L nL => ?_⟩
        have nLD := gE2.2.ne nL
        have nL0 : H L = none := by
          cases e : H L with
          | none => rfl
          | some o =>
            rw [gE2.1 _ _ nLD e] at nL
            cases nL
        refine lc_range (lo := 0) (n := (M : Int).toNat) (fun i H' => Go D H H' ∧ ∃ (vs : List V) (us : List Tm), us.length = i ∧ H' L = some (.lst vs) ∧ DpAll K H' vs (datas us) ∧ ∀ u ∈ us, GF m tb own u ∧ u.isW = false ∧ u.deep ≤ n ∧ u.count ≤ cb n) ⟨gE2.upd nL0 nLD, [], [], rfl, upd_same, .nil, (fun _ h => nomatch h)⟩ (fun i H5 hi h => ?_) (fun H5 h => ?_)
        · obtain ⟨g5, vs, us, lu, eL, ru, hu⟩ := h
          refine ⟨rfl, _, rfl, _, rfl, _, rfl, _, rfl, _, rfl, _, _, rfl, rfl, ?_⟩
          refine ⟨D, ta, m, tb, ov, own, congrArg (fun z => [V.ref D, V.int m, V.ref ta, ov, V.int z]) (by omega : ((n + 1 : Nat) : Int) - 1 = (n : Int)), ak.go g5, hn, by omega, fun v H6 t g6 gt => ?_⟩
          have eL6 := g6.1 _ _ nLD eL
          have st := Stay.set (ys := vs ++ [v]) eL6
          have tk6 := (g6.tk g5.2).trans (.stay st)
          refine ⟨vs, eL6, ?_, (g5.trans g6).upd nL0 nLD, vs ++ [v], us ++ [t], ?_, upd_same, ?_, ?_⟩
          · rw [DpAll.len ru, datas_len, lu]
            exact small1000 (by omega)
          · rw [List.length_append, lu]
            rfl
          · rw [datas_app]
            exact DpAll.app (DpAll.tk tk6 (noL_datas _) ru) (.cons (Dp.tk (.stay st) t.noL gt.dp) .nil)
          · intro u h
            rcases List.mem_append.mp h with h | h
            · exact hu u h
            · rw [List.mem_singleton.mp h]
              exact ⟨gt.good, gt.kind, gt.deep, gt.few⟩
        · obtain ⟨g5, vs, us, lu, eL, ru, hu⟩ := h
          have lv : vs.length = us.length := by rw [DpAll.len ru, datas_len]
          refine ⟨_, rfl, by show 1 ≤ sizeLine; decide, fun p6 n6' => ?_⟩
          have s6 := same_upd (o := .tup [V.str "seq"]) n6'
          have eL6 := s6 _ _ eL
          refine ⟨_, rfl, L, vs, rfl, .inl ⟨.inl (.inl eL6), fun p7 n7 => ?_⟩⟩
          have s7 := same_upd (o := .tup vs) n7
          refine cat_tup (Same.sqT s7 (.inl (.inl upd_same))) (.inl (.inl upd_same)) (List.cons_ne_nil _ _) (by show 1 + vs.length < 16000; omega) fun G p8 s8 sq8 => ?_
          have s9 := (s6.trans s7).trans s8
          obtain ⟨t, gt⟩ := got_seq (K := K) (H := G) (own := own) false (fun z => nomatch z) sq8 (DpAll.tk (.of s9) (noL_datas _) ru) hu (by omega)
          exact q _ _ t (g5.same s9) gt
      · -- or
        refine ⟨_, rfl, rfl, _, rfl, iteF ?_⟩
        refine ⟨_, rfl, by show 2 ≤ sizeLine; decide, fun pi ni => ?_⟩
        have gi := (gC).same (same_upd (o := .tup ([("seq" : Str), "or"].map V.str)) ni)
        have si := same_upd (o := .tup ([("seq" : Str), "or"].map V.str)) ni
        refine ⟨pi, [("seq" : Str), "or"].map V.str, rfl, .inr (.inl (.inl upd_same)), rfl, flat_strs _, _, rfl, ?_⟩
        rw [inV_strs]
        change Go D H (upd HC pi (.tup [V.str "seq", V.str "or"])) at gi
        change Same HC (upd HC pi (.tup [V.str "seq", V.str "or"])) at si
        generalize upd HC pi (.tup [V.str "seq", V.str "or"]) = HI at gi si ⊢
        refine iteT ?_
        refine ⟨_, rfl, D, 3, rfl, gi.2, by omega, by omega, fun r HE r0 r1 gE fE => ?_⟩
        refine ⟨_, rfl, rfl, .inr ⟨_, rfl, ?_⟩⟩
        refine ⟨_, _, rfl, rfl, ?_⟩
        obtain ⟨M, rfl⟩ : ∃ M : Nat, r = (M : Int) := ⟨r.toNat, by omega⟩
        have hd : decide (V.str ("or" : Str) = V.str "or") = true := by decide +kernel
        rw [hd]
        simp only [Bool.false_eq_true, if_false, if_true, Int.add_zero]
        have gE2 := gi.trans gE
        refine ⟨_, rfl, _, rfl, by omega, by omega, fun L nL => ?_⟩
        have nLD := gE2.2.ne nL
        have nL0 : H L = none := by
          cases e : H L with
          | none => rfl
          | some o =>
            rw [gE2.1 _ _ nLD e] at nL
            cases nL
        refine lc_range (lo := 0) (n := ((M : Int) + 1).toNat) (fun i H' => Go D H H' ∧ ∃ (vs : List V) (us : List Tm), us.length = i ∧ H' L = some (.lst vs) ∧ DpAll K H' vs (datas us) ∧ ∀ u ∈ us, GF m tb own u ∧ u.isW = false ∧ u.deep ≤ n ∧ u.count ≤ cb n) ⟨gE2.upd nL0 nLD, [], [], rfl, upd_same, .nil, (fun _ h => nomatch h)⟩ (fun i H5 hi h => ?_) (fun H5 h => ?_)
        · obtain ⟨g5, vs, us, lu, eL, ru, hu⟩ := h
          refine ⟨rfl, _, rfl, _, rfl, _, rfl, _, rfl, _, rfl, _, _, rfl, rfl, ?_⟩
          refine ⟨D, ta, m, tb, ov, own, congrArg (fun z => [V.ref D, V.int m, V.ref ta, ov, V.int z]) (by omega : ((n + 1 : Nat) : Int) - 1 = (n : Int)), ak.go g5, hn, by omega, fun v H6 t g6 gt => ?_⟩
          have eL6 := g6.1 _ _ nLD eL
          have st := Stay.set (ys := vs ++ [v]) eL6
          have tk6 := (g6.tk g5.2).trans (.stay st)
          refine ⟨vs, eL6, ?_, (g5.trans g6).upd nL0 nLD, vs ++ [v], us ++ [t], ?_, upd_same, ?_, ?_⟩
          · rw [DpAll.len ru, datas_len, lu]
            exact small1000 (by omega)
          · rw [List.length_append, lu]
            rfl
          · rw [datas_app]
            exact DpAll.app (DpAll.tk tk6 (noL_datas _) ru) (.cons (Dp.tk (.stay st) t.noL gt.dp) .nil)
          · intro u h
            rcases List.mem_append.mp h with h | h
            · exact hu u h
            · rw [List.mem_singleton.mp h]
              exact ⟨gt.good, gt.kind, gt.deep, gt.few⟩
        · obtain ⟨g5, vs, us, lu, eL, ru, hu⟩ := h
          have lv : vs.length = us.length := by rw [DpAll.len ru, datas_len]
          refine ⟨_, rfl, by show 1 ≤ sizeLine; decide, fun p6 n6' => ?_⟩
          have s6 := same_upd (o := .tup [V.str "or"]) n6'
          have eL6 := s6 _ _ eL
          refine ⟨_, rfl, L, vs, rfl, .inl ⟨.inl (.inl eL6), fun p7 n7 => ?_⟩⟩
          have s7 := same_upd (o := .tup vs) n7
          refine cat_tup (Same.sqT s7 (.inl (.inl upd_same))) (.inl (.inl upd_same)) (List.cons_ne_nil _ _) (by show 1 + vs.length < 16000; omega) fun G p8 s8 sq8 => ?_
          have s9 := (s6.trans s7).trans s8
          obtain ⟨t, gt⟩ := got_seq (K := K) (H := G) (own := own) true (fun _ => by omega) sq8 (DpAll.tk (.of s9) (noL_datas _) ru) hu (by omega)
          exact q _ _ t (g5.same s9) gt
      · -- call
        refine ⟨_, rfl, rfl, _, rfl, iteF ?_⟩
        refine ⟨_, rfl, by show 2 ≤ sizeLine; decide, fun pi ni => ?_⟩
        have gi := (gC).same (same_upd (o := .tup ([("seq" : Str), "or"].map V.str)) ni)
        have si := same_upd (o := .tup ([("seq" : Str), "or"].map V.str)) ni
        refine ⟨pi, [("seq" : Str), "or"].map V.str, rfl, .inr (.inl (.inl upd_same)), rfl, flat_strs _, _, rfl, ?_⟩
        rw [inV_strs]
        change Go D H (upd HC pi (.tup [V.str "seq", V.str "or"])) at gi
        change Same HC (upd HC pi (.tup [V.str "seq", V.str "or"])) at si
        generalize upd HC pi (.tup [V.str "seq", V.str "or"]) = HI at gi si ⊢
        refine iteF ?_
        refine ⟨_, rfl, rfl, _, rfl, iteT ?_⟩
        have akC := ak.go gi
        obtain ⟨kvs, ht, tv, t8⟩ := akC.tab
        refine ⟨_, rfl, _, rfl, ta, kvs, tb.map (·.1), rfl, .of ht, tv.keys, by rw [List.length_map]; omega, fun ys p3 pm so n3 => ?_⟩
        have s3 := same_upd (o := .lst (ys.map V.str)) n3
        have e3 : upd HI p3 (.lst (ys.map V.str)) p3 = some (.lst (ys.map V.str)) := upd_same
        have np3 := gi.2.ne n3
        generalize upd HI p3 (.lst (ys.map V.str)) = H3 at s3 e3 ⊢
        have g3 := gi.same s3
        have ht3 := s3 _ _ ht
        have tv3 := tv.tk (.of s3)
        have ly : ys.length ≤ 8 := by rw [pm.length_eq, List.length_map]; exact t8
        have ne : ys.map V.str ≠ [] := fun z => by
          have l1 : ys.length = 0 := by rw [← List.length_map (f := V.str), z]; rfl
          have l2 := pm.length_eq
          rw [List.length_map] at l2
          exact ak.ne (List.eq_nil_of_length_eq_zero (by omega))
        refine ⟨D, p3, _, g3.2, rfl, .inl (.inl e3), np3, ne, by rw [List.length_map]; omega, fun v H8 hv8 g8 f8 => ?_⟩
        obtain ⟨nm, hnm, rfl⟩ := List.mem_map.mp hv8
        have gg8 := g3.trans g8
        have ht8 := f8 ta (fun z => by
          subst z
          obtain ⟨x, y, w', q'⟩ := g3.2
          rw [ht3] at q'
          cases q')
        rw [ht3] at ht8
        obtain ⟨v, o, hv, dv, po', mo, wd, lk⟩ := (tv3.tk (g8.tk g3.2)).get (pm.mem_iff.mp hnm)
        obtain ⟨av, xs, rfl, sv, rv⟩ := Dp.tup_inv (show Dp K H8 v (.tuple (o.map parD)) from dv)
        have lo : xs.length = o.length := by rw [DpAll.len rv, List.length_map]
        have dg : DGet H8 ta (.str nm) (some (V.ref av)) := hv ▸ DGet.k (k := Sum.inr nm) ht8
        have o3 := po'.few
        clear hv8 g8 f8 g3 e3 ht3 tv3 hv ht tv akC s3
        refine ⟨_, rfl, _, rfl, ta, _, rfl, dg, av, rfl, ⟨xs, sv⟩, fun LK nLK => ?_⟩
        refine lc_tup (xs := xs) (fun i H' => Same H8 H' ∧ H' LK = some (.lst ((((o.take i).map (·.2)).map kd).map V.str))) ⟨same_upd nLK, upd_same⟩ (fun i H' hi h => Same.sqT h.1 sv) (fun i x G1 hx h => ?_) (fun G1 h => ?_)
        · obtain ⟨sm, eK⟩ := h
          obtain ⟨d, hd, dx'⟩ := DpAll.get (DpAll.stay (.of sm) (pars_noL o) rv) hx
          rw [List.getElem?_map] at hd
          obtain ⟨z, hz, rfl⟩ := Option.map_eq_some_iff.mp hd
          have li := (List.getElem?_eq_some_iff.mp hx).1
          obtain ⟨b, ys2, rfl, sb, rb⟩ := Dp.tup_inv (show Dp K G1 x (.tuple [.str z.1, .str (kd z.2)]) from dx')
          cases rb with
          | cons y1 rb => cases rb with
            | cons y2 rb =>
            cases rb
            cases Dp.str_inv y1
            cases Dp.str_inv y2
            refine ⟨rfl, _, rfl, b, _, 1, _, rfl, rfl, sb, at1, _, eK, ?_, Same.set sm nLK, ?_⟩
            · rw [List.length_map, List.length_map, List.length_map, List.length_take]
              exact Nat.lt_of_le_of_lt (Nat.min_le_left _ _) (small1000 (by omega))
            · rw [upd_same, take_more hz, List.map_append, List.map_append, List.map_append]
              rfl
        · obtain ⟨sm, eK⟩ := h
          rw [lo, List.take_length] at eK
          have gg10 := gg8.same sm
          have nKD := gg8.2.ne nLK
          refine ⟨_, rfl, _, rfl, _, rfl, _, rfl, _, rfl, _, rfl, _, _, rfl, rfl, ?_⟩
          refine ⟨D, ta, LK, m, tb, ov, own, o.map (·.2), congrArg (fun z => [V.ref D, V.int m, V.ref ta, ov, V.ref LK, V.int z]) (by omega : ((n + 1 : Nat) : Int) - 1 = (n : Int)), ak.go gg10, by omega, eK, nKD, by rw [List.length_map]; omega, fun G2 g11 => ?_, fun pg vs' us G2 g11 sg rg gv => ?_⟩
          · refine ⟨_, rfl, rfl, _, rfl, iteF ?_⟩
            refine ⟨_, rfl, rfl, _, rfl, iteF ?_⟩
            refine ⟨_, rfl, _, rfl, D, m, rfl, (gg10.trans g11).2, ak.m1, ak.m3, fun v G9 t g9 gt => ?_⟩
            exact q v G9 t ((gg10.trans g11).trans g9) (got_up (gt tb own))
          · refine ⟨_, rfl, rfl, _, rfl, iteT ?_⟩
            refine ⟨_, rfl, by show 2 ≤ sizeLine; decide, fun p12 n12 => ?_⟩
            have s12 := same_upd (o := .tup [V.str "call", V.str nm]) n12
            refine ⟨_, rfl, ?_⟩
            have lv : vs'.length ≤ 3 := by
              rw [DpAll.len rg, datas_len, ← List.length_map (f := Tm.isW), gv.2, List.length_map]
              omega
            refine cat_tup (.inl (.inl upd_same)) (Same.sqT s12 sg) (List.cons_ne_nil _ _) (by show 2 + vs'.length < 16000; omega) fun G3 p13 s13 sq13 => ?_
            have s14 := s12.trans s13
            obtain ⟨t, gt⟩ := got_call (K := K) (H := G3) (own := own) false wd sq13 (DpAll.tk (.of s14) (noL_datas _) rg) gv (by rw [List.length_map]; omega) (by rw [lk]; rfl)
            exact q _ _ t ((gg10.trans g11).same s14) gt
      · -- wrap
        refine ⟨_, rfl, rfl, _, rfl, iteF ?_⟩
        refine ⟨_, rfl, by show 2 ≤ sizeLine; decide, fun pi ni => ?_⟩
        have gi := (gC).same (same_upd (o := .tup ([("seq" : Str), "or"].map V.str)) ni)
        have si := same_upd (o := .tup ([("seq" : Str), "or"].map V.str)) ni
        refine ⟨pi, [("seq" : Str), "or"].map V.str, rfl, .inr (.inl (.inl upd_same)), rfl, flat_strs _, _, rfl, ?_⟩
        rw [inV_strs]
        change Go D H (upd HC pi (.tup [V.str "seq", V.str "or"])) at gi
        change Same HC (upd HC pi (.tup [V.str "seq", V.str "or"])) at si
        generalize upd HC pi (.tup [V.str "seq", V.str "or"]) = HI at gi si ⊢
        refine iteF ?_
        refine ⟨_, rfl, rfl, _, rfl, iteF ?_⟩
        refine ⟨_, rfl, rfl, _, rfl, iteT ?_⟩
        refine ⟨_, rfl, _, rfl, _, rfl, _, rfl, _, rfl, _, _, rfl, rfl, ?_⟩
        refine ⟨D, ta, m, tb, ov, own, congrArg (fun z => [V.ref D, V.int m, V.ref ta, ov, V.int z]) (by omega : ((n + 1 : Nat) : Int) - 1 = (n : Int)), ak.go gi, hn, by omega, fun H5 g5 => ?_, fun v1 H5 t1 g5 gt1 => ?_⟩
        · refine ⟨_, rfl, rfl, _, rfl, iteF ?_⟩
          refine ⟨_, rfl, _, rfl, D, m, rfl, (gi.trans g5).2, ak.m1, ak.m3, fun v G9 t g9 gt => ?_⟩
          exact q v G9 t ((gi.trans g5).trans g9) (got_up (gt tb own))
        · have nv : (!decide (v1 = V.non)) = true := by
            rw [decide_eq_false (got_ne gt1)]
            rfl
          refine ⟨_, rfl, rfl, _, rfl, ?_⟩
          rw [nv]
          refine iteT ?_
          have g15 := gi.trans g5
          refine ⟨_, rfl, _, rfl, _, rfl, _, rfl, _, rfl, _, rfl, _, _, rfl, rfl, ?_⟩
          refine ⟨D, ta, m, tb, ov, own, congrArg (fun z => [V.ref D, V.int m, V.ref ta, ov, V.int z]) (by omega : ((n + 1 : Nat) : Int) - 1 = (n : Int)), ak.go g15, hn, by omega, fun v2 H6 t2 g6 gt2 => ?_⟩
          refine ⟨by show 3 ≤ sizeLine; decide, fun p7 n7 => ?_⟩
          have s7 := same_upd (o := .tup [V.str "wrap", v1, v2]) n7
          obtain ⟨t, gt⟩ := got_wrap (K := K) (H := upd H6 p7 (.tup [V.str "wrap", v1, v2])) (own := own) (.inl (.inl upd_same)) (gt1.tk ((g6.tk g15.2).trans (.of s7))) (gt2.tk (.of s7))
          exact q _ _ t ((g15.trans g6).same s7) gt
end
end FS

set_option Elab.async false
set_option linter.all false
set_option maxRecDepth 100000
set_option maxHeartbeats 4000000
namespace FS
open PySem PySem.Spec PyProof.Rows L2
section
variable {P : Program} {w : World} {K : PySem.W.Frag} {mg : Str → Option Value} {base : Heap}
theorem Cal.up {j k : Nat} {x : Str} {ps : List Str} {sp : Sp} (C : Cal P w K mg base j x ps sp) (h : j ≤ k) : Cal P w K mg base k x ps sp := by
  obtain ⟨f, fd, F, m, kp, b⟩ := C.ex
  exact ⟨f, fd, F.mono h, m, kp, b⟩
theorem no_all_in {f : Addr} {fd : FuncData} (F : Fun K "_law_all_in" "_law_all_in" s_law_all_in f fd) (T : Nm K mg) (m : mg "_law_all_in" = some (.ref f)) (kp : PySem.W.keepIn K (.ref f) = true) (b : Binds K fd ["_law_piece"] []) :
    ∀ n, Cal P w K mg base (1 + n) "_law_all_in" ["_law_piece"] (spAll K n)
  | 0 => by
    have no : ∀ {vs H Q E}, spAll K 0 vs H Q E → False := fun {vs H Q E} h => by
      obtain ⟨own, v, t, rfl, dp, gd, low, _⟩ := h
      obtain ⟨hd, ks⟩ := t
      have : deeps ks + 1 ≤ 0 := low
      omega
    exact ⟨f, fd, F.ok sc_law_all_in (fun vs H Q E h => (no h).elim) (fun cdv A outer s H vs Q E hr h => (no h).elim), m, kp, b⟩
  | n + 1 => ⟨f, fd, ok_l_all_in (k := 1 + n) F T (no_all_in F T m kp b n), m, kp, b⟩
abbrev ps5 : List Str := ["_law_die", "_law_modes", "_law_table", "_law_own", "_law_deep"]
abbrev ps6 : List Str := ["_law_die", "_law_modes", "_law_table", "_law_own", "_law_kinds", "_law_deep"]
theorem no_terms {f1 f2 f3 : Addr} {fd1 fd2 fd3 : FuncData} (F1 : Fun K "_law_any_term" "_law_any_term" s_law_any_term f1 fd1) (F2 : Fun K "_law_any_wrap" "_law_any_wrap" s_law_any_wrap f2 fd2) (F3 : Fun K "_law_any_given" "_law_any_given" s_law_any_given f3 fd3) (T : Nm K mg)
    (m1 : mg "_law_any_term" = some (.ref f1)) (m2 : mg "_law_any_wrap" = some (.ref f2)) (m3 : mg "_law_any_given" = some (.ref f3)) (k1 : PySem.W.keepIn K (.ref f1) = true) (k2 : PySem.W.keepIn K (.ref f2) = true) (k3 : PySem.W.keepIn K (.ref f3) = true)
    (b1 : Binds K fd1 ps5 []) (b2 : Binds K fd2 ps5 []) (b3 : Binds K fd3 ps6 []) (Cn : Cal P w K mg base 1 "_law_own_names" ["_law_own", "_law_kind"] (spOwn K)) (Cc : Cal P w K mg base 1 "_law_cast" ["_law_die", "_law_total"] spCast)
    (Cp : Cal P w K mg base 2 "_law_pick" ["_law_die", "_law_items"] (spPick K)) (Cd : Cal P w K mg base 3 "_law_any_deed" ["_law_die", "_law_modes"] (spDeed K)) :
    ∀ n, FnOk P w K mg base CX0 (4 + 2 * n) f1 fd1 ps5 (spTermD K n) ∧ Cal P w K mg base (4 + 2 * n) "_law_any_wrap" ps5 (spWrap K n) ∧ Cal P w K mg base (5 + 2 * n) "_law_any_given" ps6 (spGiven K n)
  | 0 => by
    have noT : ∀ {vs H Q E}, spTermD K 0 vs H Q E → False := fun {vs H Q E} h => by
      obtain ⟨D, ta, m, tb, ov, own, rfl, ak, n1, _⟩ := h
      omega
    have noW : ∀ {vs H Q E}, spWrap K 0 vs H Q E → False := fun {vs H Q E} h => by
      obtain ⟨D, ta, m, tb, ov, own, rfl, ak, n1, _⟩ := h
      omega
    have A0 : FnOk P w K mg base CX0 4 f1 fd1 ps5 (spTermD K 0) := FnOk.mono (j := 1) (F1.ok sc_law_any_term (fun vs H Q E h => (noT h).elim) (fun cdv A outer s H vs Q E hr h => (noT h).elim)) (by omega)
    have A1 : Cal P w K mg base 4 "_law_any_term" ps5 (spTermD K 0) := ⟨f1, fd1, A0, m1, k1, b1⟩
    have A2 : Cal P w K mg base 4 "_law_any_wrap" ps5 (spWrap K 0) := Cal.up (j := 1) ⟨f2, fd2, F2.ok sc_law_any_wrap (fun vs H Q E h => (noW h).elim) (fun cdv A outer s H vs Q E hr h => (noW h).elim), m2, k2, b2⟩ (by omega)
    exact ⟨A0, A2, ⟨f3, fd3, ok_l_any_given (k := 4) F3 T A2 A1, m3, k3, b3⟩⟩
  | n + 1 => by
    obtain ⟨A0, A2, A3⟩ := no_terms F1 F2 F3 T m1 m2 m3 k1 k2 k3 b1 b2 b3 Cn Cc Cp Cd n
    have A1 : Cal P w K mg base (4 + 2 * n) "_law_any_term" ps5 (spTermD K n) := ⟨f1, fd1, A0, m1, k1, b1⟩
    have B0 : FnOk P w K mg base CX0 (4 + 2 * (n + 1)) f1 fd1 ps5 (spTermD K (n + 1)) := (ok_l_any_term (k := 5 + 2 * n) F1 T (by omega) Cn Cc Cp Cd A3 (A2.up (by omega)) (A1.up (by omega))).mono (by omega)
    have B1 : Cal P w K mg base (4 + 2 * (n + 1)) "_law_any_term" ps5 (spTermD K (n + 1)) := ⟨f1, fd1, B0, m1, k1, b1⟩
    have B2 : Cal P w K mg base (4 + 2 * (n + 1)) "_law_any_wrap" ps5 (spWrap K (n + 1)) := ⟨f2, fd2, (ok_l_any_wrap (k := 5 + 2 * n) F2 T (by omega) Cn Cc Cp A3).mono (by omega), m2, k2, b2⟩
    exact ⟨B0, B2, ⟨f3, fd3, (ok_l_any_given (k := 4 + 2 * (n + 1)) F3 T B2 B1).mono (by omega), m3, k3, b3⟩⟩
/-- of some depth -/
def spTermU (K : PySem.W.Frag) : Sp := fun vs H Q E => ∃ n, 2 ≤ n ∧ n ≤ 4 ∧ spTermD K n vs H Q E
theorem cal_union {k : Nat} {x : Str} {ps : List Str} {sp : Nat → Sp} {f : Addr} {fd : FuncData} {S : Nat → Prop} (F : ∀ n, S n → FnOk P w K mg base CX0 k f fd ps (sp n)) : FnOk P w K mg base CX0 k f fd ps (fun vs H Q E => ∃ n, S n ∧ sp n vs H Q E) :=
  ⟨fun vs H Q E h => by
    obtain ⟨n, s, h⟩ := h
    exact (F n s).len vs H Q E h, fun A outer s H args us vs Q E hr he hb hv hs => by
    obtain ⟨n, sn, h⟩ := hs
    exact (F n sn).run A outer s H args us vs Q E hr he hb hv h⟩
end
/-- a drawn body -/
structure Body (K : PySem.W.Frag) (H : Hp) (m : Int) (tb : Tbl) (own : List (Str × Bool)) (v : V) (t : Tm) : Prop where
  dp : Dp K H v t.data
  good : Good own t
  kind : t.isW = false
  deep : t.deep ≤ 4
  few : t.count ≤ 40
  fits : GF m tb own t
theorem Body.tk {K : PySem.W.Frag} {H H' : Hp} {m : Int} {tb : Tbl} {own : List (Str × Bool)} {v : V} {t : Tm} (g : Body K H m tb own v t) (e : TK H H') : Body K H' m tb own v t := ⟨Dp.tk e t.noL g.dp, g.good, g.kind, g.deep, g.few, g.fits⟩
def spBody (K : PySem.W.Frag) : Sp := fun vs H Q _ => ∃ (D ta : Addr) (m : Int) (tb : Tbl) (ov : V) (own : List (Str × Bool)), vs = [.ref D, .int m, .ref ta, ov] ∧ Ask K H D ta m tb ov own ∧ ∀ v H' t, Go D H H' → Body K H' m tb own v t → Q v H'
theorem cb4 {n : Nat} (h : n ≤ 4) : cb n ≤ 40 := by
  have : ∀ n, n ≤ 4 → cb n ≤ 40 := by decide
  exact this n h
end FS

set_option Elab.async false
set_option linter.all false
set_option maxRecDepth 100000
set_option maxHeartbeats 4000000
/-! a tuple turned round -/
namespace FS
open PySem PySem.Spec PyProof.Rows L2 HT
theorem vals_rev {xs : List V} {its : List Value} (r : Vals xs its) : Vals xs.reverse its.reverse := by
  induction r with
  | nil => exact .nil
  | cons h _ ih =>
    rw [List.reverse_cons, List.reverse_cons]
    exact Paired.snoc ih h
theorem rev_adjust (n : Nat) : Builtin.Slice.sliceAdjust none none (-1) (n : Int) = ((n : Int) - 1, -1) := by
  unfold Builtin.Slice.sliceAdjust
  simp
theorem rev_places (n : Nat) : Builtin.Slice.slicePlaces ((n : Int) - 1) (-1) (-1) = n := by
  unfold Builtin.Slice.slicePlaces
  have h1 : ¬ ((-1 : Int) > 0) := by omega
  simp only [h1, if_false]
  by_cases h : ((n : Int) - 1) > -1
  · simp only [h, if_true]
    have e : ((n : Int) - 1 - -1 - 1) / (- -1) + 1 = (n : Int) := by
      show ((n : Int) - 1 - -1 - 1) / 1 + 1 = _
      rw [Int.ediv_one]
      omega
    rw [e]
    rfl
  · simp only [h, if_false]
    have : n = 0 := by omega
    subst this
    rfl
theorem fm_congrA {α β : Type} {f g : α → Option β} : ∀ {l : List α}, (∀ x ∈ l, f x = g x) → l.filterMap f = l.filterMap g
  | [], _ => rfl
  | x :: r, h => by
    rw [List.filterMap_cons, List.filterMap_cons, h x List.mem_cons_self, fm_congrA fun y hy => h y (List.mem_cons_of_mem _ hy)]
theorem rev_pick (xs : Array Value) : ((List.range xs.size).filterMap fun (m : Nat) => xs[(((xs.size : Int) - 1) + (m : Int) * (-1)).toNat]?).toArray = xs.toList.reverse.toArray := by
  have e : ((List.range xs.size).filterMap fun (m : Nat) => xs[(((xs.size : Int) - 1) + (m : Int) * (-1)).toNat]?) = (((List.range xs.size).map fun k => xs.size - 1 - k).filterMap (xs[·]?)) := by
    rw [List.filterMap_map]
    refine fm_congrA fun m hm => ?_
    have hm := List.mem_range.mp hm
    have : (((xs.size : Int) - 1) + (m : Int) * (-1)).toNat = xs.size - 1 - m := by omega
    rw [this]
    rfl
  rw [e, PySem.W.krv_range, List.filterMap_reverse, PySem.W.krv_all]
section
variable {prog : Program} {w : World} {A : Around} {E : Value → Shared → Prop} {s : Shared}
theorem rev_applied {sl : Addr} {vl vu vs : Value} {n : Nat} {Q : Int × Int × Nat → Shared → Prop} (hs : s.heap.IsSliceOf sl vl vu vs) (pl : IsPart vl none) (pu : IsPart vu none) (ps : IsPart vs (some (-1)))
    (h : Q ((n : Int) - 1, -1, n) s) : wpAny (model prog w) A (Builtin.Slice.sliceApplied (.ref sl) (pure (n : Int))) Q E s := by
  obtain ⟨os, hos, hcs, hds⟩ := id hs
  unfold Builtin.Slice.sliceApplied Builtin.Slice.sliceFields
  refine wpAny_bind (wpAny_bind (wpAny_field hos hds (x := vl) rfl (wpAny_bind (wpAny_field hos hds (x := vu) rfl (wpAny_bind (wpAny_field hos hds (x := vs) rfl (wpAny_pure ?_)))))))
  refine wpAny_bind (slicePart_ ps ?_)
  show wpAny _ _ (if ((-1 : Int) == 0) = true then _ else _) _ _ s
  rw [if_neg (by decide)]
  refine wpAny_bind (slicePart_ pl (wpAny_bind (slicePart_ pu (wpAny_bind (wpAny_pure ?_)))))
  show wpAny _ _ (match Builtin.Slice.sliceAdjust none none (-1) (n : Int) with | (lo, hi) => pure (lo, (-1 : Int), Builtin.Slice.slicePlaces lo hi (-1))) _ _ s
  rw [rev_adjust]
  show wpAny _ _ (pure ((n : Int) - 1, (-1 : Int), Builtin.Slice.slicePlaces ((n : Int) - 1) (-1) (-1))) _ _ s
  rw [rev_places]
  exact wpAny_pure h
theorem getItem_tuple_rev {t sl : Addr} {items : Array Value} {vl vu vs : Value} {Q : Value → Shared → Prop} (ht : IsTup s.heap t items) (hs : s.heap.IsSliceOf sl vl vu vs) (pl : IsPart vl none) (pu : IsPart vu none) (ps : IsPart vs (some (-1)))
    (h : Q (.ref s.heap.objs.size) { s with heap := s.heap.push { cls := .type "tuple", data := .seq items.toList.reverse.toArray } })
    (hsz : items.size ≤ sizeLine) : wpAny (model prog w) A (getItem (.ref t) (.ref sl)) Q E s := by
  have htake : sizeOk (.seq items.toList.reverse.toArray) := by
    show items.toList.reverse.toArray.size ≤ sizeLine
    rw [List.size_toArray, List.length_reverse, Array.length_toList]
    exact hsz
  obtain ⟨os, hos, hcs, hds⟩ := id hs
  have hTs : s.TypeIs (.ref sl) "slice" := ⟨os, hos, hcs⟩
  unfold getItem
  try with_reducible refine wpAny_holding ?_
  first | refine wpAny_bind (wpAny_pure ?_) | skip
  refine wpAny_bind (wpAny_sequenceKey ht.typeIs (by decide) ?_)
  refine wpAny_bind (wpAny_callSpecial?_slot (name := Str.ofString "__getitem__") ht.typeIs PyProof.Rows.slot_tuple_getitem
    (wpAny_call_entry PyProof.Rows.slot_tuple_getitem ht.typeIs entry_tuple_getitem ?_ (args_tuple_getitem _ _)))
  show wpAny _ _ (Builtin.Tuple.tupleItemsOf (.ref t) >>= _) _ _ s
  refine wpAny_bind (tupleItemsOf_ ht ?_)
  refine wpAny_bind (wpAny_typeOf hTs ?_)
  rw [if_pos (by decide)]
  refine wpAny_bind (rev_applied hs pl pu ps ?_)
  have hno : ¬ ((((items.size : Int) - 1) == 0 && (-1 : Int) == 1 && items.size == items.size) = true) := by
    intro q
    rw [Bool.and_eq_true, Bool.and_eq_true] at q
    exact absurd q.1.2 (by decide)
  show wpAny _ _ (if (((items.size : Int) - 1) == 0 && (-1 : Int) == 1 && items.size == items.size) = true then _ else _) _ _ s
  rw [if_neg hno, rev_pick]
  first
    | exact wpAny_bind (m := Builtin.Tuple.tupleExact _) (wpAny_newObj_type (wpAny_pure ⟨_, rfl, wpAny_pure h⟩) htake)
    | exact wpAny_bind (m := Builtin.Tuple.tupleExact _) (wpAny_newObj_type (wpAny_bind (wpAny_pure (wpAny_pure ⟨_, rfl, wpAny_pure h⟩))) htake)
    | exact wpAny_bind (wpAny_bind (m := Builtin.Tuple.tupleExact _) (wpAny_newObj_type (wpAny_pure (wpAny_pure ⟨_, rfl, wpAny_pure h⟩)) htake))
end
section
variable {X : Cx} {e k : Expr} {te tk : TE} {p2 pos : Pos}
def tRevT (K : PySem.W.Frag) (te : TE) : TE := fun σ H Q => te σ H fun x H1 => ∃ a xs, x = .ref a ∧ SqT K H1 a xs ∧ ∀ p, H1 p = none → Q (.ref p) (upd H1 p (.tup xs.reverse))
theorem pe_revT (he : PE X e te) (hk : ∀ σ H (Q : VK), Q (.int (-1)) H → tk σ H Q) (hs : PE X k tk) : PE X (.Subscript e (.Slice none none (some k) p2) pos) (tRevT X.K te) := by
  refine ⟨fun pins s σ H Q I h => ?_⟩
  refine Subscript_ (thn (he.run pins s σ H _ I h) fun v s1 ⟨x, H1, I1, r1, a, xs, ex, hx, q⟩ => ?_)
  subst ex
  cases r1
  refine wpAny_Slice (thn ((po_none (X := X)).run pins s1 σ H1 (fun l H2 => l = none ∧ H2 = H1) I1 ⟨rfl, rfl⟩) fun vl s2 ⟨l, H2, I2, pl, z2⟩ => ?_)
  obtain ⟨rfl, rfl⟩ := z2
  refine thn ((po_none (X := X)).run pins s2 σ H2 (fun l H3 => l = none ∧ H3 = H2) I2 ⟨rfl, rfl⟩) fun vu s3 ⟨u, H3, I3, pu, z3⟩ => ?_
  obtain ⟨rfl, rfl⟩ := z3
  refine thn ((po_some hs).run pins s3 σ H3 (fun l H4 => l = some (-1) ∧ H4 = H3) I3 (hk _ _ _ ⟨_, rfl, rfl, rfl⟩)) fun vs s4 ⟨st, H4, I4, ps, z4⟩ => ?_
  obtain ⟨rfl, rfl⟩ := z4
  let s5 : Shared := { s4 with heap := s4.heap.push { cls := .type "slice", data := .fields #[vl, vu, vs] } }
  have I5 : Inv X pins σ H4 s5 := I4.kept (t' := s4.toks) fun b ob q => Heap.get?_push_of_some _ q
  obtain ⟨its, r, ht, hz⟩ := I5.tuple hx
  have got : wpAny (model X.prog X.w) X.A (getItem (.ref a) (.ref s4.heap.objs.size)) (EP X pins σ Q) X.xe s5 := by
    refine getItem_tuple_rev ht (Heap.IsSliceOf.new s4.heap vl vu vs) pl pu ps ?_ (by rw [List.size_toArray, ← r.length]; exact hz)
    refine ⟨.ref s5.heap.objs.size, _, I5.laid (t' := s5.toks) (o := .tup xs.reverse) (fun b ob q => Heap.get?_push_of_some _ q) (Nat.le_refl _) ?_, rfl, q _ (I5.hok.fresh (Nat.le_refl _))⟩
    exact ⟨by rw [List.length_reverse]; exact hz, _, vals_rev r, IsTup.new _ _⟩
  exact tail_any (s := s5) (ops := [.ref a, .ref s4.heap.objs.size]) ht.typeIs PyProof.Rows.slot_tuple_getitem.lookup got rfl
end
end FS

set_option Elab.async false
set_option linter.all false
set_option maxRecDepth 100000
set_option maxHeartbeats 4000000
namespace FS
open PySem PySem.Spec PyProof.Rows L2
def spBentT (K : PySem.W.Frag) : Sp := fun vs H Q _ => ∃ (D a : Addr) (ov : V) (ds : List Dat) (od : Dat), vs = [.ref D, .ref a, ov] ∧ Die H D ∧ At K H D (.ref a) (.tup ds) ∧ At K H D ov od ∧ ds.length ≤ 3 ∧ ∀ H' v' d', Go D H H' → At K H' D v' d' → Q v' H'
def KLA (K : PySem.W.Frag) (H : Hp) (D : Addr) (xs : List V) : Prop := ∀ v ∈ xs, ∃ d', At K H D v d'
theorem KLA.go {K : PySem.W.Frag} {H H' : Hp} {D : Addr} {xs : List V} (y : Die H D) (g : Go D H H') (k : KLA K H D xs) : KLA K H' D xs := fun v h => by
  obtain ⟨e, a⟩ := k v h
  exact ⟨e, a.go y g⟩
theorem KLA.cons {K : PySem.W.Frag} {H : Hp} {D : Addr} {d' : Dat} {v : V} {xs : List V} (h : At K H D v d') (k : KLA K H D xs) : KLA K H D (v :: xs) := fun u hu => by
  rcases List.mem_cons.mp hu with rfl | hu
  · exact ⟨d', h⟩
  · exact k u hu
theorem KLA.nil {K : PySem.W.Frag} {H : Hp} {D : Addr} : KLA K H D [] := fun u h => nomatch h
theorem KLA.app {K : PySem.W.Frag} {H : Hp} {D : Addr} {xs ys : List V} (a : KLA K H D xs) (b : KLA K H D ys) : KLA K H D (xs ++ ys) := fun u hu => by
  rcases List.mem_append.mp hu with h | h
  · exact a u h
  · exact b u h
end FS

set_option Elab.async false
set_option linter.all false
set_option maxRecDepth 100000
set_option maxHeartbeats 4000000
namespace FS
open PySem PySem.Spec PyProof.Rows L2
section
variable {P : Program} {w : World} {K : PySem.W.Frag} {mg : Str → Option Value} {base : Heap}
abbrev N_law_right : List Str := ["_law_die", "_law_some", "_law_own", "_law_table", "_law_turn", "_law_body", "_law_value", "_law_due", "_law_made", "_law_odd", "_law_name"]
theorem sc_law_right : FnScope N_law_right ["_law_die"] (defScope s_law_right) := ⟨rfl, rfl, rfl, by decide +kernel, rfl, by decide +kernel, by decide +kernel⟩
theorem ok_l_right {f cF : Addr} {fd : FuncData} (F : FunC K "_law_right" "_law_right" s_law_right f fd cF) (T : Nm K mg) (b_repr : mg "repr" = none) {C CI PR : Addr} {TS : List (Addr × Str)} (TB : LamX.TabB base mg cF PR) (hmT : (PR, lamQ "_law_right") ∈ TS) (hu : ∀ p ∈ TS, p.1 = PR → p.2 = lamQ "_law_right") (MG : MetG K mg CI) (B : Bad K mg CI) (G : PrB P w K mg base C CI) (GT : CalX P w K mg base 6 "is_term" ["value", "parameters"] (spTermA K CI)) (Rbody : PropB P w K mg base C "body" "_body") (Cis_term : Cal P w K mg base 6 "is_term" ["value", "parameters"] (spTermN K)) (Cl_shuffle : Cal P w K mg base 2 "_law_shuffle" ["_law_die", "_law_items"] (spShuffle K)) (Cl_cast : Cal P w K mg base 1 "_law_cast" ["_law_die", "_law_total"] spCast) (Cl_pick : Cal P w K mg base 2 "_law_pick" ["_law_die", "_law_items"] (spPick K)) (Cl_any_term : Cal P w K mg base 14 "_law_any_term" ["_law_die", "_law_modes", "_law_table", "_law_own", "_law_deep"] (fun vs H Q E => ∃ n, (2 ≤ n ∧ n ≤ 5) ∧ spTermD K n vs H Q E)) (Cl_near : Cal P w K mg base 20 "_law_near" ["_law_die", "_law_body"] (spNearA K)) (Cl_odd_one : Cal P w K mg base 3 "_law_odd_one" ["_law_die"] (spOddA K)) (Cl_is_body : Cal P w K mg base 13 "_law_is_body" ["_law_value", "_law_own"] (spBodyA K)) (Cl_all_in : Cal P w K mg base 7 "_law_all_in" ["_law_piece"] (spAll K 6)) (Cl_bent_tuple : Cal P w K mg base 3 "_law_bent_tuple" ["_law_die", "_law_items", "_law_odd"] (spBentT K)) (Cl_are_parameters : Cal P w K mg base 3 "_law_are_parameters" ["_law_value"] (spParsA K)) : FnOk P w K mg base CX0 22 f fd ["_law_die"] (spRightB TS) := by
  have nd := sc_law_right.nd
  refine F.ok sc_law_right (fun vs H Q E h => ?_) (fun A outer s H vs Q E hr h => ?_)
  · obtain ⟨D, rfl, d, tT, q⟩ := h
    rfl
  · obtain ⟨D, rfl, d, tT, q⟩ := h
    skip
    refine ⟨_, (pss_cons (ps_set (i := 1) nd rfl (Or.inl rfl) (pe_slice sl_list (pe_own Cl_shuffle (hr.mono (by decide)) (by rfl) (pa_cons (pv 0) (pa_cons (pe_lst (pa_cons pe_str (pa_cons pe_str (pa_cons pe_str pa_nil)))) pa_nil))) po_none (po_some (pe_own Cl_cast (hr.mono (by decide)) (by rfl) (pa_cons (pv 0) (pa_cons pe_int pa_nil))))))
  (pss_cons (ps_set (i := 2) nd rfl (Or.inr rfl) (pe_callTy call_tuple_of (by rfl) T.b_tuple (by decide +kernel) (pa_cons (pe_lc (own := [("_law_name", 10)]) (g := gName 10) (tt := tYes) rfl nd (pi_list (pv 1)) (blkOk_by (own := [("_law_name", 10)]) (N := N_law_right) (sc := defScope s_law_right) (by decide +kernel)) (fun _ _ _ _ _ => (pg_name (i := 10) nd rfl (Or.inl rfl))) (fun _ _ _ _ _ => pts_nil) (fun _ _ _ _ _ => (pe_tup (pa_cons (pv 10) (pa_cons (pe_own Cl_pick (hr.mono (by decide)) (by rfl) (pa_cons (pv 0) (pa_cons (pe_lst (pa_cons pe_str (pa_cons pe_str pa_nil))) pa_nil))) pa_nil))))) pa_nil)))
  (pss_cons (ps_set (i := 3) nd rfl (Or.inl rfl) (pe_disp (pps_cons pe_str (pe_tup pa_nil) (pps_cons pe_str (pe_tup (pa_cons (pe_tup (pa_cons pe_str (pa_cons pe_str pa_nil))) pa_nil)) (pps_cons pe_str (pe_tup (pa_cons (pe_tup (pa_cons pe_str (pa_cons pe_str pa_nil))) (pa_cons (pe_tup (pa_cons pe_str (pa_cons pe_str pa_nil))) pa_nil))) (pps_cons pe_str (pv 2) pps_nil)))) rfl rfl (List.cons_ne_nil _ _) (Nat.le_of_ble_eq_true rfl)))
  (pss_cons (ps_for PassesOwn.never rfl (pi_range1 rfl T.b_range (pa_cons pe_int pa_nil)) (pg_name (i := 4) nd rfl (Or.inl rfl))
  (pss_cons (ps_set (i := 5) nd rfl (Or.inl rfl) (pe_own Cl_any_term (hr.mono (by decide)) (by rfl) (pa_cons (pv 0) (pa_cons (pe_op op_add pe_int (pe_own Cl_cast (hr.mono (by decide)) (by rfl) (pa_cons (pv 0) (pa_cons pe_int pa_nil)))) (pa_cons (pv 3) (pa_cons (pv 2) (pa_cons (pe_op op_add pe_int (pe_own Cl_cast (hr.mono (by decide)) (by rfl) (pa_cons (pv 0) (pa_cons pe_int pa_nil)))) pa_nil)))))))
  (pss_cons (ps_set (i := 6) nd rfl (Or.inr rfl) (pe_own Cl_pick (hr.mono (by decide)) (by rfl) (pa_cons (pv 0) (pa_cons (pe_lst (pa_cons (pv 5) (pa_cons (pe_own Cl_near (hr.mono (by decide)) (by rfl) (pa_cons (pv 0) (pa_cons (pv 5) pa_nil))) (pa_cons (pe_own Cl_near (hr.mono (by decide)) (by rfl) (pa_cons (pv 0) (pa_cons (pv 5) pa_nil))) (pa_cons (pe_own Cl_odd_one (hr.mono (by decide)) (by rfl) (pa_cons (pv 0) pa_nil)) pa_nil))))) pa_nil))))
  (pss_cons (ps_par (i := 7) (j := 8) (by rfl) nd rfl rfl (by decide) rfl rfl (pa_cons (pe_own Cl_is_body (hr.mono (by decide)) (by rfl) (pa_cons (pv 6) (pa_cons (pv 2) pa_nil))) (pa_cons (pe_met (k := 13) MG B (by rfl) TB rfl hmT hu (hr.mono (by decide)) (LamX.lamS_by (sc := defScope s_law_right) (by decide +kernel)) rfl (fun _ _ _ _ _ => rfl) (fun A2 outer2 s2 H2 E2 f2 c2 hr2 => (pe_mkPAK G rfl rfl rfl rfl rfl (hr2.mono (by decide)) lam_lets (by rfl) (pa_cons pe_str (pa_cons (pv 2) (pa_cons (pv 6) pa_nil)))))) pa_nil)) (by rfl))
  (pss_cons (ps_if (PW.pt (pw_or (pt_cmpR op_ne (pe_callB call_repr_bl (by rfl) b_repr (by decide +kernel) (pa_cons (pe_own Cis_term (hr.mono (by decide)) (by rfl) (pa_cons (pv 6) (pa_cons (pv 2) pa_nil))) pa_nil)) (pe_callB call_repr_bl (by rfl) b_repr (by decide +kernel) (pa_cons (pv 7) pa_nil)) (nomark _)) (pw_or1 (pt_cmpR op_ne (pe_cmpR op_notN (pv 8) pe_non (nomark _)) (pv 7) (nomark _)))))
  (pss_one (ps_ret pe_bl))
  pss_nil)
  (pss_one (ps_if (PW.pt (pw_and (pt_val (pv 7)) (pw_and1 (PW.pt (pw_or (pt_cmpR (op_neD hr.units) (pe_prB Rbody G.c.cl (hr.mono (by decide)) (pv 8) rfl) (pv 6) (nomark _)) (pw_or1 (pt_cmpR op_ne (pe_callB (cr_lenB G (hr.mono (by decide))) (by rfl) T.b_len PySem.boot_len (pa_cons (pv 8) pa_nil)) (pe_callB call_len (by rfl) T.b_len PySem.boot_len (pa_cons (pe_own Cl_all_in (hr.mono (by decide)) (by rfl) (pa_cons (pv 6) pa_nil)) pa_nil)) (nomark _))))))))
  (pss_one (ps_ret pe_bl))
  pss_nil)))))))
  (pss_cons (ps_set (i := 9) nd rfl (Or.inr rfl) (pe_own Cl_pick (hr.mono (by decide)) (by rfl) (pa_cons (pv 0) (pa_cons (pe_lst (pa_cons (pe_own Cl_bent_tuple (hr.mono (by decide)) (by rfl) (pa_cons (pv 0) (pa_cons (pv 2) (pa_cons (pe_tup (pa_cons pe_str (pa_cons pe_str pa_nil))) pa_nil)))) (pa_cons (pe_own Cl_odd_one (hr.mono (by decide)) (by rfl) (pa_cons (pv 0) pa_nil)) (pa_cons (pe_op op_catA (pv 2) (pe_tup (pa_cons (pe_tup (pa_cons pe_str (pa_cons pe_str pa_nil))) pa_nil))) pa_nil)))) pa_nil))))
  (pss_cons (ps_set (i := 6) nd rfl (Or.inr rfl) (pe_met (k := 13) MG B (by rfl) TB rfl hmT hu (hr.mono (by decide)) (LamX.lamS_by (sc := defScope s_law_right) (by decide +kernel)) rfl (fun _ _ _ _ _ => rfl) (fun A2 outer2 s2 H2 E2 f2 c2 hr2 => (pe_ownX GT (hr2.mono (by decide)) lam_lets (by rfl) (pa_cons (pe_tup (pa_cons pe_str pa_nil)) (pa_cons (pv 9) pa_nil))))))
  (pss_one (ps_ret (pe_cmpR op_eq (pv 6) (pe_ifExp (pt_val (pe_own Cl_are_parameters (hr.mono (by decide)) (by rfl) (pa_cons (pv 9) pa_nil))) pe_bl pe_non) (nomark _)))))))))), ?_⟩

    refine ⟨_, rfl, by show 3 ≤ sizeLine; decide, fun p1 n1 => ?_⟩
    have g1 := Go.new (o := .lst ([("b" : Str), "w", "x"].map V.str)) d n1
    have mq1 := d.ne n1
    refine ⟨D, p1, [("b" : Str), "w", "x"], rfl, g1.2, .inl (.inl upd_same), mq1, by show 3 ≤ 100; decide, fun zs H2 p2 pm g2' n2 mq2 e2 => ?_⟩
    have g2 := g1.trans g2'
    clear g1 g2' n2 n1
    refine ⟨_, rfl, D, 4, rfl, g2.2, by omega, by omega, fun r H3 r0 r1 g3' _ => ?_⟩
    obtain ⟨k, rfl⟩ : ∃ k : Nat, r = (k : Int) := ⟨r.toNat, by omega⟩
    have e3 := g3'.1 _ _ mq2 e2
    have g3 := g2.trans g3'
    clear g3' e2 g2
    refine ⟨_, rfl, p2, _, rfl, .inl (.inl e3), fun p4 n4 => ?_⟩
    have ec : cutV (zs.map V.str) none (some (k : Int)) = (zs.take k).map V.str := by rw [cut_take, take_str]
    rw [ec]
    have wn : (∀ z ∈ zs.take k, wordB z = true) ∧ (zs.take k).Nodup ∧ (zs.take k).length ≤ 3 := by
      refine ⟨fun z hz => ?_, ?_, ?_⟩
      · have h := pm.mem_iff.mp (List.mem_of_mem_take hz)
        have : ∀ z ∈ [("b" : Str), "w", "x"], wordB z = true := by decide +kernel
        exact this z h
      · have : ([("b" : Str), "w", "x"] : List Str).Nodup := by decide +kernel
        exact ((pm.nodup_iff).mpr this).sublist (List.take_sublist _ _)
      · have := pm.length_eq
        rw [List.length_take]
        have e : ([("b" : Str), "w", "x"] : List Str).length = 3 := rfl
        omega
    generalize zs.take k = ws at wn ⊢
    obtain ⟨wx, ndx, lx⟩ := wn
    have g4 := g3.same (same_upd (o := .lst (ws.map V.str)) n4)
    have e4 : upd H3 p4 (.lst (ws.map V.str)) p4 = some (.lst (ws.map V.str)) := upd_same
    have mp4 := g3.2.ne n4
    generalize upd H3 p4 (.lst (ws.map V.str)) = H4 at g4 e4 ⊢
    clear g3 e3 n4 ec pm mq2 mq1
    refine ⟨_, rfl, p4, rfl, ⟨_, .inl (.inl e4)⟩, fun L nL => ?_⟩
    have nLD := g4.2.ne nL
    refine lc_list (xs := ws.map V.str) (fun i H' => Go D H4 H' ∧ ∃ (own : List (Str × Bool)) (vs : List V), own.map (·.1) = ws.take i ∧ H' L = some (.lst vs) ∧ DpAll K H' vs (own.map parD)) ⟨(Go.refl g4.2).upd nL nLD, [], [], rfl, upd_same, .nil⟩ (fun i H' hi h => h.1.seq mp4 (.inl (.inl e4))) (fun i x GA hx h => ?_) (fun GA h => ?_)
    · obtain ⟨ga, own, vs, eo, eL, rv⟩ := h
      rw [List.getElem?_map] at hx
      obtain ⟨z, hz, rfl⟩ := Option.map_eq_some_iff.mp hx
      have li2 := (List.getElem?_eq_some_iff.mp hz).1
      refine ⟨rfl, _, rfl, _, rfl, by show 2 ≤ sizeLine; decide, fun pk mk => ?_⟩
      have sK := same_upd (o := .lst (([false, true] : List Bool).map fun b => V.str (kd b))) mk
      have eK : upd GA pk (.lst (([false, true] : List Bool).map fun b => V.str (kd b))) pk = some (.lst (([false, true] : List Bool).map fun b => V.str (kd b))) := upd_same
      have gk := ga.same sK
      refine ⟨D, pk, ([false, true] : List Bool).map fun b => V.str (kd b), gk.2, rfl, .inl (.inl eK), ga.2.ne mk, List.cons_ne_nil _ _, by decide, fun v GB hv gb _ => ?_⟩
      obtain ⟨b, hb, rfl⟩ := List.mem_map.mp hv
      refine ⟨by show 2 ≤ sizeLine; decide, fun pt nt => ?_⟩
      have st := same_upd (o := .tup [V.str z, V.str (kd b)]) nt
      have eLB := st _ _ (gb.1 _ _ nLD (sK _ _ eL))
      have et : upd GB pt (.tup [V.str z, V.str (kd b)]) pt = some (.tup [V.str z, V.str (kd b)]) := upd_same
      have gt := (gk.trans gb).same st
      have tkB := ((TK.of sK).trans (gb.tk gk.2)).trans (.of st)
      generalize upd GB pt (.tup [V.str z, V.str (kd b)]) = GC at st eLB et gt tkB ⊢
      have sl := Stay.set (ys := vs ++ [V.ref pt]) eLB
      have lv : vs.length ≤ 3 := by
        rw [DpAll.len rv, List.length_map, ← List.length_map (f := fun z : Str × Bool => z.1), eo, List.length_take]
        omega
      refine ⟨vs, eLB, small1000 (by omega), gt.upd nL nLD, own ++ [(z, b)], vs ++ [.ref pt], ?_, upd_same, ?_⟩
      · rw [List.map_append, eo, take_more hz]
        rfl
      · rw [List.map_append]
        exact DpAll.app (DpAll.tk (tkB.trans (.stay sl)) (pars_noL own) rv) (.cons (.tup (sl.sqT (.inl (.inl et))) (.cons (.str _) (.cons (.str _) .nil))) .nil)
    obtain ⟨ga, own, vs, eo, eL, rv⟩ := h
    rw [List.length_map, List.take_length] at eo
    have lo : own.length = ws.length := by rw [← eo, List.length_map]
    have poO : ParOk own := ⟨by omega, fun p hp => wx _ (by rw [← eo]; exact List.mem_map_of_mem hp), by rw [eo]; exact ndx⟩
    refine ⟨L, vs, rfl, .inl ⟨.inl (.inl eL), fun pT nT => ?_⟩⟩
    have sT := same_upd (o := .tup vs) nT
    have eT : upd GA pT (.tup vs) pT = some (.tup vs) := upd_same
    have g5 := (g4.trans ga).same sT
    have rvT := DpAll.tk (.of sT) (pars_noL own) rv
    generalize upd GA pT (.tup vs) = H5 at sT eT g5 rvT ⊢
    have dO : Dp K H5 (.ref pT) (parsD own) := .tup (.inl (.inl eT)) rvT
    have T5 := Tabs.go d g5 tT
    clear eL rv ga e4 sT eT rvT nT nL nLD g4 mp4 eo lo
    -- the table
    refine fun ta nta => ?_
    have ntaD := g5.2.ne nta
    have nta0 := g5.free nta
    have sta := same_upd (o := .dK []) nta
    have eta : upd H5 ta (.dK []) ta = some (.dK []) := upd_same
    generalize upd H5 ta (.dK []) = J0 at sta eta ⊢
    refine ⟨by show 0 ≤ sizeLine; decide, fun q1 nq1 => ?_⟩
    have sq1 := same_upd (o := .tup []) nq1
    have eq1 : upd J0 q1 (.tup []) q1 = some (.tup []) := upd_same
    generalize upd J0 q1 (.tup []) = J1 at sq1 eq1 ⊢
    refine ⟨by show 2 ≤ sizeLine; decide, fun q2 nq2 => ?_⟩
    have sq2 := same_upd (o := .tup [V.str "b", V.str "block"]) nq2
    have eq2 : upd J1 q2 (.tup [V.str "b", V.str "block"]) q2 = some (.tup [V.str "b", V.str "block"]) := upd_same
    generalize upd J1 q2 (.tup [V.str "b", V.str "block"]) = J2 at sq2 eq2 ⊢
    refine ⟨by show 1 ≤ sizeLine; decide, fun q3 nq3 => ?_⟩
    have sq3 := same_upd (o := .tup [V.ref q2]) nq3
    have eq3 : upd J2 q3 (.tup [V.ref q2]) q3 = some (.tup [V.ref q2]) := upd_same
    generalize upd J2 q3 (.tup [V.ref q2]) = J3 at sq3 eq3 ⊢
    refine ⟨by show 2 ≤ sizeLine; decide, fun q4 nq4 => ?_⟩
    have sq4 := same_upd (o := .tup [V.str "w", V.str "wrap"]) nq4
    have eq4 : upd J3 q4 (.tup [V.str "w", V.str "wrap"]) q4 = some (.tup [V.str "w", V.str "wrap"]) := upd_same
    generalize upd J3 q4 (.tup [V.str "w", V.str "wrap"]) = J4 at sq4 eq4 ⊢
    refine ⟨by show 2 ≤ sizeLine; decide, fun q5 nq5 => ?_⟩
    have sq5 := same_upd (o := .tup [V.str "b", V.str "block"]) nq5
    have eq5 : upd J4 q5 (.tup [V.str "b", V.str "block"]) q5 = some (.tup [V.str "b", V.str "block"]) := upd_same
    generalize upd J4 q5 (.tup [V.str "b", V.str "block"]) = J5 at sq5 eq5 ⊢
    refine ⟨by show 2 ≤ sizeLine; decide, fun q6 nq6 => ?_⟩
    have sq6 := same_upd (o := .tup [V.ref q4, V.ref q5]) nq6
    have eq6 : upd J5 q6 (.tup [V.ref q4, V.ref q5]) q6 = some (.tup [V.ref q4, V.ref q5]) := upd_same
    generalize upd J5 q6 (.tup [V.ref q4, V.ref q5]) = J6 at sq6 eq6 ⊢
    have s56 := sq5.trans sq6
    have s46 := sq4.trans s56
    have s36 := sq3.trans s46
    have s26 := sq2.trans s36
    have s16 := sq1.trans s26
    refine ⟨_, rfl, s16 _ _ eta, [(Sum.inr "main", .ref q1), (Sum.inr "twice", .ref q3), (Sum.inr "deep", .ref q6), (Sum.inr "p", .ref pT)], rfl, by show 4 ≤ 15; decide, ?_⟩
    have dkU : ∀ {HH : Hp}, HH = upd J6 ta (.dK (mergeK [] [(Sum.inr "main", V.ref q1), (Sum.inr "twice", .ref q3), (Sum.inr "deep", .ref q6), (Sum.inr "p", .ref pT)])) → TK J6 HH := fun e => by
      rw [e]
      exact TK.set (s16 _ _ eta) rfl
    have tab : TabAt K (upd J6 ta (.dK (mergeK [] [(Sum.inr "main", V.ref q1), (Sum.inr "twice", .ref q3), (Sum.inr "deep", .ref q6), (Sum.inr "p", .ref pT)]))) ta [("main", []), ("twice", [("b", false)]), ("deep", [("w", true), ("b", false)]), ("p", own)] := by
      have tk := dkU rfl
      refine ⟨[(Sum.inr "main", .ref q1), (Sum.inr "twice", .ref q3), (Sum.inr "deep", .ref q6), (Sum.inr "p", .ref pT)], upd_same, ?_, by show 4 ≤ 8; decide⟩
      refine .cons (.tup (tk.sqT (.inl (.inl (s26 _ _ eq1)))) .nil) ⟨by decide, (fun _ h => nomatch h), .nil⟩ (by decide +kernel) ?_
      refine .cons (.tup (tk.sqT (.inl (.inl (s46 _ _ eq3)))) (.cons (.tup (tk.sqT (.inl (.inl (s36 _ _ eq2)))) (.cons (.str _) (.cons (.str _) .nil))) .nil)) ⟨by decide, by decide +kernel, by decide +kernel⟩ (by decide +kernel) ?_
      refine .cons (.tup (tk.sqT (.inl (.inl eq6))) (.cons (.tup (tk.sqT (.inl (.inl (s56 _ _ eq4)))) (.cons (.str _) (.cons (.str _) .nil))) (.cons (.tup (tk.sqT (.inl (.inl (sq6 _ _ eq5)))) (.cons (.str _) (.cons (.str _) .nil))) .nil))) ⟨by decide, by decide +kernel, by decide +kernel⟩ (by decide +kernel) ?_
      exact .cons (Dp.tk tk (pars_noL own) (Dp.stay (.of (sta.trans s16)) (pars_noL own) dO)) poO (by decide +kernel) .nil
    have g7 := (((g5.same sta).same s16).upd (o := .dK (mergeK [] [(Sum.inr "main", V.ref q1), (Sum.inr "twice", .ref q3), (Sum.inr "deep", .ref q6), (Sum.inr "p", .ref pT)])) nta0 ntaD)
    have dO7 := Dp.tk (dkU rfl) (pars_noL own) (Dp.stay (.of (sta.trans s16)) (pars_noL own) dO)
    generalize upd J6 ta (.dK (mergeK [] [(Sum.inr "main", V.ref q1), (Sum.inr "twice", .ref q3), (Sum.inr "deep", .ref q6), (Sum.inr "p", .ref pT)])) = H7 at tab g7 dO7 ⊢
    clear dkU sta eta sq1 eq1 sq2 eq2 sq3 eq3 sq4 eq4 sq5 eq5 sq6 eq6 s56 s46 s36 s26 s16 T5 dO g5 nta nta0
    have T7 := Tabs.go d g7 tT
    have G7 := GoN.of g7
    refine ⟨_, rfl, by decide, by decide, for_range (lo := 0) (n := 8) (fun i σ H' => (∃ y4 y5 y6 y7 y8 : Option V, σ = [some (.ref D), some (.ref p4), some (.ref pT), some (.ref ta), y4, y5, y6, y7, y8, none, none]) ∧ GoN D H7 H' ∧ LamX.Tabs TS H') ⟨⟨_, _, _, _, _, rfl⟩, .refl G7.2, T7⟩ (fun i σ H' hi hp => ?_) (fun σ H' hp => ?_)⟩
    · obtain ⟨⟨y4, y5, y6, y7, y8, rfl⟩, g, tt⟩ := hp
      have dA := g.2
      have tabA : TabAt K H' ta [("main", []), ("twice", [("b", false)]), ("deep", [("w", true), ("b", false)]), ("p", own)] := by
        obtain ⟨kvs, k1, k2, k3⟩ := tab
        exact ⟨kvs, g.1 _ _ ntaD k1 (fun ps z => nomatch z), k2.tk (g.tk G7.2), k3⟩
      have dOA := Dp.tk (g.tk G7.2) (pars_noL own) dO7
      refine ⟨_, rfl, _, rfl, D, 3, rfl, dA, by omega, by omega, fun r1 HA r10 r11 gA _ => ?_⟩
      refine ⟨_, _, rfl, rfl, _, rfl, _, rfl, _, rfl, D, 4, rfl, gA.2, by omega, by omega, fun r2 HB r20 r21 gB _ => ?_⟩
      obtain ⟨n2, rfl⟩ : ∃ n2 : Nat, r2 = (n2 : Int) := ⟨r2.toNat, by omega⟩
      have gAB := gA.trans gB
      refine ⟨_, _, rfl, rfl, n2 + 2, ⟨by omega, by omega⟩, D, ta, 1 + r1, [("main", []), ("twice", [("b", false)]), ("deep", [("w", true), ("b", false)]), ("p", own)], .ref pT, own, by show [_, _, _, _, V.int (2 + (n2 : Int))] = _; rw [show (2 + (n2 : Int)) = ((n2 + 2 : Nat) : Int) by omega], ⟨gAB.2, tabA.go dA gAB, (fun z => nomatch z), Dp.tk (gAB.tk dA) (pars_noL own) dOA, poO, by omega, by omega⟩, by omega, by omega, fun v HC t gC got => ?_⟩
      have cbn : t.count ≤ 121 := Nat.le_trans got.few (by
        have h : ∀ n, n ≤ 3 → cb (n + 2) ≤ 121 := by
          intro n hn
          rcases (show n = 0 ∨ n = 1 ∨ n = 2 ∨ n = 3 by omega) with rfl | rfl | rfl | rfl <;> decide
        exact h n2 (by omega))
      have dp5 : t.deep ≤ 5 := Nat.le_trans got.deep (by omega)
      obtain ⟨ds, hb, b1, b2, b3⟩ := tm_at (D := D) poO.nms got.good.good v got.dp
      obtain ⟨a, _, rfl, _, _⟩ := hb.tup_inv
      have gABC := gAB.trans gC
      have G1 := g.trans (.of gABC)
      have T1 := Tabs.go dA gABC tt
      have dO1 := Dp.tk (gABC.tk dA) (pars_noL own) dOA
      clear got gC gAB gA gB tabA dOA g tt dA
      refine seq_gen (P := fun σ' HX => σ' = [some (.ref D), some (.ref p4), some (.ref pT), some (.ref ta), some (.int (0 + (i : Int))), some (.ref a), y6, y7, y8, none, none] ∧ HX = HC) (fun N hN => hN _ _ ⟨rfl, rfl⟩) ?_
      rintro σ0 HC ⟨rfl, rfl⟩
      have dC := G1.2
      refine seq_gen (P := fun σ' HX => (∃ v6 d6, σ' = [some (.ref D), some (.ref p4), some (.ref pT), some (.ref ta), some (.int (0 + (i : Int))), some (.ref a), some v6, y7, y8, none, none] ∧ At K HX D v6 d6 ∧ d6.wide ≤ 200 ∧ d6.size ≤ 40000) ∧ Go D HC HX) (fun N hN => ?_) ?_
      · have bd : (Dat.tup ds).deep ≤ 6 ∧ (Dat.tup ds).wide ≤ 130 ∧ (Dat.tup ds).size ≤ 900 := ⟨by omega, by omega, by omega⟩
        refine ⟨_, rfl, _, rfl, _, rfl, _, rfl, D, a, ds, rfl, dC, hb, bd, fun H1 v1 d1 g1 h1 w1 z1 => ?_⟩
        refine ⟨_, rfl, _, rfl, D, a, ds, rfl, g1.2, hb.go dC g1, bd, fun H2 v2 d2 g2 h2 w2 z2 => ?_⟩
        refine ⟨_, rfl, D, rfl, g2.2, fun v3 H3 g3 o3 => ?_⟩
        obtain ⟨d3, h3, -, w3, z3⟩ := o3
        refine ⟨by show 4 ≤ sizeLine; decide, fun pL nL => ?_⟩
        have g13 := (g1.trans g2).trans g3
        have s4 := same_upd (o := .lst [V.ref a, v1, v2, v3]) nL
        have e4 : upd H3 pL (.lst [V.ref a, v1, v2, v3]) pL = some (.lst [V.ref a, v1, v2, v3]) := upd_same
        have npL := g13.2.ne nL
        generalize upd H3 pL (.lst [V.ref a, v1, v2, v3]) = H4 at s4 e4 ⊢
        have g4 := g13.same s4
        refine ⟨D, pL, _, g4.2, rfl, .inl (.inl e4), npL, List.cons_ne_nil _ _, by show 4 < 1000; decide, fun v6 H5 hv g5 _ => ?_⟩
        have all : ∀ v ∈ [V.ref a, v1, v2, v3], ∃ d', At K H4 D v d' ∧ d'.wide ≤ 200 ∧ d'.size ≤ 40000 := fun v hv => by
          simp only [List.mem_cons, List.not_mem_nil, or_false] at hv
          rcases hv with rfl | rfl | rfl | rfl
          · exact ⟨_, hb.go dC g4, by omega, by omega⟩
          · exact ⟨d1, ((h1.go g1.2 g2).go g2.2 g3).same s4, w1, z1⟩
          · exact ⟨d2, (h2.go g2.2 g3).same s4, w2, z2⟩
          · exact ⟨d3, h3.same s4, by omega, by omega⟩
        obtain ⟨d6, h6, w6, z6⟩ := all v6 hv
        exact hN _ _ ⟨⟨v6, d6, rfl, h6.go g4.2 g5, w6, z6⟩, g4.trans g5⟩
      rintro σ0 HE ⟨⟨v6, d6, rfl, h6, w6, z6⟩, gE⟩
      have G2 := G1.trans (.of gE)
      have T2 := Tabs.go dC gE T1
      have dO2 := Dp.tk (gE.tk dC) (pars_noL own) dO1
      clear gE G1 T1 dO1 hb b1 b2 b3 dC dp5 cbn
      refine seq_gen (P := fun σ' HX => (∃ m, σ' = [some (.ref D), some (.ref p4), some (.ref pT), some (.ref ta), some (.int (0 + (i : Int))), some (.ref a), some v6, some (.bl (termB own d6)), some m, none, none] ∧ ((termB own d6 = false ∧ m = .non) ∨ (termB own d6 = true ∧ ∃ x t, m = .ref x ∧ PAt K C HX x "p" own t ∧ Dp K HX v6 t.data ∧ t.count = countN 6 d6))) ∧ At K HX D v6 d6 ∧ Dp K HX (.ref pT) (parsD own) ∧ GoN D H7 HX ∧ LamX.Tabs TS HX) (fun N hN => ?_) ?_
      · refine ⟨_, rfl, _, rfl, D, v6, .ref pT, d6, own, rfl, h6, by omega, z6, dO2, poO, fun HF sF => ?_⟩
        have G3 := G2.same sF
        have T3 := Tabs.same T2 sF
        have h7 := h6.same sF
        have dO3 := Dp.stay (.of sF) (pars_noL own) dO2
        clear sF G2 T2 h6 dO2
        refine ⟨T3, fun HD eN TD => ?_⟩
        have gN := GoN.ext G3.2 eN
        have GD := G3.trans gN
        have h8 := h7.goN G3.2 gN
        have dO4 := Dp.tk (gN.tk G3.2) (pars_noL own) dO3
        clear gN eN h7 dO3 G3 T3
        refine ⟨_, rfl, _, rfl, ?_⟩
        intro x dx nx nd' ne
        have s1 := made_same (C := C) nx nd'
        refine ⟨D, x, dx, "p", .ref pT, v6, own, d6, rfl, upd_same, ⟨by decide +kernel, by decide +kernel, by decide +kernel⟩, Dp.tk (.of s1) (pars_noL own) dO4, poO, h8.same s1, by omega, fun te H' sH => ⟨B.eI, ?_⟩, fun te t db gd nw ct H3 pa kp fr0 => ⟨rfl, ?_⟩⟩
        · have sA := s1.trans sH
          refine ⟨_, _, rfl, hN _ _ ⟨⟨.non, rfl, .inl ⟨te, rfl⟩⟩, h8.same sA, Dp.stay (.of sA) (pars_noL own) dO4, GD.same sA, Tabs.same TD sA⟩⟩
        · have s3 : Same HD H3 := Same.made nx nd' fun b o e n => kp b o n e
          have db3 : Dp K H3 v6 t.data := by
            refine Dp.tk (fun b o ot h => kp b o (fun z => ?_) h) t.noL db
            rw [z, upd_same] at h
            cases Option.some.inj h
            cases ot
          refine ⟨_, _, rfl, hN _ _ ⟨⟨.ref x, rfl, .inr ⟨te, x, t, rfl, pa, db3, ct⟩⟩, h8.same s3, Dp.stay (.of s3) (pars_noL own) dO4, GD.same s3, Tabs.same TD s3⟩⟩
      rintro σ0 HG ⟨⟨mv, rfl, mk⟩, h9, dO5, GG, TG⟩
      have fin : ∀ {HX : Hp}, Same HG HX → (∃ y4 y5 y6 y7 y8 : Option V, [some (V.ref D), some (.ref p4), some (.ref pT), some (.ref ta), some (.int (0 + (i : Int))), some (.ref a), some v6, some (.bl (termB own d6)), some mv, none, none] = [some (V.ref D), some (.ref p4), some (.ref pT), some (.ref ta), y4, y5, y6, y7, y8, none, none]) ∧ GoN D H7 HX ∧ LamX.Tabs TS HX := fun s => ⟨⟨_, _, _, _, _, rfl⟩, GG.same s, Tabs.same TG s⟩
      refine ⟨_, rfl, _, rfl, D, v6, .ref pT, d6, own, rfl, h9, by omega, dO5, poO, fun H1 s1 => ?_⟩
      refine ⟨_, rfl, _, rfl, _, rfl, rfl, _, rfl, ?_⟩
      rw [show decide (V.str (reprB (termB own d6)) = V.str (reprB (termB own d6))) = true from decide_eq_true rfl]
      refine iteF ?_
      refine ⟨_, rfl, rfl, _, rfl, rfl, _, rfl, ?_⟩
      rcases mk with ⟨te, rfl⟩ | ⟨te, x, t, rfl, pa, db, ct⟩
      · rw [te] at fin ⊢
        refine iteF ?_
        exact ⟨_, rfl, _, rfl, iteF (fin s1)⟩
      · rw [te] at fin ⊢
        refine iteF ?_
        have pa1 := pa.same s1
        have db1 := Dp.tk (.of s1) t.noL db
        obtain ⟨⟨dx, pv', bv, pb, ka, wa, ua, ys, wst, us, e1, e2, e3, -⟩, -, -, gd, nw, few, low⟩ := id pa1
        have sh : SeqAt.shaped t.data = true := gd.shaped poO.nms (by omega)
        refine ⟨_, rfl, _, rfl, iteT ?_⟩
        refine ⟨_, rfl, x, dx, _, rfl, e1, x, dx, _, _, rfl, e1, lk3, _, rfl, t.data, t.data, e3, db1, sh, sh, _, rfl, ?_⟩
        rw [SeqAt.eqv_refl _ (SeqAt.canLay_of_shaped sh)]
        refine iteF ?_
        refine ⟨_, rfl, x, dx, _, rfl, e1, x, "p", own, t, rfl, pa1, t.count, rfl, by omega, ?_⟩
        refine ⟨_, rfl, own, v6, t, rfl, db1, gd, low, by omega, fun H2 pl xs s2 np ep rx => ?_⟩
        have l : xs.length = t.count := by rw [DpAll.len rx, datas_len]; rfl
        refine ⟨_, _, rfl, .inl ⟨_, .inl (.inl ep), rfl⟩, rfl, _, rfl, ?_⟩
        rw [l, show decide (V.int ((t.count : Nat) : Int) = V.int ((t.count : Nat) : Int)) = true from decide_eq_true rfl]
        exact iteF (fin (s1.trans s2))
    · obtain ⟨⟨y4, y5, y6, y7, y8, rfl⟩, g, tt⟩ := hp
      have GA := G7.trans g
      have dOA := Dp.tk (g.tk G7.2) (pars_noL own) dO7
      obtain ⟨oA, -⟩ := pars_at (D := D) dOA poO
      obtain ⟨pT', xsO, eO, sqO, rO⟩ := oA.tup_inv
      cases eO
      have lO : (own.map parDt).length ≤ 3 := by rw [List.length_map]; exact poO.few
      have lxO : xsO.length ≤ 3 := by rw [rO.len]; exact lO
      have bok : ("b" : Str).length ≤ 1000 ∧ PyData.strOk "b" = true := ⟨by decide +kernel, by decide +kernel⟩
      have kok : ("block" : Str).length ≤ 1000 ∧ PyData.strOk "block" = true := ⟨by decide +kernel, by decide +kernel⟩
      have Bok : ("Block" : Str).length ≤ 1000 ∧ PyData.strOk "Block" = true := ⟨by decide +kernel, by decide +kernel⟩
      clear G7 g tab dO7 T7
      refine ⟨_, rfl, _, rfl, _, rfl, by show 2 ≤ sizeLine; decide, fun u1 m1 => ?_⟩
      have s1 := same_upd (o := .tup [V.str "b", V.str "block"]) m1
      have e1 : upd H' u1 (.tup [V.str "b", V.str "block"]) u1 = some (.tup [V.str "b", V.str "block"]) := upd_same
      generalize upd H' u1 (.tup [V.str "b", V.str "block"]) = H1 at s1 e1 ⊢
      have d1 := GA.2.same s1
      refine ⟨D, pT, .ref u1, own.map parDt, .tup [.str "b", .str "block"], rfl, d1, oA.same s1, .tup (.inl (.inl e1)) (.cons (.str _ bok) (.cons (.str _ kok) .nil)), lO, fun H2 w1 x1 g2 hw1 => ?_⟩
      refine ⟨_, rfl, D, rfl, g2.2, fun w2 H3 g3 o3 => ?_⟩
      obtain ⟨x2, hw2, -⟩ := o3
      have g13 := g2.trans g3
      refine ⟨_, rfl, by show 2 ≤ sizeLine; decide, fun u4 m4 => ?_⟩
      have s4 := same_upd (o := .tup [V.str "b", V.str "Block"]) m4
      have e4 : upd H3 u4 (.tup [V.str "b", V.str "Block"]) u4 = some (.tup [V.str "b", V.str "Block"]) := upd_same
      generalize upd H3 u4 (.tup [V.str "b", V.str "Block"]) = H4 at s4 e4 ⊢
      refine ⟨by show 1 ≤ sizeLine; decide, fun u5 m5 => ?_⟩
      have s5 := same_upd (o := .tup [V.ref u4]) m5
      have e5 : upd H4 u5 (.tup [V.ref u4]) u5 = some (.tup [V.ref u4]) := upd_same
      generalize upd H4 u5 (.tup [V.ref u4]) = H5' at s5 e5 ⊢
      have s45 := s4.trans s5
      have sqO5 := Same.sqT s45 ((g13.tk d1).sqT (Same.sqT s1 sqO))
      refine cat_anyA sqO5 (.inl (.inl e5)) (Nat.le_trans (show xsO.length + 1 ≤ 2000 by omega) (by decide)) fun H6 u6 s6 sq6 => ?_
      refine ⟨by show 3 ≤ sizeLine; decide, fun uL mL => ?_⟩
      have sL := same_upd (o := .lst [w1, w2, V.ref u6]) mL
      have eL : upd H6 uL (.lst [w1, w2, V.ref u6]) uL = some (.lst [w1, w2, V.ref u6]) := upd_same
      have s456 := s45.trans s6
      have g3L : Go D H1 H6 := (g13.same s456)
      have npL := g3L.2.ne mL
      generalize upd H6 uL (.lst [w1, w2, V.ref u6]) = H7' at sL eL ⊢
      have g7 := g3L.same sL
      have sZ := s456.trans sL
      have all : ∀ v ∈ [w1, w2, V.ref u6], ∃ x, At K H7' D v x := fun v hv => by
        simp only [List.mem_cons, List.not_mem_nil, or_false] at hv
        rcases hv with rfl | rfl | rfl
        · exact ⟨x1, (hw1.go g2.2 g3).same sZ⟩
        · exact ⟨x2, hw2.same sZ⟩
        · exact ⟨_, .tup (Same.sqT sL sq6) (AtAll.app (((rO.same s1).go d1 g13).same sZ) (.cons (.tup (.inl (.inl ((s5.trans (s6.trans sL)) _ _ e4))) (.cons (.str _ bok) (.cons (.str _ Bok) .nil))) .nil))⟩
      refine ⟨D, uL, _, g7.2, rfl, .inl (.inl eL), npL, List.cons_ne_nil _ _, by show 3 < 1000; decide, fun ov HB hv gB _ => ?_⟩
      obtain ⟨xo, ho0⟩ := all ov hv
      have ho := ho0.go g7.2 gB
      have gAll : GoN D H' HB := ((GoN.of (.of GA.2 s1)).trans (.of g7)).trans (.of gB)
      have GB := GA.trans gAll
      have TBs : LamX.Tabs TS HB := Tabs.go g7.2 gB (Tabs.go d1 g7 (Tabs.same tt s1))
      clear all ho0 hv g7 gB sZ eL sL npL s456 g3L gAll GA tt hw1 hw2 rO sqO oA dOA s1 e1 s4 e4 s5 e5 s45 sqO5 s6 sq6
      refine ⟨TBs, fun HD eN TD => ?_⟩
      have gN := GoN.ext GB.2 eN
      have GD := GB.trans gN
      have hD := ho.goN GB.2 gN
      clear ho GB TBs eN gN
      refine ⟨by show 1 ≤ sizeLine; decide, fun pq nq => ?_⟩
      have sQ := same_upd (o := .tup [V.str "seq"]) nq
      have eQ : upd HD pq (.tup [V.str "seq"]) pq = some (.tup [V.str "seq"]) := upd_same
      generalize upd HD pq (.tup [V.str "seq"]) = HQ at sQ eQ ⊢
      have hQ := hD.same sQ
      have sok : ("seq" : Str).length ≤ 1000 ∧ PyData.strOk "seq" = true := ⟨by decide +kernel, by decide +kernel⟩
      have tt1 : ∀ own : List (Str × Bool), termB own (.tup [.str "seq"]) = true := fun own => by
        unfold termB
        rw [p_seq (by decide +kernel) (by decide +kernel), count_eqZ, parts_a (by decide +kernel)]
        rfl
      refine ⟨_, rfl, D, .ref pq, ov, .tup [.str "seq"], xo, rfl, .tup (.inl (.inl eQ)) (.cons (.str _ sok) .nil), by show max 1 (max 0 0) ≤ 1000; decide, hQ, fun pe HE sE => ⟨B.eI, ?_⟩, fun pe own2 _ _ HE sE => ?_⟩
      · have sX := sQ.trans sE
        refine ⟨_, rfl, _, rfl, D, ov, xo, rfl, hQ.same sE, fun HF sF => ?_⟩
        rw [pe]
        exact ⟨_, rfl, iteF ⟨rfl, q _ (GD.same (sX.trans sF)) (Tabs.same TD (sX.trans sF))⟩⟩
      · have sX := sQ.trans sE
        rw [tt1]
        refine ⟨_, rfl, _, rfl, D, ov, xo, rfl, hQ.same sE, fun HF sF => ?_⟩
        rw [pe]
        exact ⟨_, rfl, iteT ⟨rfl, q _ (GD.same (sX.trans sF)) (Tabs.same TD (sX.trans sF))⟩⟩
end
end FS

set_option Elab.async false
set_option linter.all false
set_option maxRecDepth 100000
set_option maxHeartbeats 4000000
namespace FS
open PySem PySem.Spec PyProof.Rows L2
section
variable {P : Program} {w : World} {K : PySem.W.Frag} {mg : Str → Option Value} {base : Heap}
abbrev NAis_integer_in : List Str := ["value", "least", "greatest"]
theorem scAis_integer_in : FnScope NAis_integer_in ["value", "least", "greatest"] (defScope sis_integer_in) := ⟨rfl, rfl, rfl, by decide +kernel, rfl, by decide +kernel, by decide +kernel⟩
theorem okA_is_integer_in {f : Addr} {fd : FuncData} (F : Fun K "is_integer_in" "is_integer_in" sis_integer_in f fd) (T : Nm K mg) : FnOk P w K mg base CX0 2 f fd ["value", "least", "greatest"] (spIntA K) := by
  have nd := scAis_integer_in.nd
  refine F.ok scAis_integer_in (fun vs H Q E h => ?_) (fun cdv A outer s H vs Q E hr h => ?_)
  · obtain ⟨D, v, d, a, b, rfl, hd, q⟩ := h
    rfl
  · obtain ⟨D, v, d, a, b, rfl, hd, q⟩ := h
    skip
    refine ⟨_, (pss_one (ps_ret (pe_and (pe_callB call_isi (by rfl) T.b_isinstance (by decide +kernel) (pa_cons (pv 0) (pa_cons (pe_bltn (v := .ty "int") (by rfl) T.b_int (by decide +kernel) rfl) pa_nil))) (pe_and (pe_not (pe_callB call_isi (by rfl) T.b_isinstance (by decide +kernel) (pa_cons (pv 0) (pa_cons (pe_bltn (v := .ty "bool") (by rfl) T.b_bool (by decide +kernel) rfl) pa_nil)))) (pe_one (pe_chain op_le op_le (pv 1) (pv 0) (pv 2))))))), ?_⟩

    cases hd with
    | int i =>
      have q : Q (.bl (decide (a ≤ i) && decide (i ≤ b))) H := q
      refine ⟨_, rfl, _, _, _, _, true, rfl, .ty "int", .base (.int i), kit_ty (show kitB "int" "int" = some true by decide +kernel), true, rfl, ?_⟩
      refine ⟨_, rfl, _, _, _, _, false, rfl, .ty "bool", .base (.int i), kit_ty (show kitB "int" "bool" = some false by decide +kernel), false, rfl, ?_⟩
      refine ⟨true, rfl, ?_⟩
      refine iteT ?_
      refine ⟨_, rfl, _, rfl, _, _, rfl, rfl, _, rfl, ite2 (fun e1 => ?_) (fun e1 => ?_)⟩
      · refine ⟨_, rfl, _, _, rfl, rfl, ?_⟩
        rw [e1, Bool.true_and] at q
        exact q
      · rw [Bool.not_eq_true _ |>.mp e1, Bool.false_and] at q
        exact q
    | bl x =>
      refine ⟨_, rfl, _, _, _, _, true, rfl, .ty "int", .base (.bl x), kit_ty (show kitB "bool" "int" = some true by decide +kernel), true, rfl, ?_⟩
      refine ⟨_, rfl, _, _, _, _, true, rfl, .ty "bool", .base (.bl x), kit_ty (show kitB "bool" "bool" = some true by decide +kernel), true, rfl, ?_⟩
      exact ⟨false, rfl, q⟩
    | non => exact ⟨_, rfl, _, _, _, _, false, rfl, .ty "int", .base .non, kit_ty (show kitB "NoneType" "int" = some false by decide +kernel), false, rfl, q⟩
    | str z l => exact ⟨_, rfl, _, _, _, _, false, rfl, .ty "int", .base (.str z), kit_ty (show kitB "str" "int" = some false by decide +kernel), false, rfl, q⟩
    | tup sq _ => exact ⟨_, rfl, _, _, _, _, false, rfl, .ty "int", ty_tup sq, kit_ty (show kitB "tuple" "int" = some false by decide +kernel), false, rfl, q⟩
    | lst n e => exact ⟨_, rfl, _, _, _, _, false, rfl, .ty "int", .base (.lst e), kit_ty (show kitB "list" "int" = some false by decide +kernel), false, rfl, q⟩
    | dct n e => exact ⟨_, rfl, _, _, _, _, false, rfl, .ty "int", .base (.dK e), kit_ty (show kitB "dict" "int" = some false by decide +kernel), false, rfl, q⟩
end
end FS

set_option Elab.async false
set_option linter.all false
set_option maxRecDepth 100000
set_option maxHeartbeats 4000000
namespace FS
open PySem PySem.Spec PyProof.Rows L2
section
variable {P : Program} {w : World} {K : PySem.W.Frag} {mg : Str → Option Value} {base : Heap}
abbrev NAis_name : List Str := ["value", "letter"]
theorem scAis_name : FnScope NAis_name ["value"] (defScope sis_name) := ⟨rfl, rfl, rfl, by decide +kernel, rfl, by decide +kernel, by decide +kernel⟩
theorem okA_is_name {f : Addr} {fd : FuncData} (F : Fun K "is_name" "is_name" sis_name f fd) (T : Nm K mg) : FnOk P w K mg base CX0 1 f fd ["value"] (spNameA K) := by
  have nd := scAis_name.nd
  refine F.ok scAis_name (fun vs H Q E h => ?_) (fun cdv A outer s H vs Q E hr h => ?_)
  · obtain ⟨D, v, d, rfl, hd, q⟩ := h
    rfl
  · obtain ⟨D, v, d, rfl, hd, q⟩ := h
    obtain ⟨t8, g8⟩ := T.g_MAX_LETTERS
    refine ⟨_, (pss_cons (ps_if (PW.pt (pw_or (pt_not (pt_val (pe_callB call_isi (by rfl) T.b_isinstance (by decide +kernel) (pa_cons (pv 0) (pa_cons (pe_bltn (v := .ty "str") (by rfl) T.b_str (by decide +kernel) rfl) pa_nil))))) (pw_or1 (pt_not (pt_chain op_le op_le pe_int (pe_callB call_len (by rfl) T.b_len PySem.boot_len (pa_cons (pv 0) pa_nil)) (pe_glob (v := .int 8) (by rfl) g8 ⟨_, rfl⟩))))))
  (pss_one (ps_ret pe_bl))
  pss_nil)
  (pss_one (ps_ret (pe_callB (cr_all rfl) (by rfl) T.b_all (by decide +kernel) (pa_cons (pe_lc (own := [("letter", 1)]) (g := gName 1) (tt := tYes) rfl nd (pi_str (pv 0)) (blkOk_by (own := [("letter", 1)]) (N := NAis_name) (sc := defScope sis_name) (by decide +kernel)) (fun _ _ _ _ _ => (pg_name (i := 1) nd rfl (Or.inl rfl))) (fun _ _ _ _ _ => pts_nil) (fun _ _ _ _ _ => (pe_chain op_le_str op_le_str pe_str (pv 1) pe_str))) pa_nil))))), ?_⟩

    cases hd with
    | str z hl0 =>
      have hl : z.length ≤ 1000 := hl0.1
      have q : ∀ H', Same H H' → Q (.bl (wordB z)) H' := q
      refine ⟨_, rfl, _, _, _, _, true, rfl, .ty "str", .base (.str z), kit_ty (show kitB "str" "str" = some true by decide +kernel), true, rfl, ?_⟩
      have hz : z.length ≤ sizeLine := Nat.le_trans hl (by decide)
      have ez : z.length = z.cps.toList.length := by simp [Str.length]
      refine iteF ?_
      refine ⟨_, rfl, _, _, rfl, ⟨hz, rfl⟩, _, _, rfl, rfl, _, rfl, ite2 (fun e1 => ?_) (fun e1 => ?_)⟩
      · refine ⟨_, _, rfl, rfl, _, rfl, ite2 (fun e2 => ?_) (fun e2 => ?_)⟩
        · have n8 : ¬ (z.length : Int) ≤ 8 := by simpa using e2
          have w0 : wordB z = false := by
            show (decide _ && _) = false
            rw [decide_eq_false (fun h => n8 h.2)]
            rfl
          have q1 := q H (.refl H)
          rw [w0] at q1
          exact q1
        · have n8 : (z.length : Int) ≤ 8 := by simpa using e2
          have n1 : 1 ≤ (z.length : Int) := of_decide_eq_true e1
          have w0 : wordB z = z.cps.toList.all sgn := by
            show (decide _ && _) = _
            rw [decide_eq_true ⟨n1, n8⟩]
            rfl
          refine ⟨_, rfl, z, rfl, fun D nD => ?_⟩
          refine lc_it walk_str (fun i H' => Same H H' ∧ H' D = some (.lst (((z.cps.toList.take i).map sgn).map V.bl))) ⟨same_upd nD, upd_same⟩ (fun _ _ _ _ => trivial) (fun i x H1 H2 hi hp hy => ?_) (fun H' hp => ?_)
          · obtain ⟨rfl, c, hc, rfl⟩ := hy
            obtain ⟨sm, eD⟩ := hp
            refine ⟨rfl, ?_⟩
            have fin : ∀ b : Bool, b = sgn c → ∃ acc, H2 D = some (.lst acc) ∧ acc.length < sizeLine ∧ Same H (upd H2 D (.lst (acc ++ [V.bl b]))) ∧ (upd H2 D (.lst (acc ++ [V.bl b]))) D = some (.lst (((z.cps.toList.take (i + 1)).map sgn).map V.bl)) := fun b hb => by
              refine ⟨_, eD, ?_, fun p o e => ?_, ?_⟩
              · rw [List.length_map, List.length_map, List.length_take]
                exact Nat.lt_of_le_of_lt (Nat.min_le_right _ _) (small1000 (by omega))
              · rw [upd_ne (ne_of_none e nD)]
                exact sm _ _ e
              · rw [upd_same, take_one sgn (getE hc), List.map_append, hb]
                rfl
            refine ⟨_, rfl, _, _, rfl, rfl, _, rfl, ite2 (fun e3 => ?_) (fun e3 => ?_)⟩
            · refine ⟨_, _, rfl, rfl, fin _ ?_⟩
              unfold sgn
              rw [e3, Bool.true_and]
            · refine fin _ ?_
              unfold sgn
              rw [Bool.not_eq_true _ |>.mp e3, Bool.false_and]
          · obtain ⟨sm, eD⟩ := hp
            refine ⟨D, _, rfl, .inl (.inl eD), ?_⟩
            have e4 : z.cps.toList.take z.cps.size = z.cps.toList := List.take_of_length_le (by simp)
            rw [e4, all_map, ← w0]
            exact q _ sm
      · have n1 : ¬ 1 ≤ (z.length : Int) := by simpa using e1
        have w0 : wordB z = false := by
          show (decide _ && _) = false
          rw [decide_eq_false (fun h => n1 h.1)]
          rfl
        have q1 := q H (.refl H)
        rw [w0] at q1
        exact ⟨_, rfl, q1⟩
    | non => exact ⟨_, rfl, _, _, _, _, false, rfl, .ty "str", .base .non, kit_ty (show kitB "NoneType" "str" = some false by decide +kernel), false, rfl, iteT (q H (.refl H))⟩
    | bl b => exact ⟨_, rfl, _, _, _, _, false, rfl, .ty "str", .base (.bl b), kit_ty (show kitB "bool" "str" = some false by decide +kernel), false, rfl, iteT (q H (.refl H))⟩
    | int i => exact ⟨_, rfl, _, _, _, _, false, rfl, .ty "str", .base (.int i), kit_ty (show kitB "int" "str" = some false by decide +kernel), false, rfl, iteT (q H (.refl H))⟩
    | tup sq rr => exact ⟨_, rfl, _, _, _, _, false, rfl, .ty "str", ty_tup sq, kit_ty (show kitB "tuple" "str" = some false by decide +kernel), false, rfl, iteT (q H (.refl H))⟩
    | lst n e => exact ⟨_, rfl, _, _, _, _, false, rfl, .ty "str", .base (.lst e), kit_ty (show kitB "list" "str" = some false by decide +kernel), false, rfl, iteT (q H (.refl H))⟩
    | dct n e => exact ⟨_, rfl, _, _, _, _, false, rfl, .ty "str", .base (.dK e), kit_ty (show kitB "dict" "str" = some false by decide +kernel), false, rfl, iteT (q H (.refl H))⟩
end
end FS

set_option Elab.async false
set_option linter.all false
set_option maxRecDepth 100000
set_option maxHeartbeats 4000000
namespace FS
open PySem PySem.Spec PyProof.Rows L2
section
variable {P : Program} {w : World} {K : PySem.W.Frag} {mg : Str → Option Value} {base : Heap}
abbrev N_law_is_word : List Str := ["_law_value", "_law_one"]
theorem sc_law_is_word : FnScope N_law_is_word ["_law_value"] (defScope s_law_is_word) := ⟨rfl, rfl, rfl, by decide +kernel, rfl, by decide +kernel, by decide +kernel⟩
theorem ok_l_is_word {f : Addr} {fd : FuncData} (F : Fun K "_law_is_word" "_law_is_word" s_law_is_word f fd) (T : Nm K mg) : FnOk P w K mg base CX0 2 f fd ["_law_value"] (spNameA K) := by
  have nd := sc_law_is_word.nd
  refine F.ok sc_law_is_word (fun vs H Q E h => ?_) (fun cdv A outer s H vs Q E hr h => ?_)
  · obtain ⟨D, v, d, rfl, hd, q⟩ := h
    rfl
  · obtain ⟨D, v, d, rfl, hd, q⟩ := h
    skip
    refine ⟨_, (pss_cons (ps_if (PW.pt (pw_or (pt_not (pt_val (pe_callB call_isi (by rfl) T.b_isinstance (by decide +kernel) (pa_cons (pv 0) (pa_cons (pe_bltn (v := .ty "str") (by rfl) T.b_str (by decide +kernel) rfl) pa_nil))))) (pw_or1 (pt_not (pt_chain op_le op_le pe_int (pe_callB call_len (by rfl) T.b_len PySem.boot_len (pa_cons (pv 0) pa_nil)) pe_int)))))
  (pss_one (ps_ret pe_bl))
  pss_nil)
  (pss_one (ps_ret (pe_cmpR (op_eqL0 hr) (pe_lc (own := [("_law_one", 1)]) (g := gName 1) rfl nd (pi_str (pv 0)) (blkOk_by (own := [("_law_one", 1)]) (N := N_law_is_word) (sc := defScope s_law_is_word) (by decide +kernel)) (fun _ _ _ _ _ => (pg_name (i := 1) nd rfl (Or.inl rfl))) (fun _ _ _ _ _ => pts_one (pt_not (pt_chain op_le_str op_le_str pe_str (pv 1) pe_str))) (fun _ _ _ _ _ => (pv 1))) (pe_lst pa_nil) (nomark _))))), ?_⟩

    cases hd with
    | str z hl0 =>
      have hl : z.length ≤ 1000 := hl0.1
      have q : ∀ H', Same H H' → Q (.bl (wordB z)) H' := q
      refine ⟨_, rfl, _, _, _, _, true, rfl, .ty "str", .base (.str z), kit_ty (show kitB "str" "str" = some true by decide +kernel), true, rfl, ?_⟩
      have hz : z.length ≤ sizeLine := Nat.le_trans hl (by decide)
      have ez : z.length = z.cps.toList.length := by simp [Str.length]
      refine iteF ?_
      refine ⟨_, rfl, _, _, rfl, ⟨hz, rfl⟩, _, _, rfl, rfl, _, rfl, ite2 (fun e1 => ?_) (fun e1 => ?_)⟩
      · refine ⟨_, _, rfl, rfl, _, rfl, ite2 (fun e2 => ?_) (fun e2 => ?_)⟩
        · have n8 : ¬ (z.length : Int) ≤ 8 := by simpa using e2
          have w0 : wordB z = false := by
            show (decide _ && _) = false
            rw [decide_eq_false (fun h => n8 h.2)]
            rfl
          have q1 := q H (.refl H)
          rw [w0] at q1
          exact q1
        · have n8 : (z.length : Int) ≤ 8 := by simpa using e2
          have n1 : 1 ≤ (z.length : Int) := of_decide_eq_true e1
          have w0 : wordB z = z.cps.toList.all sgn := by
            show (decide _ && _) = _
            rw [decide_eq_true ⟨n1, n8⟩]
            rfl
          refine ⟨_, rfl, z, rfl, fun L nL => ?_⟩
          refine lc_it walk_str (fun i H' => Same H H' ∧ ∃ xs, H' L = some (.lst xs) ∧ xs.length ≤ i ∧ xs.isEmpty = (z.cps.toList.take i).all sgn) ⟨same_upd nL, [], upd_same, Nat.le_refl _, rfl⟩ (fun _ _ _ _ => trivial) (fun i x H1 H2 hi hp hy => ?_) (fun H' hp => ?_)
          · obtain ⟨rfl, c, hc, rfl⟩ := hy
            obtain ⟨sm, xs, eD, lx, em⟩ := hp
            have tk : (z.cps.toList.take (i + 1)).all sgn = ((z.cps.toList.take i).all sgn && sgn c) := by
              rw [take_more (getE hc), List.all_append]
              simp
            have lz : xs.length < sizeLine := by
              have : i < z.cps.toList.length := (List.getElem?_eq_some_iff.mp (getE hc)).1
              exact small1000 (by omega)
            have bad : sgn c = false → ∃ acc, H2 L = some (.lst acc) ∧ acc.length < sizeLine ∧ Same H (upd H2 L (.lst (acc ++ [V.str { cps := #[c] }]))) ∧ ∃ xs, (upd H2 L (.lst (acc ++ [V.str { cps := #[c] }]))) L = some (.lst xs) ∧ xs.length ≤ i + 1 ∧ xs.isEmpty = (z.cps.toList.take (i + 1)).all sgn := fun h => ⟨_, eD, lz, Same.set sm nL, _, upd_same, by rw [List.length_append]; show xs.length + 1 ≤ i + 1; omega, by
              rw [tk, h, Bool.and_false]
              cases xs <;> rfl⟩
            have good : sgn c = true → Same H H2 ∧ ∃ xs, H2 L = some (.lst xs) ∧ xs.length ≤ i + 1 ∧ xs.isEmpty = (z.cps.toList.take (i + 1)).all sgn := fun h => ⟨sm, xs, eD, by omega, by rw [tk, h, Bool.and_true]; exact em⟩
            refine ⟨rfl, ?_⟩
            refine ⟨_, rfl, _, _, rfl, rfl, _, rfl, ite2 (fun e3 => ?_) (fun e3 => ?_)⟩
            · refine ⟨_, _, rfl, rfl, _, rfl, ite2 (fun e5 => ?_) (fun e5 => ?_)⟩
              · refine ⟨_, rfl, bad ?_⟩
                unfold sgn
                rw [e3, Bool.true_and]
                exact Bool.not_eq_true' _ |>.mp e5
              · refine good ?_
                unfold sgn
                rw [e3, Bool.true_and]
                simpa using e5
            · refine ⟨_, rfl, iteT ⟨_, rfl, bad ?_⟩⟩
              unfold sgn
              rw [Bool.not_eq_true _ |>.mp e3, Bool.false_and]
          · obtain ⟨sm, xs, eD, lx, em⟩ := hp
            have e4 : z.cps.toList.take z.cps.size = z.cps.toList := List.take_of_length_le (by simp)
            rw [e4, ← w0] at em
            refine ⟨Nat.zero_le _, fun p np => ⟨L, p, xs, rfl, rfl, same_upd np _ _ eD, upd_same, ?_⟩⟩
            have q1 := q _ (sm.trans (same_upd (o := .lst []) np))
            rw [← em] at q1
            exact q1
      · have n1 : ¬ 1 ≤ (z.length : Int) := by simpa using e1
        have w0 : wordB z = false := by
          show (decide _ && _) = false
          rw [decide_eq_false (fun h => n1 h.1)]
          rfl
        have q1 := q H (.refl H)
        rw [w0] at q1
        exact ⟨_, rfl, q1⟩
    | non => exact ⟨_, rfl, _, _, _, _, false, rfl, .ty "str", .base .non, kit_ty (show kitB "NoneType" "str" = some false by decide +kernel), false, rfl, iteT (q H (.refl H))⟩
    | bl b => exact ⟨_, rfl, _, _, _, _, false, rfl, .ty "str", .base (.bl b), kit_ty (show kitB "bool" "str" = some false by decide +kernel), false, rfl, iteT (q H (.refl H))⟩
    | int i => exact ⟨_, rfl, _, _, _, _, false, rfl, .ty "str", .base (.int i), kit_ty (show kitB "int" "str" = some false by decide +kernel), false, rfl, iteT (q H (.refl H))⟩
    | tup sq rr => exact ⟨_, rfl, _, _, _, _, false, rfl, .ty "str", ty_tup sq, kit_ty (show kitB "tuple" "str" = some false by decide +kernel), false, rfl, iteT (q H (.refl H))⟩
    | lst n e => exact ⟨_, rfl, _, _, _, _, false, rfl, .ty "str", .base (.lst e), kit_ty (show kitB "list" "str" = some false by decide +kernel), false, rfl, iteT (q H (.refl H))⟩
    | dct n e => exact ⟨_, rfl, _, _, _, _, false, rfl, .ty "str", .base (.dK e), kit_ty (show kitB "dict" "str" = some false by decide +kernel), false, rfl, iteT (q H (.refl H))⟩
end
end FS

set_option Elab.async false
set_option linter.all false
set_option maxRecDepth 100000
set_option maxHeartbeats 4000000
namespace FS
open PySem PySem.Spec PyProof.Rows L2
section
variable {P : Program} {w : World} {K : PySem.W.Frag} {mg : Str → Option Value} {base : Heap}
abbrev N_law_is_number : List Str := ["_law_value", "_law_low", "_law_high"]
theorem sc_law_is_number : FnScope N_law_is_number ["_law_value", "_law_low", "_law_high"] (defScope s_law_is_number) := ⟨rfl, rfl, rfl, by decide +kernel, rfl, by decide +kernel, by decide +kernel⟩
theorem ok_l_is_number {f : Addr} {fd : FuncData} (F : Fun K "_law_is_number" "_law_is_number" s_law_is_number f fd) (T : Nm K mg) : FnOk P w K mg base CX0 2 f fd ["_law_value", "_law_low", "_law_high"] (spIntA K) := by
  have nd := sc_law_is_number.nd
  refine F.ok sc_law_is_number (fun vs H Q E h => ?_) (fun cdv A outer s H vs Q E hr h => ?_)
  · obtain ⟨D, v, d, a, b, rfl, hd, q⟩ := h
    rfl
  · obtain ⟨D, v, d, a, b, rfl, hd, q⟩ := h
    skip
    refine ⟨_, (pss_one (ps_ret (pe_and (pe_callB call_isi (by rfl) T.b_isinstance (by decide +kernel) (pa_cons (pv 0) (pa_cons (pe_bltn (v := .ty "int") (by rfl) T.b_int (by decide +kernel) rfl) pa_nil))) (pe_and (pe_not (pe_callB call_isi (by rfl) T.b_isinstance (by decide +kernel) (pa_cons (pv 0) (pa_cons (pe_bltn (v := .ty "bool") (by rfl) T.b_bool (by decide +kernel) rfl) pa_nil)))) (pe_one (pe_chain op_le op_le (pv 1) (pv 0) (pv 2))))))), ?_⟩

    cases hd with
    | int i =>
      have q : Q (.bl (decide (a ≤ i) && decide (i ≤ b))) H := q
      refine ⟨_, rfl, _, _, _, _, true, rfl, .ty "int", .base (.int i), kit_ty (show kitB "int" "int" = some true by decide +kernel), true, rfl, ?_⟩
      refine ⟨_, rfl, _, _, _, _, false, rfl, .ty "bool", .base (.int i), kit_ty (show kitB "int" "bool" = some false by decide +kernel), false, rfl, ?_⟩
      refine ⟨true, rfl, ?_⟩
      refine iteT ?_
      refine ⟨_, rfl, _, rfl, _, _, rfl, rfl, _, rfl, ite2 (fun e1 => ?_) (fun e1 => ?_)⟩
      · refine ⟨_, rfl, _, _, rfl, rfl, ?_⟩
        rw [e1, Bool.true_and] at q
        exact q
      · rw [Bool.not_eq_true _ |>.mp e1, Bool.false_and] at q
        exact q
    | bl x =>
      refine ⟨_, rfl, _, _, _, _, true, rfl, .ty "int", .base (.bl x), kit_ty (show kitB "bool" "int" = some true by decide +kernel), true, rfl, ?_⟩
      refine ⟨_, rfl, _, _, _, _, true, rfl, .ty "bool", .base (.bl x), kit_ty (show kitB "bool" "bool" = some true by decide +kernel), true, rfl, ?_⟩
      exact ⟨false, rfl, q⟩
    | non => exact ⟨_, rfl, _, _, _, _, false, rfl, .ty "int", .base .non, kit_ty (show kitB "NoneType" "int" = some false by decide +kernel), false, rfl, q⟩
    | str z l => exact ⟨_, rfl, _, _, _, _, false, rfl, .ty "int", .base (.str z), kit_ty (show kitB "str" "int" = some false by decide +kernel), false, rfl, q⟩
    | tup sq _ => exact ⟨_, rfl, _, _, _, _, false, rfl, .ty "int", ty_tup sq, kit_ty (show kitB "tuple" "int" = some false by decide +kernel), false, rfl, q⟩
    | lst n e => exact ⟨_, rfl, _, _, _, _, false, rfl, .ty "int", .base (.lst e), kit_ty (show kitB "list" "int" = some false by decide +kernel), false, rfl, q⟩
    | dct n e => exact ⟨_, rfl, _, _, _, _, false, rfl, .ty "int", .base (.dK e), kit_ty (show kitB "dict" "int" = some false by decide +kernel), false, rfl, q⟩
end
end FS

set_option Elab.async false
set_option linter.all false
set_option maxRecDepth 100000
set_option maxHeartbeats 4000000
namespace FS
open PySem PySem.Spec PyProof.Rows L2
section
variable {P : Program} {w : World} {K : PySem.W.Frag} {mg : Str → Option Value} {base : Heap}
abbrev N_law_are_parameters : List Str := ["_law_value", "_law_one", "_law_names"]
theorem sc_law_are_parameters : FnScope N_law_are_parameters ["_law_value"] (defScope s_law_are_parameters) := ⟨rfl, rfl, rfl, by decide +kernel, rfl, by decide +kernel, by decide +kernel⟩
theorem ok_l_are_parameters {f : Addr} {fd : FuncData} (F : Fun K "_law_are_parameters" "_law_are_parameters" s_law_are_parameters f fd) (T : Nm K mg) (Cl_is_word : Cal P w K mg base 2 "_law_is_word" ["_law_value"] (spNameA K)) : FnOk P w K mg base CX0 3 f fd ["_law_value"] (spParsA K) := by
  have nd := sc_law_are_parameters.nd
  refine F.ok sc_law_are_parameters (fun vs H Q E h => ?_) (fun cdv A outer s H vs Q E hr h => ?_)
  · obtain ⟨D, v, d, rfl, hd, q⟩ := h
    rfl
  · obtain ⟨D, v, d, rfl, hd, q⟩ := h
    skip
    refine ⟨_, (pss_cons (ps_if (PW.pt (pw_or (pt_not (pt_val (pe_callB call_isi (by rfl) T.b_isinstance (by decide +kernel) (pa_cons (pv 0) (pa_cons (pe_bltn (v := .ty "tuple") (by rfl) T.b_tuple (by decide +kernel) rfl) pa_nil))))) (pw_or1 (pt_cmpR op_gt (pe_callB call_len (by rfl) T.b_len PySem.boot_len (pa_cons (pv 0) pa_nil)) pe_int (nomark _)))))
  (pss_one (ps_ret pe_bl))
  pss_nil)
  (pss_cons (ps_for PassesOwn.never rfl (pi_tup (pv 0)) (pg_name (i := 1) nd rfl (Or.inl rfl))
  (pss_cons (ps_if (pt_not (pt_val (pe_callB call_isi (by rfl) T.b_isinstance (by decide +kernel) (pa_cons (pv 1) (pa_cons (pe_bltn (v := .ty "tuple") (by rfl) T.b_tuple (by decide +kernel) rfl) pa_nil)))))
  (pss_one (ps_ret pe_bl))
  pss_nil)
  (pss_cons (ps_if (pt_cmpR op_ne (pe_callB call_len (by rfl) T.b_len PySem.boot_len (pa_cons (pv 1) pa_nil)) pe_int (nomark _))
  (pss_one (ps_ret pe_bl))
  pss_nil)
  (pss_cons (ps_if (pt_not (pt_val (pe_own Cl_is_word (hr.mono (by decide)) (by rfl) (pa_cons (pe_ix ix_tup (pv 1) pe_int (fun _ _ => rfl)) pa_nil))))
  (pss_one (ps_ret pe_bl))
  pss_nil)
  (pss_one (ps_if (pt_cmpR (op_notInA rfl hr) (pe_ix ix_tup (pv 1) pe_int (fun _ _ => rfl)) (pe_tup (pa_cons pe_str (pa_cons pe_str pa_nil))) (by rfl))
  (pss_one (ps_ret pe_bl))
  pss_nil))))))
  (pss_cons (ps_setLc (i := 2) (own := [("_law_one", 1)]) (g := gName 1) (tt := tYes) rfl nd rfl rfl (sw_true rfl rfl rfl (by decide +kernel)) (pi_tup (pv 0)) (blkOk_by (own := [("_law_one", 1)]) (N := N_law_are_parameters) (sc := defScope s_law_are_parameters) (by decide +kernel)) (fun _ _ _ _ _ => (pg_name (i := 1) nd rfl (Or.inl rfl))) (fun _ _ _ _ _ => pts_nil) (fun _ _ _ _ _ => (pe_ix (ix_tupK (K := K) rfl) (pv 1) pe_int (fun _ _ => rfl))))
  (pss_one (ps_ret (pe_cmpR op_eq (pe_callB cr_many (by rfl) T.b_len PySem.boot_len (pa_cons (pe_callTy (cr_setS rfl) (by rfl) T.b_set (by decide +kernel) (pa_cons (pv 2) pa_nil)) pa_nil)) (pe_callB call_len (by rfl) T.b_len PySem.boot_len (pa_cons (pv 2) pa_nil)) (nomark _))))))), ?_⟩

    cases hd with
    | @tup a xs ds sq r =>
      have l : xs.length = ds.length := r.len
      have q : ∀ H', Same H H' → Q (.bl (decide (ds.length ≤ 3) && (ds.all parB && decide ((ds.map firstS).Nodup)))) H' := q
      refine ⟨_, rfl, _, _, _, _, true, rfl, .ty "tuple", ty_tup sq, kit_ty (by decide +kernel), true, rfl, ?_⟩
      refine iteF ?_
      refine ⟨_, rfl, _, _, rfl, .inr ⟨_, sq, rfl⟩, _, _, rfl, rfl, _, rfl, ite2 (fun e => ?_) (fun e => ?_)⟩
      · have e := of_decide_eq_true e
        have q1 := q H (.refl H)
        rw [decide_eq_false (by omega)] at q1
        exact q1
      have e : ¬ (3 : Int) < ((xs.length : Nat) : Int) := fun h => e (decide_eq_true h)
      rw [decide_eq_true (by omega), Bool.true_and] at q
      have bad : ∀ {H' : Hp} {d : Dat}, d ∈ ds → parB d = false → Same H H' → Q (.bl false) H' := fun hm hb s => by
        have q1 := q _ s
        have ea : ds.all parB = false := Bool.eq_false_iff.mpr fun z => by
          rw [List.all_eq_true.mp z _ hm] at hb
          cases hb
        rw [ea, Bool.false_and] at q1
        exact q1
      refine ⟨_, rfl, a, rfl, ⟨xs, sq⟩, for_tup (xs := xs) (fun i σ H' => (∃ y y2, σ = [some (.ref a), y, y2]) ∧ Same H H' ∧ (ds.take i).all parB = true) ⟨⟨_, _, rfl⟩, .refl H, rfl⟩ (fun i σ H' hi h => Same.sqT h.2.1 sq) (fun i x σ H' hx h => ?_) (fun σ H' h => ?_)⟩
      · obtain ⟨⟨y, y2, rfl⟩, sm, al⟩ := h
        obtain ⟨d, hd, dx⟩ := (r.same sm).get hx
        have md : d ∈ ds := List.mem_of_getElem? hd
        have tk : (ds.take (i + 1)).all parB = parB d := by
          rw [take_more hd, List.all_append, al]
          simp
        cases dx with
        | @tup b ys es sb rb =>
          have ly : ys.length = es.length := rb.len
          refine ⟨_, rfl, _, _, _, _, true, rfl, .ty "tuple", ty_tup sb, kit_ty (show kitB "tuple" "tuple" = some true by decide +kernel), true, rfl, iteF ?_⟩
          refine ⟨_, rfl, _, _, rfl, .inr ⟨_, sb, rfl⟩, rfl, _, rfl, ite2 (fun e2 => ?_) (fun e2 => ?_)⟩
          · have l2 : ¬ es.length = 2 := fun h => by
              have : (ys.length : Int) = 2 := by omega
              rw [this] at e2
              cases e2
            refine bad md ?_ sm
            rcases es with _ | ⟨d1, _ | ⟨d2, _ | ⟨d3, es⟩⟩⟩
            · rfl
            · rfl
            · exact absurd rfl l2
            · rfl
          · have l2 : es.length = 2 := by
              have : (ys.length : Int) = 2 := V.int.inj (by simpa using e2)
              omega
            rcases es with _ | ⟨d1, _ | ⟨d2, _ | ⟨d3, es⟩⟩⟩
            · cases l2
            · cases l2
            · have pe : parB (.tup [d1, d2]) = (nameB d1 && (["block", "wrap"] : List Str).any d2.eqS) := rfl
              cases rb with
              | @cons x1 _ _ _ h1 rb => cases rb with
                | @cons x2 _ _ _ h2 rb =>
                cases rb
                refine ⟨_, rfl, b, _, 0, _, rfl, rfl, sb, at0, D, x1, d1, rfl, h1, fun H1 s1 => ?_⟩
                refine ⟨_, rfl, ite2 (fun e1 => ?_) (fun e1 => ?_)⟩
                · refine bad md ?_ (sm.trans s1)
                  rw [pe, Bool.not_eq_true' _ |>.mp e1, Bool.false_and]
                have e1 : nameB d1 = true := by simpa using e1
                rw [e1, Bool.true_and] at pe
                refine ⟨_, rfl, b, _, 1, _, rfl, rfl, Same.sqT s1 sb, at1, by show 2 ≤ sizeLine; decide, fun p2 np2 => ?_⟩
                have s2 := s1.trans (same_upd (o := .tup ([("block" : Str), "wrap"].map V.str)) np2)
                refine ⟨D, d2, p2, [("block" : Str), "wrap"], h2.same s2, rfl, .inl (.inl upd_same), _, rfl, ite2 (fun e3 => ?_) (fun e3 => ?_)⟩
                · exact bad md (by rw [pe]; exact Bool.not_eq_true' _ |>.mp e3) (sm.trans s2)
                · exact ⟨⟨_, _, rfl⟩, sm.trans s2, by
                    rw [tk, pe]
                    cases hh : ((["block", "wrap"] : List Str).any d2.eqS) with
                    | true => rfl
                    | false => exact absurd (show (!((["block", "wrap"] : List Str).any d2.eqS)) = true by rw [hh]; rfl) e3⟩
            · cases l2
        | non => exact ⟨_, rfl, _, _, _, _, false, rfl, .ty "tuple", .base .non, kit_ty (show kitB "NoneType" "tuple" = some false by decide +kernel), false, rfl, iteT (bad md rfl sm)⟩
        | bl c => exact ⟨_, rfl, _, _, _, _, false, rfl, .ty "tuple", .base (.bl c), kit_ty (show kitB "bool" "tuple" = some false by decide +kernel), false, rfl, iteT (bad md rfl sm)⟩
        | int c => exact ⟨_, rfl, _, _, _, _, false, rfl, .ty "tuple", .base (.int c), kit_ty (show kitB "int" "tuple" = some false by decide +kernel), false, rfl, iteT (bad md rfl sm)⟩
        | str c h => exact ⟨_, rfl, _, _, _, _, false, rfl, .ty "tuple", .base (.str c), kit_ty (show kitB "str" "tuple" = some false by decide +kernel), false, rfl, iteT (bad md rfl sm)⟩
        | lst n h => exact ⟨_, rfl, _, _, _, _, false, rfl, .ty "tuple", .base (.lst h), kit_ty (show kitB "list" "tuple" = some false by decide +kernel), false, rfl, iteT (bad md rfl sm)⟩
        | dct n h => exact ⟨_, rfl, _, _, _, _, false, rfl, .ty "tuple", .base (.dK h), kit_ty (show kitB "dict" "tuple" = some false by decide +kernel), false, rfl, iteT (bad md rfl sm)⟩
      · obtain ⟨⟨y, y2, rfl⟩, sm, e5⟩ := h
        rw [l, List.take_length] at e5
        rw [e5, Bool.true_and] at q
        have ent : ∀ {H' : Hp} {i : Nat} {x : V}, Same H H' → xs[i]? = some x → ∃ b z y d2, ds[i]? = some (.tup [.str z, d2]) ∧ x = .ref b ∧ SqT K H' b [.str z, y] := fun {H' i x} sm hx => by
          obtain ⟨d, hd, dx⟩ := r.get hx
          have pb := List.all_eq_true.mp e5 d (List.mem_of_getElem? hd)
          cases d with
          | tup es =>
            rcases es with _ | ⟨d1, _ | ⟨d2, _ | ⟨d3, es⟩⟩⟩
            · cases pb
            · cases pb
            · obtain ⟨z, rfl, -⟩ := nameB_inv (Bool.and_eq_true_iff.mp (show (nameB d1 && _) = true from pb)).1
              obtain ⟨b, ys, rfl, sb, rb⟩ := (dx.same sm).tup_inv
              cases rb with
              | cons y1 rb => cases rb with
                | cons y2 rb =>
                cases rb
                obtain ⟨rfl, -⟩ := y1.str_inv
                exact ⟨b, z, _, d2, hd, rfl, sb⟩
            · cases pb
          | _ => cases pb
        refine ⟨_, rfl, a, rfl, ⟨xs, Same.sqT sm sq⟩, fun L nL => ?_⟩
        have n0 : H L = none := Same.free sm nL
        refine lc_tup (xs := xs) (fun i H2 => Same H H2 ∧ H2 L = some (.lst (((ds.take i).map firstS).map V.str))) ⟨sm.trans (same_upd nL), upd_same⟩ (fun i H' hi hp => Same.sqT hp.1 sq) (fun i x H2 hx hp => ?_) (fun H2 hp => ?_)
        · obtain ⟨sm2, e2⟩ := hp
          obtain ⟨b, z, y, d2, hd, rfl, sb⟩ := ent sm2 hx
          have li := (List.getElem?_eq_some_iff.mp hx).1
          refine ⟨rfl, _, rfl, b, _, 0, _, rfl, rfl, sb, at0, _, e2, ?_, Same.set sm2 n0, ?_⟩
          · rw [List.length_map, List.length_map, List.length_take]
            exact Nat.lt_of_le_of_lt (Nat.min_le_right _ _) (small1000 (by omega))
          · rw [upd_same, take_one firstS hd, List.map_append]
            rfl
        · obtain ⟨sm2, e2⟩ := hp
          rw [l, List.take_length] at e2
          refine ⟨_, rfl, L, ds.map firstS, rfl, .inl (.inl e2), by rw [List.length_map]; omega, fun S nS => ?_⟩
          have sS := same_upd (o := SO w S (uniq (ds.map firstS))) nS
          refine ⟨S, _, rfl, upd_same, _, rfl, _, _, rfl, .inl ⟨_, .inl (.inl (sS _ _ e2)), rfl⟩, rfl, ?_⟩
          have e3 : decide (V.int (((uniq (ds.map firstS)).length : Nat) : Int) = V.int (((((ds.map firstS).map V.str).length : Nat)) : Int)) = decide ((ds.map firstS).Nodup) := decide_eq_decide.mpr ⟨fun h => by
            have h2 := V.int.inj h
            rw [List.length_map] at h2
            exact nodup_of_uniq (by omega), fun h => by
            have := uniq_of_nodup h
            rw [this, List.length_map, List.length_map, List.length_map]⟩
          have q1 := q _ (sm2.trans sS)
          rw [← e3] at q1
          exact q1
    | non => exact ⟨_, rfl, _, _, _, _, false, rfl, .ty "tuple", .base .non, kit_ty (show kitB "NoneType" "tuple" = some false by decide +kernel), false, rfl, iteT (q H (.refl H))⟩
    | bl b => exact ⟨_, rfl, _, _, _, _, false, rfl, .ty "tuple", .base (.bl b), kit_ty (show kitB "bool" "tuple" = some false by decide +kernel), false, rfl, iteT (q H (.refl H))⟩
    | int i => exact ⟨_, rfl, _, _, _, _, false, rfl, .ty "tuple", .base (.int i), kit_ty (show kitB "int" "tuple" = some false by decide +kernel), false, rfl, iteT (q H (.refl H))⟩
    | str z l => exact ⟨_, rfl, _, _, _, _, false, rfl, .ty "tuple", .base (.str z), kit_ty (show kitB "str" "tuple" = some false by decide +kernel), false, rfl, iteT (q H (.refl H))⟩
    | lst n e => exact ⟨_, rfl, _, _, _, _, false, rfl, .ty "tuple", .base (.lst e), kit_ty (show kitB "list" "tuple" = some false by decide +kernel), false, rfl, iteT (q H (.refl H))⟩
    | dct n e => exact ⟨_, rfl, _, _, _, _, false, rfl, .ty "tuple", .base (.dK e), kit_ty (show kitB "dict" "tuple" = some false by decide +kernel), false, rfl, iteT (q H (.refl H))⟩
end
end FS

set_option Elab.async false
set_option linter.all false
set_option maxRecDepth 100000
set_option maxHeartbeats 4000000
namespace FS
open PySem PySem.Spec PyProof.Rows L2
section
variable {P : Program} {w : World} {K : PySem.W.Frag} {mg : Str → Option Value} {base : Heap}
abbrev N_law_is_piece : List Str := ["_law_value", "_law_own", "_law_deep", "_law_is_wrap", "_law_word", "_law_rest", "_law_modes", "_law_told", "_law_one"]
theorem sc_law_is_piece : FnScope N_law_is_piece ["_law_value", "_law_own", "_law_deep", "_law_is_wrap"] (defScope s_law_is_piece) := ⟨rfl, rfl, rfl, by decide +kernel, rfl, by decide +kernel, by decide +kernel⟩
theorem ok_l_is_piece {f : Addr} {fd : FuncData} (F : Fun K "_law_is_piece" "_law_is_piece" s_law_is_piece f fd) (T : Nm K mg) {n k : Nat} (hk : 3 ≤ k) (Cl_own_names : Cal P w K mg base 1 "_law_own_names" ["_law_own", "_law_kind"] (spOwn K)) (Cl_is_word : Cal P w K mg base 2 "_law_is_word" ["_law_value"] (spNameA K)) (Cl_is_number : Cal P w K mg base 2 "_law_is_number" ["_law_value", "_law_low", "_law_high"] (spIntA K)) (Cl_is_piece : Cal P w K mg base k "_law_is_piece" ["_law_value", "_law_own", "_law_deep", "_law_is_wrap"] (spPiece K n)) : FnOk P w K mg base CX0 (k + 1) f fd ["_law_value", "_law_own", "_law_deep", "_law_is_wrap"] (spPiece K (n + 1)) := by
  have nd := sc_law_is_piece.nd
  refine F.ok sc_law_is_piece (fun vs H Q E h => ?_) (fun cdv A outer s H vs Q E hr h => ?_)
  · obtain ⟨D, v, wv, d, own, m, b, rfl, hd, wd, dw, po, mn, q⟩ := h
    rfl
  · obtain ⟨D, v, wv, d, own, m, b, rfl, hd, wd, dw, po, mn, q⟩ := h
    skip
    refine ⟨_, (pss_cons (ps_if (PW.pt (pw_or (pt_not (pt_val (pe_callB call_isi (by rfl) T.b_isinstance (by decide +kernel) (pa_cons (pv 0) (pa_cons (pe_bltn (v := .ty "tuple") (by rfl) T.b_tuple (by decide +kernel) rfl) pa_nil))))) (pw_or (pt_cmpR (op_eq0 rfl hr) (pv 0) (pe_tup pa_nil) (nomark _)) (pw_or (pt_not (pt_val (pe_callB call_isi (by rfl) T.b_isinstance (by decide +kernel) (pa_cons (pe_ix ix_tup (pv 0) pe_int (fun _ _ => rfl)) (pa_cons (pe_bltn (v := .ty "str") (by rfl) T.b_str (by decide +kernel) rfl) pa_nil))))) (pw_or1 (pt_cmpR op_lt (pv 2) pe_int (nomark _)))))))
  (pss_one (ps_ret pe_bl))
  pss_nil)
  (pss_cons (ps_par (i := 4) (j := 5) (by rfl) nd rfl rfl (by decide) rfl rfl (pa_cons (pe_ix ix_tup (pv 0) pe_int (fun _ _ => rfl)) (pa_cons (pe_slice sl_tupA (pv 0) (po_some pe_int) po_none) pa_nil)) (by rfl))
  (pss_cons (ps_if (PW.pt (pw_or (PW.pt (pw_and (pt_cmpR op_in_seq (pv 4) (pe_tup (pa_cons pe_str (pa_cons pe_str pa_nil))) (by rfl)) (pw_and1 (pt_not (pt_val (pv 3)))))) (pw_or1 (PW.pt (pw_and (pt_cmpR op_notIn_seq (pv 4) (pe_tup (pa_cons pe_str (pa_cons pe_str pa_nil))) (by rfl)) (pw_and1 (pt_val (pv 3))))))))
  (pss_one (ps_ret pe_bl))
  pss_nil)
  (pss_cons (ps_if (pt_cmpR op_in_seq (pv 4) (pe_tup (pa_cons pe_str (pa_cons pe_str pa_nil))) (by rfl))
  (pss_cons (ps_if (pt_cmpR op_ne (pe_callB call_len (by rfl) T.b_len PySem.boot_len (pa_cons (pv 5) pa_nil)) pe_int (nomark _))
  (pss_one (ps_ret pe_bl))
  pss_nil)
  (pss_one (ps_ret (pe_cmpR (op_inLA (k := 0) rfl (hr.mono (by omega))) (pe_ix ix_tup (pv 5) pe_int (fun _ _ => rfl)) (pe_own Cl_own_names (hr.mono (by omega)) (by rfl) (pa_cons (pv 1) (pa_cons (pe_ifExp (pt_cmpR op_eq (pv 4) pe_str (nomark _)) pe_str pe_str) pa_nil))) (by rfl)))))
  pss_nil)
  (pss_cons (ps_if (pt_cmpR op_eq (pv 4) pe_str (nomark _))
  (pss_cons (ps_if (pt_cmpR op_ne (pe_callB call_len (by rfl) T.b_len PySem.boot_len (pa_cons (pv 5) pa_nil)) pe_int (nomark _))
  (pss_one (ps_ret pe_bl))
  pss_nil)
  (pss_cons (ps_if (pt_not (pt_val (pe_own Cl_is_word (hr.mono (by omega)) (by rfl) (pa_cons (pe_ix ix_tup (pv 5) pe_int (fun _ _ => rfl)) pa_nil))))
  (pss_one (ps_ret pe_bl))
  pss_nil)
  (pss_cons (ps_if (pt_not (pt_val (pe_callB call_isi (by rfl) T.b_isinstance (by decide +kernel) (pa_cons (pe_ix ix_tup (pv 5) pe_int (fun _ _ => rfl)) (pa_cons (pe_bltn (v := .ty "tuple") (by rfl) T.b_tuple (by decide +kernel) rfl) pa_nil)))))
  (pss_one (ps_ret pe_bl))
  pss_nil)
  (pss_cons (ps_if (pt_not (pt_chain op_le op_le pe_int (pe_callB call_len (by rfl) T.b_len PySem.boot_len (pa_cons (pe_ix ix_tup (pv 5) pe_int (fun _ _ => rfl)) pa_nil)) pe_int))
  (pss_one (ps_ret pe_bl))
  pss_nil)
  (pss_cons (ps_setLc (i := 6) (own := [("_law_one", 8)]) (g := gName 8) rfl nd rfl rfl (sw_true rfl rfl rfl (by decide +kernel)) (pi_tup (pe_ix ix_tup (pv 5) pe_int (fun _ _ => rfl))) (blkOk_by (own := [("_law_one", 8)]) (N := N_law_is_piece) (sc := defScope s_law_is_piece) (by decide +kernel)) (fun _ _ _ _ _ => (pg_name (i := 8) nd rfl (Or.inl rfl))) (fun _ _ _ _ _ => pts_one (pt_cmpR op_notN (pv 8) pe_non (nomark _))) (fun _ _ _ _ _ => (pv 8)))
  (pss_one (ps_ret (pe_cmpR (op_eqL0 hr) (pe_lc (own := [("_law_one", 8)]) (g := gName 8) rfl nd (pi_list (pv 6)) (blkOk_by (own := [("_law_one", 8)]) (N := N_law_is_piece) (sc := defScope s_law_is_piece) (by decide +kernel)) (fun _ _ _ _ _ => (pg_name (i := 8) nd rfl (Or.inl rfl))) (fun _ _ _ _ _ => pts_one (pt_not (pt_val (pe_own Cl_is_number (hr.mono (by omega)) (by rfl) (pa_cons (pv 8) (pa_cons pe_int (pa_cons pe_int pa_nil))))))) (fun _ _ _ _ _ => (pv 8))) (pe_lst pa_nil) (nomark _)))))))))
  pss_nil)
  (pss_cons (ps_if (pt_cmpR op_in_seq (pv 4) (pe_tup (pa_cons pe_str (pa_cons pe_str pa_nil))) (by rfl))
  (pss_cons (ps_if (pt_not (PW.pt (pw_or (pt_cmpR op_eq (pv 4) pe_str (nomark _)) (pw_or1 (pt_cmpR (op_ne0 rfl hr) (pv 5) (pe_tup pa_nil) (nomark _))))))
  (pss_one (ps_ret pe_bl))
  pss_nil)
  (pss_one (ps_ret (pe_cmpR op_notIn_seq pe_bl (pe_lc (own := [("_law_one", 8)]) (g := gName 8) (tt := tYes) rfl nd (pi_tup (pv 5)) (blkOk_by (own := [("_law_one", 8)]) (N := N_law_is_piece) (sc := defScope s_law_is_piece) (by decide +kernel)) (fun _ _ _ _ _ => (pg_name (i := 8) nd rfl (Or.inl rfl))) (fun _ _ _ _ _ => pts_nil) (fun _ _ _ _ _ => (pe_own Cl_is_piece (hr.mono (by omega)) (by rfl) (pa_cons (pv 8) (pa_cons (pv 1) (pa_cons (pe_op op_sub (pv 2) pe_int) (pa_cons pe_bl pa_nil))))))) (by rfl)))))
  pss_nil)
  (pss_cons (ps_if (pt_cmpR op_eq (pv 4) pe_str (nomark _))
  (pss_cons (ps_if (pt_cmpR op_ne (pe_callB call_len (by rfl) T.b_len PySem.boot_len (pa_cons (pv 5) pa_nil)) pe_int (nomark _))
  (pss_one (ps_ret pe_bl))
  pss_nil)
  (pss_cons (ps_if (pt_not (pt_val (pe_own Cl_is_piece (hr.mono (by omega)) (by rfl) (pa_cons (pe_ix ix_tup (pv 5) pe_int (fun _ _ => rfl)) (pa_cons (pv 1) (pa_cons (pe_op op_sub (pv 2) pe_int) (pa_cons pe_bl pa_nil)))))))
  (pss_one (ps_ret pe_bl))
  pss_nil)
  (pss_one (ps_ret (pe_own Cl_is_piece (hr.mono (by omega)) (by rfl) (pa_cons (pe_ix ix_tup (pv 5) pe_int (fun _ _ => rfl)) (pa_cons (pv 1) (pa_cons (pe_op op_sub (pv 2) pe_int) (pa_cons pe_bl pa_nil)))))))))
  pss_nil)
  (pss_cons (ps_if (PW.pt (pw_or (pt_cmpR op_notIn_seq (pv 4) (pe_tup (pa_cons pe_str (pa_cons pe_str pa_nil))) (by rfl)) (pw_or (pt_cmpR (op_eq0 rfl hr) (pv 5) (pe_tup pa_nil) (nomark _)) (pw_or1 (pt_not (pt_val (pe_own Cl_is_word (hr.mono (by omega)) (by rfl) (pa_cons (pe_ix ix_tup (pv 5) pe_int (fun _ _ => rfl)) pa_nil))))))))
  (pss_one (ps_ret pe_bl))
  pss_nil)
  (pss_cons (ps_setLc (i := 7) (own := [("_law_one", 8)]) (g := gName 8) (tt := tYes) rfl nd rfl rfl (sw_true rfl rfl rfl (by decide +kernel)) (pi_tup (pe_slice sl_tupA (pv 5) (po_some pe_int) po_none)) (blkOk_by (own := [("_law_one", 8)]) (N := N_law_is_piece) (sc := defScope s_law_is_piece) (by decide +kernel)) (fun _ _ _ _ _ => (pg_name (i := 8) nd rfl (Or.inl rfl))) (fun _ _ _ _ _ => pts_nil) (fun _ _ _ _ _ => (pe_or (pe_own Cl_is_piece (hr.mono (by omega)) (by rfl) (pa_cons (pv 8) (pa_cons (pv 1) (pa_cons (pe_op op_sub (pv 2) pe_int) (pa_cons pe_bl pa_nil))))) (pe_one (pe_own Cl_is_piece (hr.mono (by omega)) (by rfl) (pa_cons (pv 8) (pa_cons (pv 1) (pa_cons (pe_op op_sub (pv 2) pe_int) (pa_cons pe_bl pa_nil)))))))))
  (pss_one (ps_ret (pe_cmpR op_notIn_seq pe_bl (pv 7) (by rfl))))))))))))), ?_⟩

    have q0 : pieceB own m d b = false → ∀ {H'}, Same H H' → Q (.bl false) H' := fun e {H'} s => by
      have q1 := q _ s
      rw [e] at q1
      exact q1
    cases hd with
    | @tup a xs0 ds0 sq r0 =>
      refine ⟨_, rfl, _, _, _, _, true, rfl, .ty "tuple", ty_tup sq, kit_ty (by decide +kernel), true, rfl, iteF ?_⟩
      refine ⟨_, rfl, Nat.zero_le _, fun p np => ?_⟩
      have s1 := same_upd (o := .tup []) np
      refine ⟨a, p, xs0, rfl, rfl, Same.sqT s1 sq, .inl (.inl upd_same), _, rfl, ?_⟩
      generalize upd H p (.tup []) = H1 at s1 ⊢
      cases r0 with
      | nil => exact iteT (q0 (p_other (by intro z ds e; cases e)) s1)
      | @cons x0 d0 xs ds hz r =>
      refine iteF ?_
      have sq1 := Same.sqT s1 sq
      have hz := hz.same s1
      cases hz with
      | non => exact ⟨_, rfl, a, _, 0, _, rfl, rfl, sq1, at0, _, _, _, _, false, rfl, .ty "str", .base .non, kit_ty (show kitB "NoneType" "str" = some false by decide +kernel), false, rfl, iteT (q0 (p_other (by intro z ds e; cases e)) s1)⟩
      | bl bb => exact ⟨_, rfl, a, _, 0, _, rfl, rfl, sq1, at0, _, _, _, _, false, rfl, .ty "str", .base (.bl bb), kit_ty (show kitB "bool" "str" = some false by decide +kernel), false, rfl, iteT (q0 (p_other (by intro z ds e; cases e)) s1)⟩
      | int ii => exact ⟨_, rfl, a, _, 0, _, rfl, rfl, sq1, at0, _, _, _, _, false, rfl, .ty "str", .base (.int ii), kit_ty (show kitB "int" "str" = some false by decide +kernel), false, rfl, iteT (q0 (p_other (by intro z ds e; cases e)) s1)⟩
      | tup sqq rr => exact ⟨_, rfl, a, _, 0, _, rfl, rfl, sq1, at0, _, _, _, _, false, rfl, .ty "str", ty_tup sqq, kit_ty (show kitB "tuple" "str" = some false by decide +kernel), false, rfl, iteT (q0 (p_other (by intro z ds e; cases e)) s1)⟩
      | lst nn ee => exact ⟨_, rfl, a, _, 0, _, rfl, rfl, sq1, at0, _, _, _, _, false, rfl, .ty "str", .base (.lst ee), kit_ty (show kitB "list" "str" = some false by decide +kernel), false, rfl, iteT (q0 (p_other (by intro z ds e; cases e)) s1)⟩
      | dct nn ee => exact ⟨_, rfl, a, _, 0, _, rfl, rfl, sq1, at0, _, _, _, _, false, rfl, .ty "str", .base (.dK ee), kit_ty (show kitB "dict" "str" = some false by decide +kernel), false, rfl, iteT (q0 (p_other (by intro z ds e; cases e)) s1)⟩
      | str z hz0 =>
      refine ⟨_, rfl, a, _, 0, _, rfl, rfl, sq1, at0, _, _, _, _, true, rfl, .ty "str", .base (.str z), kit_ty (show kitB "str" "str" = some true by decide +kernel), true, rfl, iteF ?_⟩
      refine ⟨_, rfl, _, _, rfl, rfl, _, rfl, ite2 (fun e => ?_) (fun e => ?_)⟩
      · have e : (m : Int) < 1 := of_decide_eq_true e
        have m0 : m = 0 := by omega
        subst m0
        exact q0 p_zero s1
      have e : ¬ (m : Int) < 1 := fun h => e (decide_eq_true h)
      obtain ⟨j, rfl⟩ : ∃ j, m = j + 1 := ⟨m - 1, by omega⟩
      have lx : xs.length = ds.length := r.len
      refine ⟨_, rfl, a, _, 0, _, rfl, rfl, sq1, at0, _, rfl, _, rfl, ?_⟩
      dsimp only [tNoPart]
      refine cut_tup (k := 1) sq1 (by decide) (List.cons_ne_nil _ _) fun H2 ra s2' sqr' => ?_
      have sqr : SqT K H2 ra xs := sqr'
      have s2 := s1.trans s2'
      clear sqr' s2'
      have r2 := r.same s2
      have dw2 := Dp.stay (.of s2) (pars_noL own) dw
      have wl : ds.length + 1 ≤ 1000 := Nat.le_trans (Nat.le_max_left (ds.length + 1) _) wd
      have wds : ∀ d ∈ ds, d.wide ≤ 1000 := fun d hd => by
        have h1 := widesD_mem (ds := .str z :: ds) (List.mem_cons_of_mem _ hd)
        have h2 := Nat.le_trans (Nat.le_max_right (ds.length + 1) (widesD (.str z :: ds))) wd
        omega
      clear sq1 s1 sq r e
      refine ⟨_, _, rfl, ?_⟩
      refine seq_gen (P := fun σ' H' => σ' = [some (.ref a), some wv, some (.int ((j + 1 : Nat) : Int)), some (.bl b), some (.str z), some (.ref ra), none, none, none] ∧ Same H2 H' ∧ wW z = b) (fun N hN => ?_) ?_
      · cases hw : wW z with
        | true =>
          refine ⟨_, rfl, by show 2 ≤ sizeLine; decide, fun p2 np2 => ?_⟩
          have s3 := Same.trans (.refl H2) (same_upd (o := .tup ([("own" : Str), "with"].map V.str)) np2)
          refine ⟨p2, [("own" : Str), "with"].map V.str, rfl, .inr (.inl (.inl upd_same)), rfl, flat_strs _, _, rfl, ?_⟩
          rw [inV_strs]
          have e : decide (z ∈ (["own", "with"] : List Str)) = true := hw
          rw [e]
          refine iteT ?_
          cases b with
          | false => exact ⟨_, rfl, _, rfl, iteT (q0 (p_kind (by rw [hw]; simp)) (s2.trans s3))⟩
          | true =>
            refine ⟨_, rfl, _, rfl, iteF ?_⟩
            refine ⟨_, rfl, by show 2 ≤ sizeLine; decide, fun p3 np3 => ?_⟩
            have s4 := Same.trans s3 (same_upd (o := .tup ([("own" : Str), "with"].map V.str)) np3)
            refine ⟨p3, [("own" : Str), "with"].map V.str, rfl, .inr (.inl (.inl upd_same)), rfl, flat_strs _, _, rfl, ?_⟩
            rw [inV_strs]
            rw [e]
            refine iteF ?_
            exact iteF (hN _ _ ⟨rfl, s4, hw⟩)
        | false =>
          refine ⟨_, rfl, by show 2 ≤ sizeLine; decide, fun p2 np2 => ?_⟩
          have s3 := Same.trans (.refl H2) (same_upd (o := .tup ([("own" : Str), "with"].map V.str)) np2)
          refine ⟨p2, [("own" : Str), "with"].map V.str, rfl, .inr (.inl (.inl upd_same)), rfl, flat_strs _, _, rfl, ?_⟩
          rw [inV_strs]
          have e : decide (z ∈ (["own", "with"] : List Str)) = false := hw
          rw [e]
          refine iteF ?_
          refine ⟨_, rfl, by show 2 ≤ sizeLine; decide, fun p3 np3 => ?_⟩
          have s4 := Same.trans s3 (same_upd (o := .tup ([("own" : Str), "with"].map V.str)) np3)
          refine ⟨p3, [("own" : Str), "with"].map V.str, rfl, .inr (.inl (.inl upd_same)), rfl, flat_strs _, _, rfl, ?_⟩
          rw [inV_strs]
          rw [e]
          refine iteT ?_
          cases b with
          | true => exact ⟨_, rfl, _, rfl, iteT (q0 (p_kind (by rw [hw]; simp)) (s2.trans s4))⟩
          | false => exact ⟨_, rfl, _, rfl, iteF (hN _ _ ⟨rfl, s4, hw⟩)⟩
      rintro σ1 H3 ⟨rfl, s3, hw⟩
      refine seq_gen (P := fun σ' H' => σ' = [some (.ref a), some wv, some (.int ((j + 1 : Nat) : Int)), some (.bl b), some (.str z), some (.ref ra), none, none, none] ∧ Same H2 H' ∧ z ∉ (["run", "own"] : List Str)) (fun N hN => ?_) ?_
      · refine ⟨_, rfl, by show 2 ≤ sizeLine; decide, fun p4 np4 => ?_⟩
        have s4 := Same.trans s3 (same_upd (o := .tup ([("run" : Str), "own"].map V.str)) np4)
        refine ⟨p4, [("run" : Str), "own"].map V.str, rfl, .inr (.inl (.inl upd_same)), rfl, flat_strs _, _, rfl, ?_⟩
        rw [inV_strs]

        refine ite2 (fun e => ?_) (fun e => hN _ _ ⟨rfl, s4, fun h => e (decide_eq_true h)⟩)
        have e := of_decide_eq_true e
        have q1 := q
        rw [p_one hw e] at q1
        change Same _ (upd H3 p4 (.tup [V.str "run", V.str "own"])) at s4
        generalize upd H3 p4 (.tup [V.str "run", V.str "own"]) = H4 at s4 ⊢
        refine ⟨_, rfl, _, _, rfl, .inr ⟨_, Same.sqT s4 sqr, rfl⟩, rfl, _, rfl, ite2 (fun e2 => ?_) (fun e2 => ?_)⟩
        · have l2 : ds.length ≠ 1 := fun h => by
            have : (xs.length : Int) = 1 := by omega
            rw [this] at e2
            cases e2
          rcases ds with _ | ⟨d1, _ | ⟨d2, ds⟩⟩
          · exact q1 _ (s2.trans s4)
          · exact absurd rfl l2
          · exact q1 _ (s2.trans s4)
        · have l2 : ds.length = 1 := by
            have : (xs.length : Int) = 1 := V.int.inj (by simpa using e2)
            omega
          rcases ds with _ | ⟨d1, _ | ⟨d2, ds⟩⟩
          · cases l2
          · cases r2 with
            | @cons x1 _ _ _ h1 r2 =>
              cases r2
              refine ⟨_, rfl, ra, _, 0, _, rfl, rfl, Same.sqT s4 sqr, at0, ?_⟩
              have go : ∀ kk : Bool, (∀ H', Same H H' → Q (.bl (hasB own d1 kk)) H') → spOwn K [wv, .str (kd kk)] H4 (fun y H2 => rInLA K x1 y H2 Q) E0 := fun kk q2 => ⟨wv, own, kk, rfl, Dp.stay (.of s4) (pars_noL own) dw2, by have := po.few; omega, fun H5 p s5 np e5 => ⟨D, d1, p, namesOf own kk, (h1.same s4).same s5, rfl, e5, by rw [names_hasB]; exact q2 _ ((s2.trans s4).trans s5)⟩⟩
              simp only [List.mem_cons, List.not_mem_nil, or_false] at e
              rcases e with rfl | rfl
              · have eb : b = false := hw.symm.trans (by decide +kernel)
                subst eb
                exact ⟨_, rfl, _, rfl, rfl, _, rfl, go false q1⟩
              · have eb : b = true := hw.symm.trans (by decide +kernel)
                subst eb
                exact ⟨_, rfl, _, rfl, rfl, _, rfl, go true q1⟩
          · cases l2
      rintro σ1 H3 ⟨rfl, s3, nz1⟩
      have ej : (((j + 1 : Nat) : Int) - 1) = (j : Int) := by omega
      have eqz : ∀ y : Str, decide (V.str z = V.str y) = decide (z = y) := fun y => by
        by_cases e : z = y <;> simp [e]
      refine seq_gen (P := fun σ' H' => σ' = [some (.ref a), some wv, some (.int ((j + 1 : Nat) : Int)), some (.bl b), some (.str z), some (.ref ra), none, none, none] ∧ Same H2 H' ∧ z ≠ "do") (fun N hN => ?_) ?_
      · refine ⟨_, rfl, rfl, _, rfl, ?_⟩
        rw [eqz]
        refine ite2 (fun e => ?_) (fun e => hN _ _ ⟨rfl, s3, fun h => e (decide_eq_true h)⟩)
        have e := of_decide_eq_true e
        subst e
        have q1 := q
        rw [p_do hw] at q1
        have sqr := Same.sqT s3 sqr
        have r2 := r2.same s3
        have s2 := s2.trans s3
        refine ⟨_, rfl, _, _, rfl, .inr ⟨_, sqr, rfl⟩, rfl, _, rfl, ite2 (fun e2 => ?_) (fun e2 => ?_)⟩
        · have l2 : ds.length ≠ 2 := fun h => by
            have : (xs.length : Int) = 2 := by omega
            rw [this] at e2
            cases e2
          rcases ds with _ | ⟨d1, _ | ⟨d2, _ | ⟨d3, ds⟩⟩⟩
          · exact q1 _ s2
          · exact q1 _ s2
          · exact absurd rfl l2
          · exact q1 _ s2
        have l2 : ds.length = 2 := by
          have : (xs.length : Int) = 2 := V.int.inj (by simpa using e2)
          omega
        rcases ds with _ | ⟨d1, _ | ⟨d2, _ | ⟨d3, ds⟩⟩⟩
        · cases l2
        · cases l2
        · have q1 : ∀ H', Same H H' → Q (.bl (nameB d1 && tabB d2)) H' := q1
          cases r2 with
          | @cons x1 _ _ _ h1 r2 => cases r2 with
            | @cons x2 _ _ _ h2 r2 =>
            cases r2
            refine ⟨_, rfl, ra, _, 0, _, rfl, rfl, sqr, at0, D, x1, d1, rfl, h1, fun H4 s4 => ?_⟩
            refine ⟨_, rfl, ite2 (fun e1 => ?_) (fun e1 => ?_)⟩
            · have q2 := q1 _ (s2.trans s4)
              rw [Bool.not_eq_true' _ |>.mp e1, Bool.false_and] at q2
              exact q2
            have e1 : nameB d1 = true := by simpa using e1
            rw [e1] at q1
            have q1 : ∀ H', Same H H' → Q (.bl (tabB d2)) H' := q1
            have sqr := Same.sqT s4 sqr
            have h2 := h2.same s4
            have s2 := s2.trans s4
            cases h2 with
            | non => exact ⟨_, rfl, ra, _, 1, _, rfl, rfl, sqr, at1, _, _, _, _, false, rfl, .ty "tuple", .base .non, kit_ty (show kitB "NoneType" "tuple" = some false by decide +kernel), false, rfl, iteT (q1 _ s2)⟩
            | bl bb => exact ⟨_, rfl, ra, _, 1, _, rfl, rfl, sqr, at1, _, _, _, _, false, rfl, .ty "tuple", .base (.bl bb), kit_ty (show kitB "bool" "tuple" = some false by decide +kernel), false, rfl, iteT (q1 _ s2)⟩
            | int ii => exact ⟨_, rfl, ra, _, 1, _, rfl, rfl, sqr, at1, _, _, _, _, false, rfl, .ty "tuple", .base (.int ii), kit_ty (show kitB "int" "tuple" = some false by decide +kernel), false, rfl, iteT (q1 _ s2)⟩
            | str zz ll => exact ⟨_, rfl, ra, _, 1, _, rfl, rfl, sqr, at1, _, _, _, _, false, rfl, .ty "tuple", .base (.str zz), kit_ty (show kitB "str" "tuple" = some false by decide +kernel), false, rfl, iteT (q1 _ s2)⟩
            | lst nn ee => exact ⟨_, rfl, ra, _, 1, _, rfl, rfl, sqr, at1, _, _, _, _, false, rfl, .ty "tuple", .base (.lst ee), kit_ty (show kitB "list" "tuple" = some false by decide +kernel), false, rfl, iteT (q1 _ s2)⟩
            | dct nn ee => exact ⟨_, rfl, ra, _, 1, _, rfl, rfl, sqr, at1, _, _, _, _, false, rfl, .ty "tuple", .base (.dK ee), kit_ty (show kitB "dict" "tuple" = some false by decide +kernel), false, rfl, iteT (q1 _ s2)⟩
            | @tup b2 ys es sb rb =>
              have ly : ys.length = es.length := rb.len
              have tb : tabB (.tup es) = (decide (1 ≤ es.length ∧ es.length ≤ 3) && es.all entryB) := rfl
              refine ⟨_, rfl, ra, _, 1, _, rfl, rfl, sqr, at1, _, _, _, _, true, rfl, .ty "tuple", ty_tup sb, kit_ty (show kitB "tuple" "tuple" = some true by decide +kernel), true, rfl, iteF ?_⟩
              have bad : tabB (.tup es) = false → ∀ {H'}, Same H H' → Q (.bl false) H' := fun e {H'} s => by
                have q2 := q1 _ s
                rw [e] at q2
                exact q2
              have cbad : ¬ (1 ≤ es.length ∧ es.length ≤ 3) → tabB (.tup es) = false := fun h => by
                rw [tb, decide_eq_false h]
                rfl
              refine ⟨_, rfl, ra, _, 1, _, rfl, rfl, sqr, at1, _, _, rfl, .inr ⟨_, sb, rfl⟩, _, _, rfl, rfl, _, rfl, ite2 (fun e3 => ?_) (fun e3 => ?_)⟩
              · refine ⟨_, _, rfl, rfl, _, rfl, ite2 (fun e4 => ?_) (fun e4 => ?_)⟩
                · have n8 : ¬ (ys.length : Int) ≤ 3 := by simpa using e4
                  exact bad (cbad (by omega)) s2
                · have n8 : (ys.length : Int) ≤ 3 := by simpa using e4
                  have n1 : 1 ≤ (ys.length : Int) := of_decide_eq_true e3
                  rw [decide_eq_true (by omega), Bool.true_and, entries_filt] at tb
                  have rf := rb.filt
                  have lf : (ys.filter fun x => !decide (x = V.non)).length ≤ ys.length := List.length_filter_le _ _
                  refine ⟨_, rfl, ra, _, 1, _, rfl, rfl, sqr, at1, b2, rfl, ⟨ys, sb⟩, fun L nL => ?_⟩
                  refine lc_tup (xs := ys) (fun i H' => Same H4 H' ∧ H' L = some (.lst ((ys.take i).filter fun x => !decide (x = V.non)))) ⟨same_upd nL, upd_same⟩ (fun i H' hi h => Same.sqT h.1 sb) (fun i x H5 hx h => ?_) (fun H5 h => ?_)
                  · obtain ⟨sm, eD⟩ := h
                    have tk : (ys.take (i + 1)).filter (fun x => !decide (x = V.non)) = (ys.take i).filter (fun x => !decide (x = V.non)) ++ (if (!decide (x = V.non)) = true then [x] else []) := by
                      rw [take_more hx, List.filter_append, List.filter_cons]
                      rfl
                    have lt : ((ys.take i).filter fun x => !decide (x = V.non)).length < sizeLine := by
                      refine Nat.lt_of_le_of_lt (List.length_filter_le _ _) ?_
                      rw [List.length_take]
                      exact Nat.lt_of_le_of_lt (Nat.min_le_right _ _) (small1000 (by omega))
                    refine ⟨rfl, _, rfl, rfl, _, rfl, ?_⟩
                    by_cases ex : x = V.non
                    · rw [decide_eq_true ex] at tk ⊢
                      refine iteF ⟨sm, ?_⟩
                      rw [tk]
                      simpa using eD
                    · rw [decide_eq_false ex] at tk ⊢
                      exact iteT ⟨_, rfl, _, eD, lt, Same.set sm nL, by rw [upd_same, tk]; rfl⟩
                  · obtain ⟨sm, eD⟩ := h
                    rw [List.take_length] at eD
                    generalize ys.filter (fun x => !decide (x = V.non)) = fs at eD rf lf
                    generalize es.filter nonB = gs at rf tb
                    refine ⟨_, rfl, L, rfl, ⟨fs, .inl (.inl eD)⟩, fun L2 nL2 => ?_⟩
                    have nL4 : H4 L2 = none := Same.free sm nL2
                    refine lc_list (xs := fs) (fun i H' => Same H5 H' ∧ ∃ zs, H' L2 = some (.lst zs) ∧ zs.length ≤ i ∧ zs.isEmpty = (gs.take i).all fun d => intB d 0 2) ⟨same_upd nL2, [], upd_same, Nat.le_refl _, rfl⟩ (fun i H' hi h => .inl (.inl (h.1 _ _ eD))) (fun i x H6 hx h => ?_) (fun H6 h => ?_)
                    · obtain ⟨sm6, zs, e6, lz, em⟩ := h
                      obtain ⟨d, hd, dx⟩ := ((rf.same sm).same sm6).get hx
                      have tk : ((gs.take (i + 1)).all fun d => intB d 0 2) = (((gs.take i).all fun d => intB d 0 2) && intB d 0 2) := by
                        rw [take_more hd, List.all_append]
                        simp
                      have li := (List.getElem?_eq_some_iff.mp hx).1
                      refine ⟨rfl, _, rfl, D, x, d, 0, 2, rfl, dx, _, rfl, ite2 (fun e7 => ?_) (fun e7 => ?_)⟩
                      · refine ⟨_, rfl, zs, e6, small1000 (by omega), Same.set sm6 nL2, _, upd_same, by rw [List.length_append]; show zs.length + 1 ≤ i + 1; omega, ?_⟩
                        rw [tk, Bool.not_eq_true' _ |>.mp e7, Bool.and_false]
                        cases zs <;> rfl
                      · refine ⟨sm6, zs, e6, by omega, ?_⟩
                        have e8 : intB d 0 2 = true := by simpa using e7
                        rw [tk, e8, Bool.and_true]
                        exact em
                    · obtain ⟨sm6, zs, e6, lz, em⟩ := h
                      rw [rf.len, List.take_length] at em
                      refine ⟨Nat.zero_le _, fun p3 np3 => ⟨L2, p3, zs, rfl, rfl, same_upd np3 _ _ e6, upd_same, ?_⟩⟩
                      have q2 := q1 _ (((s2.trans sm).trans sm6).trans (same_upd (o := .lst []) np3))
                      rw [tb, ← em] at q2
                      exact q2
              · have n1 : ¬ 1 ≤ (ys.length : Int) := by simpa using e3
                exact ⟨_, rfl, iteT (bad (cbad (by omega)) s2)⟩
        · cases l2
      rintro σ1 H3 ⟨rfl, s3, nz2⟩
      refine seq_gen (P := fun σ' H' => σ' = [some (.ref a), some wv, some (.int ((j + 1 : Nat) : Int)), some (.bl b), some (.str z), some (.ref ra), none, none, none] ∧ Same H2 H' ∧ z ∉ (["seq", "or"] : List Str)) (fun N hN => ?_) ?_
      · refine ⟨_, rfl, by show 2 ≤ sizeLine; decide, fun p4 np4 => ?_⟩
        have s4 := Same.trans s3 (same_upd (o := .tup ([("seq" : Str), "or"].map V.str)) np4)
        refine ⟨p4, [("seq" : Str), "or"].map V.str, rfl, .inr (.inl (.inl upd_same)), rfl, flat_strs _, _, rfl, ?_⟩
        rw [inV_strs]

        refine ite2 (fun e => ?_) (fun e => hN _ _ ⟨rfl, s4, fun h => e (decide_eq_true h)⟩)
        have e := of_decide_eq_true e
        have q1 := q
        rw [p_seq hw e] at q1
        change Same _ (upd H3 p4 (.tup [V.str "seq", V.str "or"])) at s4
        generalize upd H3 p4 (.tup [V.str "seq", V.str "or"]) = H4 at s4 ⊢
        have sqr := Same.sqT s4 sqr
        have r2 := r2.same s4
        have s2 := s2.trans s4
        have dw2 := Dp.stay (.of s4) (pars_noL own) dw2
        refine seq_gen (P := fun σ' H' => σ' = [some (.ref a), some wv, some (.int ((j + 1 : Nat) : Int)), some (.bl b), some (.str z), some (.ref ra), none, none, none] ∧ Same H4 H' ∧ (decide (z = "seq") || !ds.isEmpty) = true) (fun M hM => ?_) ?_
        · refine ⟨_, rfl, rfl, _, rfl, ?_⟩
          rw [eqz]
          by_cases ez : z = "seq"
          · rw [decide_eq_true ez]
            refine iteT (iteF (hM _ _ ⟨rfl, .refl H4, ?_⟩))
            rw [decide_eq_true ez]
            rfl
          · rw [decide_eq_false ez] at q1 ⊢
            refine iteF ?_
            refine ⟨_, rfl, Nat.zero_le _, fun p5 np5 => ⟨ra, p5, xs, rfl, rfl, Same.sqT (same_upd np5) sqr, .inl (.inl upd_same), _, rfl, ?_⟩⟩
            cases r2 with
            | nil => exact iteT (q1 _ (s2.trans (same_upd np5)))
            | cons h1 r2 => exact iteF (hM _ _ ⟨rfl, same_upd np5, by simp⟩)
        rintro σ1 H5 ⟨rfl, s5, eok⟩
        rw [eok, Bool.true_and] at q1
        have sqr := Same.sqT s5 sqr
        have r2 := r2.same s5
        have s2 := s2.trans s5
        have dw2 := Dp.stay (.of s5) (pars_noL own) dw2
        refine ⟨_, rfl, ra, rfl, ⟨xs, sqr⟩, fun L nL => ?_⟩
        refine lc_tup (xs := xs) (fun i H' => Same H5 H' ∧ H' L = some (.lst (((ds.take i).map fun d => pieceB own j d false).map V.bl))) ⟨same_upd nL, upd_same⟩ (fun i H' hi h => Same.sqT h.1 sqr) (fun i x H6 hx h => ?_) (fun H6 h => ?_)
        · obtain ⟨sm, eD⟩ := h
          obtain ⟨d, hd, dx⟩ := (r2.same sm).get hx
          have li := (List.getElem?_eq_some_iff.mp hx).1
          refine ⟨rfl, _, rfl, _, rfl, _, rfl, _, _, rfl, rfl, D, x, wv, d, own, j, false, by show [_, wv, V.int (((j + 1 : Nat) : Int) - 1), V.bl _] = _; rw [ej], dx, wds d (List.mem_of_getElem? hd), Dp.stay (.of sm) (pars_noL own) dw2, po, by omega, fun H7 s7 => ⟨_, s7 _ _ eD, ?_, Same.set (sm.trans s7) nL, ?_⟩⟩
          · rw [List.length_map, List.length_map, List.length_take]
            exact Nat.lt_of_le_of_lt (Nat.min_le_right _ _) (small1000 (by omega))
          · rw [upd_same, take_one (fun d => pieceB own j d false) hd, List.map_append]
            rfl
        · obtain ⟨sm, eD⟩ := h
          rw [lx, List.take_length] at eD
          refine ⟨L, _, rfl, .inl (.inl (.inl eD)), rfl, flat_bls _, ?_⟩
          rw [inV_false]
          have q2 := q1 _ (s2.trans sm)
          have ee : (ds.all fun d => pieceB own j d false) = !(!((ds.map fun d => pieceB own j d false).all id)) := by
            rw [List.all_map, Bool.not_not]
            rfl
          rw [ee] at q2
          exact q2
      rintro σ1 H3 ⟨rfl, s3, nz3⟩
      refine seq_gen (P := fun σ' H' => σ' = [some (.ref a), some wv, some (.int ((j + 1 : Nat) : Int)), some (.bl b), some (.str z), some (.ref ra), none, none, none] ∧ Same H2 H' ∧ z ≠ "wrap") (fun N hN => ?_) ?_
      · refine ⟨_, rfl, rfl, _, rfl, ?_⟩
        rw [eqz]
        refine ite2 (fun e => ?_) (fun e => hN _ _ ⟨rfl, s3, fun h => e (decide_eq_true h)⟩)
        have e := of_decide_eq_true e
        subst e
        have sqr := Same.sqT s3 sqr
        have r2 := r2.same s3
        have s2 := s2.trans s3
        have dw2 := Dp.stay (.of s3) (pars_noL own) dw2
        refine ⟨_, rfl, _, _, rfl, .inr ⟨_, sqr, rfl⟩, rfl, _, rfl, ite2 (fun e2 => ?_) (fun e2 => ?_)⟩
        · have l2 : ds.length ≠ 2 := fun h => by
            have : (xs.length : Int) = 2 := by omega
            rw [this] at e2
            cases e2
          exact q0 (p_wrapN l2) s2
        have l2 : ds.length = 2 := by
          have : (xs.length : Int) = 2 := V.int.inj (by simpa using e2)
          omega
        rcases ds with _ | ⟨d1, _ | ⟨d2, _ | ⟨d3, ds⟩⟩⟩
        · cases l2
        · cases l2
        · have q1 := q
          rw [p_wrap hw] at q1
          cases r2 with
          | @cons x1 _ _ _ h1 r2 => cases r2 with
            | @cons x2 _ _ _ h2 r2 =>
            cases r2
            refine ⟨_, rfl, ra, _, 0, _, rfl, rfl, sqr, at0, _, rfl, _, rfl, _, _, rfl, rfl, D, x1, wv, d1, own, j, true, by show [_, wv, V.int (((j + 1 : Nat) : Int) - 1), V.bl _] = _; rw [ej], h1, wds d1 List.mem_cons_self, dw2, po, by omega, fun H4 s4 => ?_⟩
            refine ⟨_, rfl, ite2 (fun e1 => ?_) (fun e1 => ?_)⟩
            · have q2 := q1 _ (s2.trans s4)
              rw [Bool.not_eq_true' _ |>.mp e1, Bool.false_and] at q2
              exact q2
            have e1 : pieceB own j d1 true = true := by simpa using e1
            rw [e1] at q1
            exact ⟨_, rfl, ra, _, 1, _, rfl, rfl, Same.sqT s4 sqr, at1, _, rfl, _, rfl, _, _, rfl, rfl, D, x2, wv, d2, own, j, false, by show [_, wv, V.int (((j + 1 : Nat) : Int) - 1), V.bl _] = _; rw [ej], h2.same s4, wds d2 (List.mem_cons_of_mem _ List.mem_cons_self), Dp.stay (.of s4) (pars_noL own) dw2, po, by omega, fun H5 s5 => q1 _ ((s2.trans s4).trans s5)⟩
        · cases l2
      rintro σ1 H3 ⟨rfl, s3, nz4⟩
      refine seq_gen (P := fun σ' H' => σ' = [some (.ref a), some wv, some (.int ((j + 1 : Nat) : Int)), some (.bl b), some (.str z), some (.ref ra), none, none, none] ∧ Same H2 H' ∧ z ∈ (["call", "with"] : List Str) ∧ ∃ d1 dr, ds = d1 :: dr ∧ nameB d1 = true) (fun N hN => ?_) ?_
      · refine ⟨_, rfl, by show 2 ≤ sizeLine; decide, fun p4 np4 => ?_⟩
        have s4 := Same.trans s3 (same_upd (o := .tup ([("call" : Str), "with"].map V.str)) np4)
        refine ⟨p4, [("call" : Str), "with"].map V.str, rfl, .inr (.inl (.inl upd_same)), rfl, flat_strs _, _, rfl, ?_⟩
        rw [inV_strs]

        by_cases e : z ∈ (["call", "with"] : List Str)
        case neg =>
          rw [decide_eq_false e]
          refine iteT (q0 (p_unknown fun h => ?_) (s2.trans s4))
          simp only [List.mem_cons, List.not_mem_nil, or_false] at h nz1 nz3 e
          rcases h with h | h | h | h | h | h | h | h
          · exact nz2 h
          · exact nz3 (.inl h)
          · exact nz3 (.inr h)
          · exact nz1 (.inl h)
          · exact e (.inl h)
          · exact nz4 h
          · exact nz1 (.inr h)
          · exact e (.inr h)
        rw [decide_eq_true e]
        refine iteF ?_
        refine ⟨_, rfl, Nat.zero_le _, fun p5 np5 => ⟨ra, p5, xs, rfl, rfl, Same.sqT (s4.trans (same_upd np5)) sqr, .inl (.inl upd_same), _, rfl, ?_⟩⟩
        have s5 := s4.trans (same_upd (o := .tup []) np5)
        cases r2 with
        | nil => exact iteT (q0 (p_call0 e) (s2.trans s5))
        | @cons x1 d1 xr dr h1 r2 =>
          refine iteF ?_
          refine ⟨_, rfl, ra, _, 0, _, rfl, rfl, Same.sqT s5 sqr, at0, D, x1, d1, rfl, h1.same s5, fun H4 s6 => ?_⟩
          refine ⟨_, rfl, ite2 (fun e1 => ?_) (fun e1 => ?_)⟩
          · have q2 := q _ ((s2.trans s5).trans s6)
            rw [p_call hw e, Bool.not_eq_true' _ |>.mp e1, Bool.false_and] at q2
            exact q2
          · exact hN _ _ ⟨rfl, s5.trans s6, e, d1, dr, rfl, by simpa using e1⟩
      rintro σ1 H3 ⟨rfl, s3, mz, d1, dr, rfl, nb⟩
      have q1 := q
      rw [p_call hw mz, nb, Bool.true_and] at q1
      have sqr := Same.sqT s3 sqr
      have r2 := r2.same s3
      have s2 := s2.trans s3
      have dw2 := Dp.stay (.of s3) (pars_noL own) dw2
      cases r2 with
      | @cons x1 _ xr _ h1 r2 =>
      refine ⟨_, rfl, _, rfl, ?_⟩
      dsimp only [tNoPart]
      refine cut_tup (k := 1) sqr (by decide) (List.cons_ne_nil _ _) fun H4 r5 s4 sq5 => ?_
      have sq5 : SqT K H4 r5 xr := sq5
      have r2 := r2.same s4
      have s2 := s2.trans s4
      have dw2 := Dp.stay (.of s4) (pars_noL own) dw2
      have lr : xr.length = dr.length := r2.len
      have ld : dr.length + 1 + 1 ≤ 1000 := wl
      clear sqr
      refine ⟨r5, rfl, ⟨xr, sq5⟩, fun L nL => ?_⟩
      refine lc_tup (xs := xr) (fun i H' => Same H4 H' ∧ H' L = some (.lst (((dr.take i).map fun d => pieceB own j d false || pieceB own j d true).map V.bl))) ⟨same_upd nL, upd_same⟩ (fun i H' hi h => Same.sqT h.1 sq5) (fun i x H6 hx h => ?_) (fun H6 h => ?_)
      · obtain ⟨sm, eD⟩ := h
        obtain ⟨d, hd, dx⟩ := (r2.same sm).get hx
        have li := (List.getElem?_eq_some_iff.mp hx).1
        have wx := wds d (List.mem_cons_of_mem _ (List.mem_of_getElem? hd))
        have fin : ∀ {bb : Bool} {H7 : Hp}, bb = (pieceB own j d false || pieceB own j d true) → Same H6 H7 → ∃ acc, H7 L = some (.lst acc) ∧ acc.length < sizeLine ∧ Same H4 (upd H7 L (.lst (acc ++ [V.bl bb]))) ∧ (upd H7 L (.lst (acc ++ [V.bl bb]))) L = some (.lst (((dr.take (i + 1)).map fun d => pieceB own j d false || pieceB own j d true).map V.bl)) := fun {bb H7} hb s7 => by
          refine ⟨_, s7 _ _ eD, ?_, Same.set (sm.trans s7) nL, ?_⟩
          · rw [List.length_map, List.length_map, List.length_take]
            exact Nat.lt_of_le_of_lt (Nat.min_le_right _ _) (small1000 (by omega))
          · rw [upd_same, take_one (fun d => pieceB own j d false || pieceB own j d true) hd, List.map_append, hb]
            rfl
        refine ⟨rfl, _, rfl, _, rfl, _, rfl, _, _, rfl, rfl, D, x, wv, d, own, j, false, by show [_, wv, V.int (((j + 1 : Nat) : Int) - 1), V.bl _] = _; rw [ej], dx, wx, Dp.stay (.of sm) (pars_noL own) dw2, po, by omega, fun H7 s7 => ?_⟩
        refine ⟨_, rfl, ite2 (fun e1 => ?_) (fun e1 => ?_)⟩
        · exact fin (by rw [e1]; rfl) s7
        · refine ⟨_, rfl, _, rfl, _, rfl, _, _, rfl, rfl, D, x, wv, d, own, j, true, by show [_, wv, V.int (((j + 1 : Nat) : Int) - 1), V.bl _] = _; rw [ej], dx.same s7, wx, Dp.stay (.of (sm.trans s7)) (pars_noL own) dw2, po, by omega, fun H8 s8 => ?_⟩
          exact fin (by rw [Bool.not_eq_true _ |>.mp e1, Bool.false_or]) (s7.trans s8)
      · obtain ⟨sm, eD⟩ := h
        rw [lr, List.take_length] at eD
        refine ⟨_, rfl, L, _, rfl, .inl (.inl (.inl eD)), rfl, flat_bls _, ?_⟩
        rw [inV_false]
        have q2 := q1 _ (s2.trans sm)
        have ee : (dr.all fun d => pieceB own j d false || pieceB own j d true) = !(!((dr.map fun d => pieceB own j d false || pieceB own j d true).all id)) := by
          rw [List.all_map, Bool.not_not]
          rfl
        rw [ee] at q2
        exact q2
    | non => exact ⟨_, rfl, _, _, _, _, false, rfl, .ty "tuple", .base .non, kit_ty (show kitB "NoneType" "tuple" = some false by decide +kernel), false, rfl, iteT (q0 (p_other (by intro z ds e; cases e)) (.refl H))⟩
    | bl bb => exact ⟨_, rfl, _, _, _, _, false, rfl, .ty "tuple", .base (.bl bb), kit_ty (show kitB "bool" "tuple" = some false by decide +kernel), false, rfl, iteT (q0 (p_other (by intro z ds e; cases e)) (.refl H))⟩
    | int ii => exact ⟨_, rfl, _, _, _, _, false, rfl, .ty "tuple", .base (.int ii), kit_ty (show kitB "int" "tuple" = some false by decide +kernel), false, rfl, iteT (q0 (p_other (by intro z ds e; cases e)) (.refl H))⟩
    | str zz ll => exact ⟨_, rfl, _, _, _, _, false, rfl, .ty "tuple", .base (.str zz), kit_ty (show kitB "str" "tuple" = some false by decide +kernel), false, rfl, iteT (q0 (p_other (by intro z ds e; cases e)) (.refl H))⟩
    | lst nn ee => exact ⟨_, rfl, _, _, _, _, false, rfl, .ty "tuple", .base (.lst ee), kit_ty (show kitB "list" "tuple" = some false by decide +kernel), false, rfl, iteT (q0 (p_other (by intro z ds e; cases e)) (.refl H))⟩
    | dct nn ee => exact ⟨_, rfl, _, _, _, _, false, rfl, .ty "tuple", .base (.dK ee), kit_ty (show kitB "dict" "tuple" = some false by decide +kernel), false, rfl, iteT (q0 (p_other (by intro z ds e; cases e)) (.refl H))⟩
end
end FS

set_option Elab.async false
set_option linter.all false
set_option maxRecDepth 100000
set_option maxHeartbeats 4000000
namespace FS
open PySem PySem.Spec PyProof.Rows L2
def spNever : Sp := fun _ _ _ _ => False
section
variable {P : Program} {w : World} {K : PySem.W.Frag} {mg : Str → Option Value} {base : Heap}
abbrev N0_law_is_piece : List Str := ["_law_value", "_law_own", "_law_deep", "_law_is_wrap", "_law_word", "_law_rest", "_law_modes", "_law_told", "_law_one"]
theorem sc0_law_is_piece : FnScope N0_law_is_piece ["_law_value", "_law_own", "_law_deep", "_law_is_wrap"] (defScope s_law_is_piece) := ⟨rfl, rfl, rfl, by decide +kernel, rfl, by decide +kernel, by decide +kernel⟩
theorem ok0_l_is_piece {f : Addr} {fd : FuncData} (F : Fun K "_law_is_piece" "_law_is_piece" s_law_is_piece f fd) (T : Nm K mg) {k : Nat} (hk : 3 ≤ k) (Cl_own_names : Cal P w K mg base 1 "_law_own_names" ["_law_own", "_law_kind"] (spOwn K)) (Cl_is_word : Cal P w K mg base 2 "_law_is_word" ["_law_value"] (spNameA K)) (Cl_is_number : Cal P w K mg base 2 "_law_is_number" ["_law_value", "_law_low", "_law_high"] (spIntA K)) (Cl_is_piece : Cal P w K mg base k "_law_is_piece" ["_law_value", "_law_own", "_law_deep", "_law_is_wrap"] spNever) : FnOk P w K mg base CX0 (k + 1) f fd ["_law_value", "_law_own", "_law_deep", "_law_is_wrap"] (spPiece K 0) := by
  have nd := sc0_law_is_piece.nd
  refine F.ok sc0_law_is_piece (fun vs H Q E h => ?_) (fun cdv A outer s H vs Q E hr h => ?_)
  · obtain ⟨D, v, wv, d, own, m, b, rfl, hd, wd, dw, po, mn, q⟩ := h
    rfl
  · obtain ⟨D, v, wv, d, own, m, b, rfl, hd, wd, dw, po, mn, q⟩ := h
    skip
    refine ⟨_, (pss_cons (ps_if (PW.pt (pw_or (pt_not (pt_val (pe_callB call_isi (by rfl) T.b_isinstance (by decide +kernel) (pa_cons (pv 0) (pa_cons (pe_bltn (v := .ty "tuple") (by rfl) T.b_tuple (by decide +kernel) rfl) pa_nil))))) (pw_or (pt_cmpR (op_eq0 rfl hr) (pv 0) (pe_tup pa_nil) (nomark _)) (pw_or (pt_not (pt_val (pe_callB call_isi (by rfl) T.b_isinstance (by decide +kernel) (pa_cons (pe_ix ix_tup (pv 0) pe_int (fun _ _ => rfl)) (pa_cons (pe_bltn (v := .ty "str") (by rfl) T.b_str (by decide +kernel) rfl) pa_nil))))) (pw_or1 (pt_cmpR op_lt (pv 2) pe_int (nomark _)))))))
  (pss_one (ps_ret pe_bl))
  pss_nil)
  (pss_cons (ps_par (i := 4) (j := 5) (by rfl) nd rfl rfl (by decide) rfl rfl (pa_cons (pe_ix ix_tup (pv 0) pe_int (fun _ _ => rfl)) (pa_cons (pe_slice sl_tupA (pv 0) (po_some pe_int) po_none) pa_nil)) (by rfl))
  (pss_cons (ps_if (PW.pt (pw_or (PW.pt (pw_and (pt_cmpR op_in_seq (pv 4) (pe_tup (pa_cons pe_str (pa_cons pe_str pa_nil))) (by rfl)) (pw_and1 (pt_not (pt_val (pv 3)))))) (pw_or1 (PW.pt (pw_and (pt_cmpR op_notIn_seq (pv 4) (pe_tup (pa_cons pe_str (pa_cons pe_str pa_nil))) (by rfl)) (pw_and1 (pt_val (pv 3))))))))
  (pss_one (ps_ret pe_bl))
  pss_nil)
  (pss_cons (ps_if (pt_cmpR op_in_seq (pv 4) (pe_tup (pa_cons pe_str (pa_cons pe_str pa_nil))) (by rfl))
  (pss_cons (ps_if (pt_cmpR op_ne (pe_callB call_len (by rfl) T.b_len PySem.boot_len (pa_cons (pv 5) pa_nil)) pe_int (nomark _))
  (pss_one (ps_ret pe_bl))
  pss_nil)
  (pss_one (ps_ret (pe_cmpR (op_inLA (k := 0) rfl (hr.mono (by omega))) (pe_ix ix_tup (pv 5) pe_int (fun _ _ => rfl)) (pe_own Cl_own_names (hr.mono (by omega)) (by rfl) (pa_cons (pv 1) (pa_cons (pe_ifExp (pt_cmpR op_eq (pv 4) pe_str (nomark _)) pe_str pe_str) pa_nil))) (by rfl)))))
  pss_nil)
  (pss_cons (ps_if (pt_cmpR op_eq (pv 4) pe_str (nomark _))
  (pss_cons (ps_if (pt_cmpR op_ne (pe_callB call_len (by rfl) T.b_len PySem.boot_len (pa_cons (pv 5) pa_nil)) pe_int (nomark _))
  (pss_one (ps_ret pe_bl))
  pss_nil)
  (pss_cons (ps_if (pt_not (pt_val (pe_own Cl_is_word (hr.mono (by omega)) (by rfl) (pa_cons (pe_ix ix_tup (pv 5) pe_int (fun _ _ => rfl)) pa_nil))))
  (pss_one (ps_ret pe_bl))
  pss_nil)
  (pss_cons (ps_if (pt_not (pt_val (pe_callB call_isi (by rfl) T.b_isinstance (by decide +kernel) (pa_cons (pe_ix ix_tup (pv 5) pe_int (fun _ _ => rfl)) (pa_cons (pe_bltn (v := .ty "tuple") (by rfl) T.b_tuple (by decide +kernel) rfl) pa_nil)))))
  (pss_one (ps_ret pe_bl))
  pss_nil)
  (pss_cons (ps_if (pt_not (pt_chain op_le op_le pe_int (pe_callB call_len (by rfl) T.b_len PySem.boot_len (pa_cons (pe_ix ix_tup (pv 5) pe_int (fun _ _ => rfl)) pa_nil)) pe_int))
  (pss_one (ps_ret pe_bl))
  pss_nil)
  (pss_cons (ps_setLc (i := 6) (own := [("_law_one", 8)]) (g := gName 8) rfl nd rfl rfl (sw_true rfl rfl rfl (by decide +kernel)) (pi_tup (pe_ix ix_tup (pv 5) pe_int (fun _ _ => rfl))) (blkOk_by (own := [("_law_one", 8)]) (N := N0_law_is_piece) (sc := defScope s_law_is_piece) (by decide +kernel)) (fun _ _ _ _ _ => (pg_name (i := 8) nd rfl (Or.inl rfl))) (fun _ _ _ _ _ => pts_one (pt_cmpR op_notN (pv 8) pe_non (nomark _))) (fun _ _ _ _ _ => (pv 8)))
  (pss_one (ps_ret (pe_cmpR (op_eqL0 hr) (pe_lc (own := [("_law_one", 8)]) (g := gName 8) rfl nd (pi_list (pv 6)) (blkOk_by (own := [("_law_one", 8)]) (N := N0_law_is_piece) (sc := defScope s_law_is_piece) (by decide +kernel)) (fun _ _ _ _ _ => (pg_name (i := 8) nd rfl (Or.inl rfl))) (fun _ _ _ _ _ => pts_one (pt_not (pt_val (pe_own Cl_is_number (hr.mono (by omega)) (by rfl) (pa_cons (pv 8) (pa_cons pe_int (pa_cons pe_int pa_nil))))))) (fun _ _ _ _ _ => (pv 8))) (pe_lst pa_nil) (nomark _)))))))))
  pss_nil)
  (pss_cons (ps_if (pt_cmpR op_in_seq (pv 4) (pe_tup (pa_cons pe_str (pa_cons pe_str pa_nil))) (by rfl))
  (pss_cons (ps_if (pt_not (PW.pt (pw_or (pt_cmpR op_eq (pv 4) pe_str (nomark _)) (pw_or1 (pt_cmpR (op_ne0 rfl hr) (pv 5) (pe_tup pa_nil) (nomark _))))))
  (pss_one (ps_ret pe_bl))
  pss_nil)
  (pss_one (ps_ret (pe_cmpR op_notIn_seq pe_bl (pe_lc (own := [("_law_one", 8)]) (g := gName 8) (tt := tYes) rfl nd (pi_tup (pv 5)) (blkOk_by (own := [("_law_one", 8)]) (N := N0_law_is_piece) (sc := defScope s_law_is_piece) (by decide +kernel)) (fun _ _ _ _ _ => (pg_name (i := 8) nd rfl (Or.inl rfl))) (fun _ _ _ _ _ => pts_nil) (fun _ _ _ _ _ => (pe_own Cl_is_piece (hr.mono (by omega)) (by rfl) (pa_cons (pv 8) (pa_cons (pv 1) (pa_cons (pe_op op_sub (pv 2) pe_int) (pa_cons pe_bl pa_nil))))))) (by rfl)))))
  pss_nil)
  (pss_cons (ps_if (pt_cmpR op_eq (pv 4) pe_str (nomark _))
  (pss_cons (ps_if (pt_cmpR op_ne (pe_callB call_len (by rfl) T.b_len PySem.boot_len (pa_cons (pv 5) pa_nil)) pe_int (nomark _))
  (pss_one (ps_ret pe_bl))
  pss_nil)
  (pss_cons (ps_if (pt_not (pt_val (pe_own Cl_is_piece (hr.mono (by omega)) (by rfl) (pa_cons (pe_ix ix_tup (pv 5) pe_int (fun _ _ => rfl)) (pa_cons (pv 1) (pa_cons (pe_op op_sub (pv 2) pe_int) (pa_cons pe_bl pa_nil)))))))
  (pss_one (ps_ret pe_bl))
  pss_nil)
  (pss_one (ps_ret (pe_own Cl_is_piece (hr.mono (by omega)) (by rfl) (pa_cons (pe_ix ix_tup (pv 5) pe_int (fun _ _ => rfl)) (pa_cons (pv 1) (pa_cons (pe_op op_sub (pv 2) pe_int) (pa_cons pe_bl pa_nil)))))))))
  pss_nil)
  (pss_cons (ps_if (PW.pt (pw_or (pt_cmpR op_notIn_seq (pv 4) (pe_tup (pa_cons pe_str (pa_cons pe_str pa_nil))) (by rfl)) (pw_or (pt_cmpR (op_eq0 rfl hr) (pv 5) (pe_tup pa_nil) (nomark _)) (pw_or1 (pt_not (pt_val (pe_own Cl_is_word (hr.mono (by omega)) (by rfl) (pa_cons (pe_ix ix_tup (pv 5) pe_int (fun _ _ => rfl)) pa_nil))))))))
  (pss_one (ps_ret pe_bl))
  pss_nil)
  (pss_cons (ps_setLc (i := 7) (own := [("_law_one", 8)]) (g := gName 8) (tt := tYes) rfl nd rfl rfl (sw_true rfl rfl rfl (by decide +kernel)) (pi_tup (pe_slice sl_tupA (pv 5) (po_some pe_int) po_none)) (blkOk_by (own := [("_law_one", 8)]) (N := N0_law_is_piece) (sc := defScope s_law_is_piece) (by decide +kernel)) (fun _ _ _ _ _ => (pg_name (i := 8) nd rfl (Or.inl rfl))) (fun _ _ _ _ _ => pts_nil) (fun _ _ _ _ _ => (pe_or (pe_own Cl_is_piece (hr.mono (by omega)) (by rfl) (pa_cons (pv 8) (pa_cons (pv 1) (pa_cons (pe_op op_sub (pv 2) pe_int) (pa_cons pe_bl pa_nil))))) (pe_one (pe_own Cl_is_piece (hr.mono (by omega)) (by rfl) (pa_cons (pv 8) (pa_cons (pv 1) (pa_cons (pe_op op_sub (pv 2) pe_int) (pa_cons pe_bl pa_nil)))))))))
  (pss_one (ps_ret (pe_cmpR op_notIn_seq pe_bl (pv 7) (by rfl))))))))))))), ?_⟩

    have q0 : pieceB own m d b = false → ∀ {H'}, Same H H' → Q (.bl false) H' := fun e {H'} s => by
      have q1 := q _ s
      rw [e] at q1
      exact q1
    cases hd with
    | @tup a xs0 ds0 sq r0 =>
      refine ⟨_, rfl, _, _, _, _, true, rfl, .ty "tuple", ty_tup sq, kit_ty (by decide +kernel), true, rfl, iteF ?_⟩
      refine ⟨_, rfl, Nat.zero_le _, fun p np => ?_⟩
      have s1 := same_upd (o := .tup []) np
      refine ⟨a, p, xs0, rfl, rfl, Same.sqT s1 sq, .inl (.inl upd_same), _, rfl, ?_⟩
      generalize upd H p (.tup []) = H1 at s1 ⊢
      cases r0 with
      | nil => exact iteT (q0 (p_other (by intro z ds e; cases e)) s1)
      | @cons x0 d0 xs ds hz r =>
      refine iteF ?_
      have sq1 := Same.sqT s1 sq
      have hz := hz.same s1
      cases hz with
      | non => exact ⟨_, rfl, a, _, 0, _, rfl, rfl, sq1, at0, _, _, _, _, false, rfl, .ty "str", .base .non, kit_ty (show kitB "NoneType" "str" = some false by decide +kernel), false, rfl, iteT (q0 (p_other (by intro z ds e; cases e)) s1)⟩
      | bl bb => exact ⟨_, rfl, a, _, 0, _, rfl, rfl, sq1, at0, _, _, _, _, false, rfl, .ty "str", .base (.bl bb), kit_ty (show kitB "bool" "str" = some false by decide +kernel), false, rfl, iteT (q0 (p_other (by intro z ds e; cases e)) s1)⟩
      | int ii => exact ⟨_, rfl, a, _, 0, _, rfl, rfl, sq1, at0, _, _, _, _, false, rfl, .ty "str", .base (.int ii), kit_ty (show kitB "int" "str" = some false by decide +kernel), false, rfl, iteT (q0 (p_other (by intro z ds e; cases e)) s1)⟩
      | tup sqq rr => exact ⟨_, rfl, a, _, 0, _, rfl, rfl, sq1, at0, _, _, _, _, false, rfl, .ty "str", ty_tup sqq, kit_ty (show kitB "tuple" "str" = some false by decide +kernel), false, rfl, iteT (q0 (p_other (by intro z ds e; cases e)) s1)⟩
      | lst nn ee => exact ⟨_, rfl, a, _, 0, _, rfl, rfl, sq1, at0, _, _, _, _, false, rfl, .ty "str", .base (.lst ee), kit_ty (show kitB "list" "str" = some false by decide +kernel), false, rfl, iteT (q0 (p_other (by intro z ds e; cases e)) s1)⟩
      | dct nn ee => exact ⟨_, rfl, a, _, 0, _, rfl, rfl, sq1, at0, _, _, _, _, false, rfl, .ty "str", .base (.dK ee), kit_ty (show kitB "dict" "str" = some false by decide +kernel), false, rfl, iteT (q0 (p_other (by intro z ds e; cases e)) s1)⟩
      | str z hz0 =>
      refine ⟨_, rfl, a, _, 0, _, rfl, rfl, sq1, at0, _, _, _, _, true, rfl, .ty "str", .base (.str z), kit_ty (show kitB "str" "str" = some true by decide +kernel), true, rfl, iteF ?_⟩
      refine ⟨_, rfl, _, _, rfl, rfl, _, rfl, ite2 (fun e => ?_) (fun e => ?_)⟩
      · have e : (m : Int) < 1 := of_decide_eq_true e
        have m0 : m = 0 := by omega
        subst m0
        exact q0 p_zero s1
      have e : ¬ (m : Int) < 1 := fun h => e (decide_eq_true h)
      exact absurd (show (m : Int) < 1 by omega) e
    | non => exact ⟨_, rfl, _, _, _, _, false, rfl, .ty "tuple", .base .non, kit_ty (show kitB "NoneType" "tuple" = some false by decide +kernel), false, rfl, iteT (q0 (p_other (by intro z ds e; cases e)) (.refl H))⟩
    | bl bb => exact ⟨_, rfl, _, _, _, _, false, rfl, .ty "tuple", .base (.bl bb), kit_ty (show kitB "bool" "tuple" = some false by decide +kernel), false, rfl, iteT (q0 (p_other (by intro z ds e; cases e)) (.refl H))⟩
    | int ii => exact ⟨_, rfl, _, _, _, _, false, rfl, .ty "tuple", .base (.int ii), kit_ty (show kitB "int" "tuple" = some false by decide +kernel), false, rfl, iteT (q0 (p_other (by intro z ds e; cases e)) (.refl H))⟩
    | str zz ll => exact ⟨_, rfl, _, _, _, _, false, rfl, .ty "tuple", .base (.str zz), kit_ty (show kitB "str" "tuple" = some false by decide +kernel), false, rfl, iteT (q0 (p_other (by intro z ds e; cases e)) (.refl H))⟩
    | lst nn ee => exact ⟨_, rfl, _, _, _, _, false, rfl, .ty "tuple", .base (.lst ee), kit_ty (show kitB "list" "tuple" = some false by decide +kernel), false, rfl, iteT (q0 (p_other (by intro z ds e; cases e)) (.refl H))⟩
    | dct nn ee => exact ⟨_, rfl, _, _, _, _, false, rfl, .ty "tuple", .base (.dK ee), kit_ty (show kitB "dict" "tuple" = some false by decide +kernel), false, rfl, iteT (q0 (p_other (by intro z ds e; cases e)) (.refl H))⟩
end
end FS

set_option Elab.async false
set_option linter.all false
set_option maxRecDepth 100000
set_option maxHeartbeats 4000000
namespace FS
open PySem PySem.Spec PyProof.Rows L2
section
variable {P : Program} {w : World} {K : PySem.W.Frag} {mg : Str → Option Value} {base : Heap}
abbrev N_law_bend : List Str := ["_law_die", "_law_piece", "_law_odd", "_law_inner", "_law_at", "_law_word", "_law_some"]
theorem sc_law_bend : FnScope N_law_bend ["_law_die", "_law_piece", "_law_odd"] (defScope s_law_bend) := ⟨rfl, rfl, rfl, by decide +kernel, rfl, by decide +kernel, by decide +kernel⟩
theorem ok_l_bend {f : Addr} {fd : FuncData} (F : Fun K "_law_bend" "_law_bend" s_law_bend f fd) (T : Nm K mg) {n k : Nat} (hk : 3 ≤ k) (Cl_cast : Cal P w K mg base 1 "_law_cast" ["_law_die", "_law_total"] spCast) (Cl_pick : Cal P w K mg base 2 "_law_pick" ["_law_die", "_law_items"] (spPick K)) (Cl_bend : Cal P w K mg base k "_law_bend" ["_law_die", "_law_piece", "_law_odd"] (spBend K n)) : FnOk P w K mg base CX0 (k + 1) f fd ["_law_die", "_law_piece", "_law_odd"] (spBend K (n + 1)) := by
  have nd := sc_law_bend.nd
  refine F.ok sc_law_bend (fun vs H Q E h => ?_) (fun cdv A outer s H vs Q E hr h => ?_)
  · obtain ⟨D, a, ov, ds, od, rfl, die, hd, ho, bo, dk, dw, q⟩ := h
    rfl
  · obtain ⟨D, a, ov, ds, od, rfl, die, hd, ho, bo, dk, dw, q⟩ := h
    skip
    refine ⟨_, (pss_cons (ps_setLc (i := 3) (own := [("_law_at", 4)]) (g := gName 4) rfl nd rfl rfl (sw_true rfl rfl rfl (by decide +kernel)) (pi_range2 rfl T.b_range (pa_cons pe_int (pa_cons (pe_callB call_len (by rfl) T.b_len PySem.boot_len (pa_cons (pv 1) pa_nil)) pa_nil))) (blkOk_by (own := [("_law_at", 4)]) (N := N_law_bend) (sc := defScope s_law_bend) (by decide +kernel)) (fun _ _ _ _ _ => (pg_name (i := 4) nd rfl (Or.inl rfl))) (fun _ _ _ _ _ => pts_one (PW.pt (pw_and (pt_val (pe_callB (call_isiK (K := K) rfl) (by rfl) T.b_isinstance (by decide +kernel) (pa_cons (pe_ix (ix_tupK (K := K) rfl) (pv 1) (pv 4) (fun _ _ => rfl)) (pa_cons (pe_bltn (v := .ty "tuple") (by rfl) T.b_tuple (by decide +kernel) rfl) pa_nil)))) (pw_and1 (pt_cmpR (op_neS rfl hr) (pe_ix (ix_tupK (K := K) rfl) (pv 1) pe_int (fun _ _ => rfl)) pe_str (nomark _)))))) (fun _ _ _ _ _ => (pv 4)))
  (pss_cons (ps_if (PW.pt (pw_and (pt_cmpR (op_neL0 hr) (pv 3) (pe_lst pa_nil) (nomark _)) (pw_and1 (pt_cmpR op_gt (pe_own Cl_cast (hr.mono (by omega)) (by rfl) (pa_cons (pv 0) (pa_cons pe_int pa_nil))) pe_int (nomark _)))))
  (pss_cons (ps_set (i := 4) nd rfl (Or.inl rfl) (pe_own Cl_pick (hr.mono (by omega)) (by rfl) (pa_cons (pv 0) (pa_cons (pv 3) pa_nil))))
  (pss_one (ps_ret (pe_op op_catA (pe_op op_catA (pe_slice sl_tupA (pv 1) po_none (po_some (pv 4))) (pe_tup (pa_cons (pe_own Cl_bend (hr.mono (by omega)) (by rfl) (pa_cons (pv 0) (pa_cons (pe_ix ix_tup (pv 1) (pv 4) (fun _ _ => rfl)) (pa_cons (pv 2) pa_nil)))) pa_nil))) (pe_slice sl_tupA (pv 1) (po_some (pe_op op_add (pv 4) pe_int)) po_none)))))
  pss_nil)
  (pss_cons (ps_set (i := 5) nd rfl (Or.inl rfl) (pe_own Cl_pick (hr.mono (by omega)) (by rfl) (pa_cons (pv 0) (pa_cons (pe_lst (pa_cons pe_str (pa_cons pe_str (pa_cons pe_str (pa_cons pe_str (pa_cons pe_str (pa_cons pe_str (pa_cons pe_str (pa_cons pe_str pa_nil))))))))) pa_nil))))
  (pss_cons (ps_set (i := 6) nd rfl (Or.inl rfl) (pe_lst (pa_cons (pv 2) (pa_cons (pe_slice sl_tupA (pv 1) po_none (po_some (pe_un un_neg pe_int))) (pa_cons (pe_op op_catA (pv 1) (pe_tup (pa_cons (pv 2) pa_nil))) (pa_cons (pe_callTy call_list_of (by rfl) T.b_list (by decide +kernel) (pa_cons (pv 1) pa_nil)) (pa_cons (pe_op op_catA (pe_tup (pa_cons (pv 5) pa_nil)) (pe_slice sl_tupA (pv 1) (po_some pe_int) po_none)) (pa_cons (pe_op op_catA (pe_tup (pa_cons (pv 2) pa_nil)) (pe_slice sl_tupA (pv 1) (po_some pe_int) po_none)) (pa_cons (pe_op op_catA (pv 1) (pe_tup (pa_cons (pe_tup (pa_cons pe_str pa_nil)) pa_nil))) pa_nil)))))))))
  (pss_one (ps_ret (pe_own Cl_pick (hr.mono (by omega)) (by rfl) (pa_cons (pv 0) (pa_cons (pe_op op_cat (pv 6) (pe_lst (pa_cons (pe_tup (pa_cons pe_str (pa_cons (pv 1) pa_nil))) (pa_cons (pe_tup (pa_cons pe_str (pa_cons (pv 1) (pa_cons (pv 1) pa_nil)))) (pa_cons (pe_tup (pa_cons pe_str pa_nil)) (pa_cons (pe_tup (pa_cons pe_str pa_nil)) pa_nil)))))) pa_nil))))))))), ?_⟩

    obtain ⟨a', xs, ea, sq, r⟩ := hd.tup_inv
    cases ea
    have lx : xs.length = ds.length := r.len
    have wl : ds.length ≤ 900 := Nat.le_trans (Nat.le_max_left ds.length _) dw
    refine ⟨_, rfl, _, _, rfl, .inr ⟨_, sq, rfl⟩, 1, (xs.length : Int), rfl, ⟨by omega, by omega, by omega, by omega⟩, fun L nL => ?_⟩
    have nLD := die.ne nL
    refine lc_range (lo := 1) (n := ((xs.length : Int) - 1).toNat) (fun i H' => Same H H' ∧ ∃ is : List Nat, H' L = some (.lst (is.map fun n : Nat => V.int (n : Int))) ∧ is.length ≤ i ∧ ∀ n ∈ is, ∃ es, ds[n]? = some (.tup es)) ⟨same_upd nL, [], upd_same, Nat.le_refl _, fun n h => nomatch h⟩ (fun i H2 hi hp => ?_) (fun H2 hp => ?_)
    · obtain ⟨sm, is, eL, li, all⟩ := hp
      rw [show (1 + (i : Int)) = ((i + 1 : Nat) : Int) by omega]
      have lt : i + 1 < xs.length := by omega
      have hx : xs[i + 1]? = some xs[i + 1] := List.getElem?_eq_getElem lt
      obtain ⟨d, hdd, dx⟩ := (r.same sm).get hx
      obtain ⟨t, ht, hkt⟩ := dx.isTup
      have sq2 := Same.sqT sm sq
      have skip : ∃ is : List Nat, H2 L = some (.lst (is.map fun n : Nat => V.int (n : Int))) ∧ is.length ≤ i + 1 ∧ ∀ n ∈ is, ∃ es, ds[n]? = some (.tup es) := ⟨is, eL, by omega, all⟩
      refine ⟨rfl, _, rfl, _, rfl, a, _, _, _, rfl, rfl, sq2, atI_nat (j := i + 1) hx, _, _, _, _, d.isT, rfl, .ty "tuple", ht, hkt, _, rfl, ?_⟩
      cases d with
      | tup es =>
        refine iteT ?_
        cases r with
        | nil => exact absurd lt (Nat.not_lt_zero _)
        | @cons x0 d0 xr dr h0 r =>
        refine ⟨_, rfl, a, _, 0, _, rfl, rfl, sq2, at0, D, d0, "do", h0.same sm, rfl, _, rfl, ?_⟩
        cases hq : d0.eqS "do" with
        | true => exact iteF ⟨sm, skip⟩
        | false =>
          refine iteT ⟨_, rfl, _, eL, ?_, Same.set sm nL, is ++ [i + 1], ?_, ?_, fun n hn => ?_⟩
          · rw [List.length_map]
            exact small1000 (by omega)
          · rw [upd_same, List.map_append]
            rfl
          · rw [List.length_append]
            show is.length + 1 ≤ i + 1
            omega
          · rcases List.mem_append.mp hn with h | h
            · exact all n h
            · cases List.mem_singleton.mp h
              exact ⟨es, hdd⟩
      | _ => exact iteF ⟨sm, skip⟩
    obtain ⟨sm, is, eL, li, all⟩ := hp
    have g2 := Go.of die sm
    have li : is.length ≤ 900 := by omega
    refine seq_gen (P := fun σ' H' => σ' = [some (.ref D), some (.ref a), some ov, some (.ref L), none, none, none] ∧ H' = H2) (fun N hN => hN _ _ ⟨rfl, rfl⟩) ?_
    rintro σ0 H2 ⟨rfl, rfl⟩
    refine seq_gen (P := fun σ' H' => (∃ y, σ' = [some (.ref D), some (.ref a), some ov, some (.ref L), y, none, none]) ∧ Go D H H') (fun N hN => ?_) ?_
    · refine ⟨_, rfl, Nat.zero_le _, fun p1 n1 => ⟨L, p1, _, rfl, rfl, same_upd n1 _ _ eL, upd_same, _, rfl, ?_⟩⟩
      have g3 := g2.same (same_upd (o := .lst []) n1)
      have eL := same_upd (o := .lst []) n1 _ _ eL
      generalize upd H2 p1 (.lst []) = H3 at g3 eL ⊢
      cases is with
      | nil => exact iteF (hN _ _ ⟨⟨_, rfl⟩, g3⟩)
      | cons i0 ir =>
      refine iteT ?_
      refine ⟨_, rfl, D, 3, rfl, g3.2, by omega, by omega, fun r0 HE r00 r01 gE fE => ?_⟩
      have g4 := g3.trans gE
      have eL := gE.1 _ _ nLD eL
      refine ⟨_, _, rfl, rfl, _, rfl, ite2 (fun _ => ?_) (fun _ => hN _ _ ⟨⟨_, rfl⟩, g4⟩)⟩
      refine ⟨_, rfl, _, rfl, D, L, _, g4.2, rfl, .inl (.inl eL), nLD, List.cons_ne_nil _ _, by rw [List.length_map]; omega, fun v HB hv gB _ => ?_⟩
      obtain ⟨at_, hat, rfl⟩ := List.mem_map.mp hv
      obtain ⟨es, hes⟩ := all at_ hat
      have g5 := g4.trans gB
      have tk5 := g5.tk die
      have sq5 := tk5.sqT sq
      have r5 := r.go die g5
      have ho5 := ho.go die g5
      clear gE gB g3 g4 eL fE
      obtain ⟨xv, hxv, dxv⟩ := r5.put hes
      have la : at_ < ds.length := (List.getElem?_eq_some_iff.mp hes).1
      obtain ⟨m1, m2, m3⟩ := meas_mid hes
      obtain ⟨t1, t2, t3, t4⟩ := meas_take at_ ds
      obtain ⟨u1, u2, u3, u4⟩ := meas_drop (at_ + 1) ds
      refine ⟨_, rfl, ?_⟩
      dsimp only [tNoPart]
      refine ⟨_, rfl, _, rfl, ?_⟩
      refine sl_toA sq5 fun H6 p6 s6 sq6 => ?_
      obtain ⟨pa, ys, rfl, sy, ry⟩ := dxv.tup_inv
      have dd : (Dat.tup es).deep ≤ n := by
        have : deepsD ds + 1 ≤ n + 1 := dk
        omega
      have dw2 : (Dat.tup es).wide ≤ 900 := by
        have : widesD ds ≤ (Dat.tup ds).wide := Nat.le_max_right ds.length _
        omega
      refine ⟨_, rfl, _, rfl, _, rfl, a, _, _, _, rfl, rfl, Same.sqT s6 sq5, atI_nat hxv, _, rfl, D, pa, ov, es, od, rfl, g5.2.same s6, dxv.same s6, ho5.same s6, bo, dd, dw2, fun H7 v7 d7 g7 h7 gr7 => ?_⟩
      refine ⟨by show 1 ≤ sizeLine; decide, fun p8 n8 => ?_⟩
      have s8 := same_upd (o := .tup [v7]) n8
      have e8 : upd H7 p8 (.tup [v7]) p8 = some (.tup [v7]) := upd_same
      generalize upd H7 p8 (.tup [v7]) = H8 at s8 e8 ⊢
      have g6 := g5.same s6
      have g8 := (g6.trans g7).same s8
      refine cat_anyA ((g7.same s8).tk g6.2 |>.sqT sq6) (.inl (.inl e8)) (by rw [List.length_take]; exact Nat.le_trans (show _ ≤ 2000 by simp; omega) (by decide)) fun H9 p9 s9 sq9 => ?_
      have g9 := g8.same s9
      refine ⟨_, rfl, _, rfl, _, _, rfl, rfl, _, rfl, ?_⟩
      dsimp only [tNoPart]
      rw [show ((at_ : Int) + 1) = ((at_ + 1 : Nat) : Int) by omega]
      refine sl_anyA ((g9.tk die).sqT sq) fun H10 p10 s10 sq10 => ?_
      have g10 := g9.same s10
      refine cat_anyA (Same.sqT s10 sq9) sq10 (by rw [List.length_append, List.length_take, List.length_drop]; exact Nat.le_trans (show _ ≤ 2000 by simp; omega) (by decide)) fun H11 p11 s11 sq11 => ?_
      have g11 := g10.same s11
      have r11 := r.go die g11
      refine q H11 _ _ g11 (.tup sq11 (AtAll.app (AtAll.app (r11.take _) (.cons (h7.same (s8.trans (s9.trans (s10.trans s11)))) .nil)) (r11.drop _))) (grew_mid hes gr7)
    · rintro σ1 H3 ⟨⟨y, rfl⟩, g3⟩
      clear eL all li sm g2
      refine ⟨_, rfl, by show 8 ≤ sizeLine; decide, fun p1 n1 => ?_⟩
      have g4 := g3.same (same_upd (o := .lst ((["seq", "or", "call", "with", "own", "run", "wrap", "Do"] : List Str).map V.str)) n1)
      have e1 : upd H3 p1 (.lst ((["seq", "or", "call", "with", "own", "run", "wrap", "Do"] : List Str).map V.str)) p1 = some (.lst ((["seq", "or", "call", "with", "own", "run", "wrap", "Do"] : List Str).map V.str)) := upd_same
      have np1 := g3.2.ne n1
      refine ⟨D, p1, (["seq", "or", "call", "with", "own", "run", "wrap", "Do"] : List Str).map V.str, g4.2, rfl, .inl (.inl e1), np1, List.cons_ne_nil _ _, by decide, fun v HB hv gB _ => ?_⟩
      obtain ⟨wd, hw, rfl⟩ := List.mem_map.mp hv
      have wok : wd.length ≤ 1000 ∧ PyData.strOk wd = true := by
        have h := (show ((["seq", "or", "call", "with", "own", "run", "wrap", "Do"] : List Str).all fun z => decide (z.length ≤ 1000) && PyData.strOk z) = true by decide +kernel)
        obtain ⟨h1, h2⟩ := Bool.and_eq_true_iff.mp (List.all_eq_true.mp h wd hw)
        exact ⟨of_decide_eq_true h1, h2⟩
      have g5 := g4.trans gB
      clear gB g4 e1 np1 hv hw g3
      have sq5 := (g5.tk die).sqT sq
      have dl : xs.length ≤ 900 := by omega
      have size2 : ∀ {m : Nat}, m ≤ 2000 → m ≤ sizeLine := fun h => Nat.le_trans h (by decide)
      have k0 : KLB K HB D (.tup ds) [ov] := .cons (ho.go die g5) (grew_small bo) .nil
      refine ⟨_, rfl, _, rfl, ?_⟩
      dsimp only [tNoPart]
      refine ⟨_, rfl, _, rfl, ?_⟩
      refine cut_init sq5 fun H6 p6 s6 sq6 => ?_
      have g6 := g5.same s6
      have k1 := (k0.go g5.2 (.of g5.2 s6)).cons (.tup (D := D) sq6 ((r.go die g6).take _)) (by rw [lx]; exact grew_init ds _)
      clear k0 s6 sq5 g5 sq6
      refine ⟨_, rfl, _, rfl, by show 1 ≤ sizeLine; decide, fun p7 n7 => ?_⟩
      have s7 := same_upd (o := .tup [ov]) n7
      have e7 : upd H6 p7 (.tup [ov]) p7 = some (.tup [ov]) := upd_same
      generalize upd H6 p7 (.tup [ov]) = H7 at s7 e7 ⊢
      have g7 := g6.same s7
      refine cat_anyA ((g7.tk die).sqT sq) (.inl (.inl e7)) (size2 (by show xs.length + 1 ≤ 2000; omega)) fun H8 p8 s8 sq8 => ?_
      have g8 := g7.same s8
      have k2 := (k1.go g6.2 (.of g6.2 (s7.trans s8))).cons (.tup (D := D) sq8 ((r.go die g8).app (.cons (ho.go die g8) .nil))) (grew_snoc bo)
      clear k1 s7 e7 g7 s8 sq8 g6
      refine ⟨_, rfl, a, xs, rfl, .inr ((g8.tk die).sqT sq), fun p9 n9 => ?_⟩
      have s9 := same_upd (o := .lst xs) n9
      have e9 : upd H8 p9 (.lst xs) p9 = some (.lst xs) := upd_same
      generalize upd H8 p9 (.lst xs) = H9 at s9 e9 ⊢
      have g9 := g8.same s9
      have k9 := (k2.go g8.2 (.of g8.2 s9)).cons (.lst (D := D) (g8.2.ne n9) e9) (grew_small (ds := ds) (d := .oth) ⟨Nat.zero_le _, Nat.zero_le _, by show 1 ≤ 3; decide⟩)
      clear k2 s9 e9 g8
      refine ⟨_, rfl, by show 1 ≤ sizeLine; decide, fun p20 n20 => ?_⟩
      have s20 := same_upd (o := .tup [V.str wd]) n20
      have e20 : upd H9 p20 (.tup [V.str wd]) p20 = some (.tup [V.str wd]) := upd_same
      generalize upd H9 p20 (.tup [V.str wd]) = H20 at s20 e20 ⊢
      have g20 := g9.same s20
      refine ⟨_, rfl, _, rfl, ?_⟩
      dsimp only [tNoPart]
      refine sl_anyA (k := 1) ((g20.tk die).sqT sq) fun H21 p21 s21 sq21 => ?_
      have g21 := g20.same s21
      refine cat_anyA (.inl (.inl (s21 _ _ e20))) sq21 (size2 (by rw [List.length_drop]; show 1 + _ ≤ 2000; omega)) fun H22 p22 s22 sq22 => ?_
      have g22 := g21.same s22
      have k22 := (k9.go g9.2 (.of g9.2 (s20.trans (s21.trans s22)))).cons (.tup (D := D) sq22 (AtAll.app (.cons (.str _ wok) .nil) ((r.go die g22).drop 1))) (grew_head 1 (small_str wd))
      clear k9 s20 e20 s21 sq21 s22 sq22 g20 g21 g9
      refine ⟨_, rfl, by show 1 ≤ sizeLine; decide, fun p30 n30 => ?_⟩
      have s30 := same_upd (o := .tup [ov]) n30
      have e30 : upd H22 p30 (.tup [ov]) p30 = some (.tup [ov]) := upd_same
      generalize upd H22 p30 (.tup [ov]) = H30 at s30 e30 ⊢
      have g30 := g22.same s30
      refine ⟨_, rfl, _, rfl, ?_⟩
      dsimp only [tNoPart]
      refine sl_anyA (k := 1) ((g30.tk die).sqT sq) fun H31 p31 s31 sq31 => ?_
      have g31 := g30.same s31
      refine cat_anyA (.inl (.inl (s31 _ _ e30))) sq31 (size2 (by rw [List.length_drop]; show 1 + _ ≤ 2000; omega)) fun H32 p32 s32 sq32 => ?_
      have g32 := g31.same s32
      have k32 := (k22.go g22.2 (.of g22.2 (s30.trans (s31.trans s32)))).cons (.tup (D := D) sq32 (AtAll.app (.cons (ho.go die g32) .nil) ((r.go die g32).drop 1))) (grew_head 1 bo)
      clear k22 s30 e30 s31 sq31 s32 sq32 g30 g31 g22
      refine ⟨_, rfl, by show 1 ≤ sizeLine; decide, fun p40 n40 => ?_⟩
      have s40 := same_upd (o := .tup [V.str "seq"]) n40
      have e40 : upd H32 p40 (.tup [V.str "seq"]) p40 = some (.tup [V.str "seq"]) := upd_same
      generalize upd H32 p40 (.tup [V.str "seq"]) = H40 at s40 e40 ⊢
      have g40 := g32.same s40
      refine ⟨by show 1 ≤ sizeLine; decide, fun p41 n41 => ?_⟩
      have s41 := same_upd (o := .tup [V.ref p40]) n41
      have e41 : upd H40 p41 (.tup [V.ref p40]) p41 = some (.tup [V.ref p40]) := upd_same
      generalize upd H40 p41 (.tup [V.ref p40]) = H41 at s41 e41 ⊢
      have g41 := g40.same s41
      refine cat_anyA ((g41.tk die).sqT sq) (.inl (.inl e41)) (size2 (by show xs.length + 1 ≤ 2000; omega)) fun H42 p42 s42 sq42 => ?_
      have g42 := g41.same s42
      have sok : ("seq" : Str).length ≤ 1000 ∧ PyData.strOk "seq" = true := ⟨by decide +kernel, by decide +kernel⟩
      have ook : ("or" : Str).length ≤ 1000 ∧ PyData.strOk "or" = true := ⟨by decide +kernel, by decide +kernel⟩
      have k42 := (k32.go g32.2 (.of g32.2 (s40.trans (s41.trans s42)))).cons (.tup (D := D) sq42 ((r.go die g42).app (.cons (.tup (.inl (.inl ((s41.trans s42) _ _ e40))) (.cons (.str _ sok) .nil)) .nil))) (grew_snoc (small_seq "seq"))
      clear k32 s40 e40 s41 e41 s42 sq42 g40 g41 g32
      refine ⟨by show 7 ≤ sizeLine; decide, fun p50 n50 => ?_⟩
      generalize hh : upd H42 p50 _ = H50
      have s50 : Same H42 H50 := by rw [← hh]; exact same_upd n50
      have g50 := g42.same s50
      have k50 := k42.go g42.2 (.of g42.2 s50)
      have np50 := g42.2.ne n50
      have e50 : H50 p50 = some (.lst [ov, .ref p6, .ref p8, .ref p9, .ref p22, .ref p32, .ref p42]) := by rw [← hh]; exact upd_same
      clear hh k42 s50 g42
      refine ⟨_, rfl, _, rfl, ?_⟩
      refine ⟨_, rfl, by show 2 ≤ sizeLine; decide, fun p51 n51 => ?_⟩
      have s51 := same_upd (o := .tup [V.str "seq", V.ref a]) n51
      have e51 : upd H50 p51 (.tup [V.str "seq", V.ref a]) p51 = some (.tup [V.str "seq", V.ref a]) := upd_same
      generalize upd H50 p51 (.tup [V.str "seq", V.ref a]) = H51 at s51 e51 ⊢
      refine ⟨_, rfl, _, rfl, by show 3 ≤ sizeLine; decide, fun p52 n52 => ?_⟩
      have s52 := same_upd (o := .tup [V.str "or", V.ref a, V.ref a]) n52
      have e52 : upd H51 p52 (.tup [V.str "or", V.ref a, V.ref a]) p52 = some (.tup [V.str "or", V.ref a, V.ref a]) := upd_same
      generalize upd H51 p52 (.tup [V.str "or", V.ref a, V.ref a]) = H52 at s52 e52 ⊢
      refine ⟨by show 1 ≤ sizeLine; decide, fun p53 n53 => ?_⟩
      have s53 := same_upd (o := .tup [V.str "or"]) n53
      have e53 : upd H52 p53 (.tup [V.str "or"]) p53 = some (.tup [V.str "or"]) := upd_same
      generalize upd H52 p53 (.tup [V.str "or"]) = H53 at s53 e53 ⊢
      refine ⟨by show 1 ≤ sizeLine; decide, fun p54 n54 => ?_⟩
      have s54 := same_upd (o := .tup [V.str "seq"]) n54
      have e54 : upd H53 p54 (.tup [V.str "seq"]) p54 = some (.tup [V.str "seq"]) := upd_same
      generalize upd H53 p54 (.tup [V.str "seq"]) = H54 at s54 e54 ⊢
      refine ⟨by show 4 ≤ sizeLine; decide, fun p55 n55 => ?_⟩
      have s55 := same_upd (o := .lst [V.ref p51, V.ref p52, V.ref p53, V.ref p54]) n55
      have e55 : upd H54 p55 (.lst [V.ref p51, V.ref p52, V.ref p53, V.ref p54]) p55 = some (.lst [V.ref p51, V.ref p52, V.ref p53, V.ref p54]) := upd_same
      generalize upd H54 p55 (.lst [V.ref p51, V.ref p52, V.ref p53, V.ref p54]) = H55 at s55 e55 ⊢
      have t3 := s53.trans (s54.trans s55)
      have sA := s51.trans (s52.trans t3)
      have gA := g50.same sA
      have pcA : At K H55 D (.ref a) (.tup ds) := hd.go die gA
      have kA := k50.go g50.2 (.of g50.2 sA)
      have kB := (((kA.cons (.tup (D := D) (.inl (.inl ((s52.trans t3) _ _ e51))) (.cons (.str _ sok) (.cons pcA .nil))) (grew_seq "seq" ds)).cons (.tup (D := D) (.inl (.inl (t3 _ _ e52))) (.cons (.str _ ook) (.cons pcA (.cons pcA .nil)))) (grew_alt "or" ds)).cons (.tup (D := D) (.inl (.inl ((s54.trans s55) _ _ e53))) (.cons (.str _ ook) .nil)) (grew_small (small_seq "or"))).cons (.tup (D := D) (.inl (.inl (s55 _ _ e54))) (.cons (.str _ sok) .nil)) (grew_small (small_seq "seq"))
      refine ⟨p50, p55, _, _, rfl, rfl, sA _ _ e50, e55, by show 11 ≤ sizeLine; decide, fun p56 n56 => ?_⟩
      have s56 := same_upd (o := .lst ([ov, V.ref p6, V.ref p8, V.ref p9, V.ref p22, V.ref p32, V.ref p42] ++ [V.ref p51, V.ref p52, V.ref p53, V.ref p54])) n56
      have e56 : upd H55 p56 (.lst ([ov, V.ref p6, V.ref p8, V.ref p9, V.ref p22, V.ref p32, V.ref p42] ++ [V.ref p51, V.ref p52, V.ref p53, V.ref p54])) p56 = some (.lst ([ov, V.ref p6, V.ref p8, V.ref p9, V.ref p22, V.ref p32, V.ref p42] ++ [V.ref p51, V.ref p52, V.ref p53, V.ref p54])) := upd_same
      generalize upd H55 p56 (.lst ([ov, V.ref p6, V.ref p8, V.ref p9, V.ref p22, V.ref p32, V.ref p42] ++ [V.ref p51, V.ref p52, V.ref p53, V.ref p54])) = H56 at s56 e56 ⊢
      have gB := gA.same s56
      have kC := kB.go gA.2 (.of gA.2 s56)
      refine ⟨D, p56, _, gB.2, rfl, .inl (.inl e56), gA.2.ne n56, List.cons_ne_nil _ _, by show 11 < 1000; decide, fun v HC hv gC _ => ?_⟩
      have mv : v ∈ [V.ref p54, V.ref p53, V.ref p52, V.ref p51, V.ref p42, V.ref p32, V.ref p22, V.ref p9, V.ref p8, V.ref p6, ov] := by
        simp only [List.cons_append, List.nil_append, List.mem_cons, List.not_mem_nil, or_false] at hv ⊢
        rcases hv with h | h | h | h | h | h | h | h | h | h | h <;> simp [h]
      obtain ⟨d', hd', gr⟩ := kC v mv
      exact q HC v d' (gB.trans gC) (hd'.go gB.2 gC) gr
end
end FS

set_option Elab.async false
set_option linter.all false
set_option maxRecDepth 100000
set_option maxHeartbeats 4000000
namespace FS
open PySem PySem.Spec PyProof.Rows L2
section
variable {P : Program} {w : World} {K : PySem.W.Frag} {mg : Str → Option Value} {base : Heap}
abbrev NAProcedure__init__ : List Str := ["self", "name", "parameters", "body", "_", "kind", "part"]
theorem scAProcedure__init__ : FnScope NAProcedure__init__ ["self", "name", "parameters", "body"] (defScope sProcedure__init__) := ⟨rfl, rfl, rfl, by decide +kernel, rfl, by decide +kernel, by decide +kernel⟩
theorem okA_Procedure__init__ {f : Addr} {fd : FuncData} (F : Fun K "__init__" "Procedure.__init__" sProcedure__init__ f fd) (T : Nm K mg) {C CI : Addr} (B : Bad K mg CI) (PC : PrC K mg C) (Cis_name : Cal P w K mg base 1 "is_name" ["value"] (spNameA K)) (Cis_term : Cal P w K mg base 6 "is_term" ["value", "parameters"] (spTermN K)) (Call_parts : Cal P w K mg base 8 "all_parts" ["part"] (spAll K 7)) : FnOk P w K mg base (L2.CX P w) 9 f fd ["self", "name", "parameters", "body"] (spInitA K C CI) := by
  have nd := scAProcedure__init__.nd
  refine F.okX scAProcedure__init__ (fun vs H Q E h => ?_) (fun cdv A outer s H vs Q E hr h => ?_)
  · obtain ⟨D, p, dx, nm, pv', bv, own, d, rfl, hp, wd, dw, po, hb, wide, qe, q⟩ := h
    rfl
  · obtain ⟨D, p, dx, nm, pv', bv, own, d, rfl, hp, wd, dw, po, hb, wide, qe, q⟩ := h
    skip
    refine ⟨_, (pss_cons (ps_if (pt_not (pt_val (pe_own Cis_name (hr.mono (by decide)) (by rfl) (pa_cons (pv 1) pa_nil))))
  (pss_one ps_never)
  pss_nil)
  (pss_cons (ps_if (pt_not (pt_val (pe_own Cis_term (hr.mono (by decide)) (by rfl) (pa_cons (pv 3) (pa_cons (pv 2) pa_nil)))))
  (pss_one (ps_raise rfl (takes_of rfl rfl rfl rfl) (pmk_own PySem.F.excBase_ValueError B.xI B.gI B.kI (raises_own B.bI B.tI) rfl)))
  pss_nil)
  (PSs.nox (pss_cons (ps_fld (pv 0) (pv 1) rfl)
  (pss_cons (ps_fld (pv 0) (pv 2) rfl)
  (pss_cons (ps_fld (pv 0) (pv 3) rfl)
  (pss_cons (ps_fld (pv 0) (pe_own Call_parts (hr.mono (by decide)) (by rfl) (pa_cons (pv 3) pa_nil)) rfl)
  (pss_cons (ps_fld (pv 0) (pe_callTy call_tuple_of (by rfl) T.b_tuple (by decide +kernel) (pa_cons (pe_lc (own := [("_", 4), ("kind", 5)]) (g := gTup K 2 (gCons (gName 4) (gCons (gName 5) gNil))) (tt := tYes) rfl nd (pi_tup (pv 2)) (blkOk_by (own := [("_", 4), ("kind", 5)]) (N := NAProcedure__init__) (sc := defScope sProcedure__init__) (by decide +kernel)) (fun _ _ _ _ _ => (pg_tup rfl (pgs_cons (pg_name (i := 4) nd rfl (Or.inl rfl)) (pgs_cons (pg_name (i := 5) nd rfl (Or.inl rfl)) pgs_nil)))) (fun _ _ _ _ _ => pts_nil) (fun _ _ _ _ _ => (pv 5))) pa_nil)) rfl)
  (pss_cons (ps_fld (pv 0) (pe_callTy call_tuple_of (by rfl) T.b_tuple (by decide +kernel) (pa_cons (pe_callB (cr_ranked rfl) (by rfl) T.b_sorted (by decide +kernel) (pa_cons (pe_set (own := [("part", 6)]) (g := gName 6) rfl nd (pi_list (pe_fld (pv 0) rfl)) (blkOk_by (own := [("part", 6)]) (N := NAProcedure__init__) (sc := defScope sProcedure__init__) (by decide +kernel)) (fun _ _ _ _ _ => (pg_name (i := 6) nd rfl (Or.inl rfl))) (fun _ _ _ _ _ => pts_one (pt_cmpR op_eq (pe_ix (ix_tupK (K := K) rfl) (pv 6) pe_int (fun _ _ => rfl)) pe_str (nomark _))) (fun _ _ _ _ _ => (pe_ix (ix_tupK (K := K) rfl) (pv 6) pe_int (fun _ _ => rfl)))) pa_nil)) pa_nil)) rfl)
  (pss_one (ps_fld (pv 0) (pe_callTy call_tuple_of (by rfl) T.b_tuple (by decide +kernel) (pa_cons (pe_callB (cr_ranked rfl) (by rfl) T.b_sorted (by decide +kernel) (pa_cons (pe_set (own := [("part", 6)]) (g := gName 6) rfl nd (pi_list (pe_fld (pv 0) rfl)) (blkOk_by (own := [("part", 6)]) (N := NAProcedure__init__) (sc := defScope sProcedure__init__) (by decide +kernel)) (fun _ _ _ _ _ => (pg_name (i := 6) nd rfl (Or.inl rfl))) (fun _ _ _ _ _ => pts_one (pt_cmpR (op_inK (K := K) rfl) (pe_ix (ix_tupK (K := K) rfl) (pv 6) pe_int (fun _ _ => rfl)) (pe_tup (pa_cons pe_str (pa_cons pe_str pa_nil))) (by rfl))) (fun _ _ _ _ _ => (pe_ix (ix_tupK (K := K) rfl) (pv 6) pe_int (fun _ _ => rfl)))) pa_nil)) pa_nil)) rfl))))))))))), ?_⟩

    refine ⟨_, rfl, D, _, .str nm, rfl, .str nm ⟨wd.2.1, wd.2.2⟩, fun H1 s1 => ?_⟩
    have wd : wordB nm = true := wd.1
    rw [show nameB (.str nm) = true from wd]
    refine ⟨_, rfl, iteF ?_⟩
    refine ⟨_, rfl, _, rfl, D, bv, pv', d, own, rfl, hb.same s1, wide, Dp.tk (.of s1) (pars_noL own) dw, po, fun H2 s2 => ?_⟩
    by_cases te : termB own d = true
    case neg =>
      have te := Bool.not_eq_true _ |>.mp te
      rw [te]
      exact ⟨_, rfl, iteT (qe te _ (s1.trans s2))⟩
    obtain ⟨te1, te2⟩ := Bool.and_eq_true_iff.mp (show (pieceB own 6 d false && decide (countN 6 d ≤ 40)) = true from te)
    obtain ⟨t, db, gd, nw, few0, low⟩ := piece_tm 6 te1 hb
    have few : t.count ≤ 40 := by rw [few0]; exact of_decide_eq_true te2
    have q := q te t db gd nw few0
    rw [te]
    refine ⟨_, rfl, iteF ?_⟩
    have s12 := s1.trans s2
    have hp2 := s12 _ _ hp
    have db2 := Dp.tk (.of s12) t.noL db
    have dw2 := Dp.tk (.of s12) (pars_noL own) dw
    have k2 : Kp p H H2 := .of s12
    clear s1 s2 s12 hp db dw
    have fin : ∀ {H' H'' : Hp} {fs : List (Str × V)} {y : V} {g : Str}, Kp p H H' → H' p = some (.ins C dx fs) → upd H' p (.ins C dx (putF g y fs)) = H'' → Kp p H H'' ∧ H'' p = some (.ins C dx (putF g y fs)) ∧ TK H' H'' ∧ Kp p H' H'' := fun k e h => by
      subst h
      exact ⟨k.trans .set, upd_same, TK.set e rfl, .set⟩
    refine ⟨_, rfl, _, rfl, p, C, dx, [], rfl, hp2, PC.cl, PC.a1, by show 0 < 1000; decide, ?_⟩
    generalize hh : upd H2 p _ = H3
    obtain ⟨k3, hp3, t3, -⟩ := fin k2 hp2 hh
    have db3 := Dp.tk t3 t.noL db2
    have dw3 := Dp.tk t3 (pars_noL own) dw2
    clear hh t3 hp2 k2 db2 dw2
    refine ⟨_, rfl, _, rfl, p, C, dx, _, rfl, hp3, PC.cl, PC.a2, by show 1 < 1000; decide, ?_⟩
    generalize hh : upd H3 p _ = H4
    obtain ⟨k4, hp4, t4, -⟩ := fin k3 hp3 hh
    rw [show putF "_named" (V.str nm) [] = [(("_named" : Str), V.str nm)] from rfl, pf2] at hp4
    have db4 := Dp.tk t4 t.noL db3
    have dw4 := Dp.tk t4 (pars_noL own) dw3
    rw [show putF "_named" (V.str nm) [] = [(("_named" : Str), V.str nm)] from rfl, pf2] at hh
    clear t4 hp3 k3 db3 dw3 hh
    refine ⟨_, rfl, _, rfl, p, C, dx, _, rfl, hp4, PC.cl, PC.a3, by show 2 < 1000; decide, ?_⟩
    generalize hh : upd H4 p _ = H5
    obtain ⟨k5, hp5, t5, -⟩ := fin k4 hp4 hh
    rw [pf3] at hp5
    have db5 := Dp.tk t5 t.noL db4
    have dw5 := Dp.tk t5 (pars_noL own) dw4
    clear t5 hp4 k4 db4 dw4 hh
    -- the parts
    refine ⟨_, rfl, own, bv, t, rfl, db5, gd, by omega, by omega, fun H6 pa xs s6 na hpa rx => ?_⟩
    have naH : H pa = none := by
      cases e : H pa with
      | none => rfl
      | some o =>
        have npa : pa ≠ p := fun z => by
          rw [z, hp5] at na
          cases na
        have := k5 _ _ npa e
        rw [this] at na
        cases na
    have hp6 := s6 _ _ hp5
    have k6 := k5.trans (.of s6)
    have db6 := Dp.tk (.of s6) t.noL db5
    have dw6 := Dp.tk (.of s6) (pars_noL own) dw5
    have npa : pa ≠ p := fun z => by
      rw [z, hp5] at na
      cases na
    clear hp5 k5 db5 dw5 s6 na
    refine ⟨_, rfl, p, C, dx, _, rfl, hp6, PC.cl, PC.a4, by show 3 < 1000; decide, ?_⟩
    generalize hh : upd H6 p _ = H7
    obtain ⟨k7, hp7, t7, j7⟩ := fin k6 hp6 hh
    rw [pf4] at hp7
    have db7 := Dp.tk t7 t.noL db6
    have dw7 := Dp.tk t7 (pars_noL own) dw6
    have hpa7 := j7 _ _ npa hpa
    have rx7 := DpAll.tk t7 (noL_datas _) rx
    clear t7 hp6 k6 db6 dw6 hh j7 hpa rx
    -- the kinds
    obtain ⟨aw, ps, rfl, sqp, rp⟩ := Dp.tup_inv (show Dp K H7 pv' (.tuple (own.map parD)) from dw7)
    have lp : ps.length = own.length := by rw [DpAll.len rp, List.length_map]
    refine ⟨_, rfl, aw, rfl, ⟨ps, sqp⟩, fun D nD => ?_⟩
    refine lc_tup (xs := ps) (fun i H' => Same H7 H' ∧ H' D = some (.lst ((own.take i).map fun z => V.str (kd z.2)))) ⟨same_upd nD, upd_same⟩ (fun i H' hi h => Same.sqT h.1 sqp) (fun i x H8 hx h => ?_) (fun H8 h => ?_)
    · obtain ⟨sm, eD⟩ := h
      obtain ⟨d, hd, dx'⟩ := DpAll.get (DpAll.stay (.of sm) (pars_noL own) rp) hx
      rw [List.getElem?_map] at hd
      obtain ⟨z, hz, rfl⟩ := Option.map_eq_some_iff.mp hd
      have li := (List.getElem?_eq_some_iff.mp hx).1
      have f3 := po.few
      obtain ⟨b, ys, rfl, sb, rb⟩ := Dp.tup_inv (show Dp K H8 x (.tuple [.str z.1, .str (kd z.2)]) from dx')
      cases rb with
      | cons y1 rb => cases rb with
        | cons y2 rb =>
        cases rb
        cases Dp.str_inv y1
        cases Dp.str_inv y2
        refine ⟨b, _, rfl, sb, rfl, _, _, rfl, _, _, rfl, rfl, ?_⟩
        refine ⟨rfl, _, rfl, _, eD, ?_, Same.set sm nD, ?_⟩
        · rw [List.length_map, List.length_take]
          exact Nat.lt_of_le_of_lt (Nat.min_le_right _ _) (small1000 (by omega))
        · rw [upd_same, take_one (fun z : Str × Bool => V.str (kd z.2)) hz]
    · obtain ⟨s8, eD⟩ := h
      rw [lp, List.take_length] at eD
      refine ⟨D, _, rfl, .inl ⟨.inl (.inl eD), fun ka nk => ?_⟩⟩
      have s9 := s8.trans (same_upd (o := .tup (own.map fun z => V.str (kd z.2))) nk)
      have ek : upd H8 ka (.tup (own.map fun z => V.str (kd z.2))) ka = some (.tup (own.map fun z => V.str (kd z.2))) := upd_same
      generalize upd H8 ka (.tup (own.map fun z => V.str (kd z.2))) = H9 at s9 ek ⊢
      have dk9 : Dp K H9 (.ref ka) (kindD own) := .tup (.inl (.inl ek)) (by
        have h : ∀ l : List (Str × Bool), DpAll K H9 (l.map fun z => V.str (kd z.2)) (l.map fun z => PyData.str (kd z.2)) := fun l => by
          induction l with
          | nil => exact .nil
          | cons x r ih => exact .cons (.str _) ih
        exact h own)
      have hp9 := s9 _ _ hp7
      have k9 := k7.trans (.of s9)
      have db9 := Dp.tk (.of s9) t.noL db7
      have dw9 := Dp.tk (.of s9) (pars_noL own) dw7
      have hpa9 := s9 _ _ hpa7
      have rx9 := DpAll.tk (.of s9) (noL_datas _) rx7
      clear s8 eD nk s9 ek hp7 k7 db7 dw7 hpa7 rx7 sqp rp nD
      refine ⟨_, rfl, p, C, dx, _, rfl, hp9, PC.cl, PC.a5, by show 4 < 1000; decide, ?_⟩
      generalize hh : upd H9 p _ = G0
      obtain ⟨k0, hp0, t0, j0⟩ := fin k9 hp9 hh
      rw [pf5] at hp0
      have db0 := Dp.tk t0 t.noL db9
      have dw0 := Dp.tk t0 (pars_noL own) dw9
      have hpa0 := j0 _ _ npa hpa9
      have rx0 := DpAll.tk t0 (noL_datas _) rx9
      have dk0 := Dp.tk t0 (kindD_noL own) dk9
      clear t0 hp9 k9 db9 dw9 hh j0 hpa9 rx9 dk9
      have lx : xs.length = t.count := by rw [DpAll.len rx0, datas_len]; rfl
      have la : t.all.length = t.count := rfl
      have ne : xs ≠ [] := fun z => by
        have := count_pos t
        rw [z] at lx
        simp at lx
        omega
      -- the words
      refine ⟨_, rfl, p, C, dx, _, _, rfl, hp0, PC.cl, PC.a4, lkq4, pa, rfl, ⟨xs, .inl (.inl hpa0)⟩, fun D2 nD2 => ?_⟩
      refine set_list (xs := xs) (fun i H' => Same G0 H' ∧ H' D2 = some (SO w D2 (uniq ((t.all.take i).filterMap wordOf)))) ⟨same_upd nD2, upd_same⟩ (fun i H' hi h => .inl (.inl (h.1 _ _ hpa0))) (fun i x G1 hx h => ?_) (fun G1 h => ?_)
      · obtain ⟨sm, eD⟩ := h
        obtain ⟨u, hu, du⟩ := datas_at (DpAll.tk (.of sm) (noL_datas _) rx0) hx
        obtain ⟨b, ys, rfl, sb, hw, -⟩ := deed_open du
        refine ⟨rfl, _, rfl, b, _, 0, _, rfl, rfl, sb, at0, rfl, _, rfl, ?_⟩
        rw [tag_dec u.hd (j := 0)]
        refine ite2 (fun e => ?_) (fun e => ?_)
        · rcases hw with ⟨_, wd', zs, ew, rfl⟩ | ⟨e0, _⟩
          · refine ⟨_, rfl, b, _, 1, _, rfl, rfl, sb, at1, wd', _, rfl, eD, uniq_small (fm_len _ _ _) (by omega), Same.set sm nD2, ?_⟩
            rw [upd_same, fm_some hu ew, uniq_more]
            rfl
          · exact absurd (of_decide_eq_true e) e0
        · rcases hw with ⟨e0, _⟩ | ⟨_, ew⟩
          · exact absurd (decide_eq_true e0) e
          · rw [fm_none hu ew]
            exact ⟨sm, eD⟩
      · obtain ⟨s1, eD⟩ := h
        rw [lx, ← la, List.take_length] at eD
        refine ⟨D2, _, rfl, eD, by have := uniq_small (fm_len t.all t.all.length wordOf) (by omega); rw [List.take_length] at this; have e : scanBound = 4096 := rfl; omega, fun ws q1 pm so nq => ?_⟩
        have s2 := s1.trans (same_upd (o := .lst (ws.map V.str)) nq)
        have e2 : upd G1 q1 (.lst (ws.map V.str)) q1 = some (.lst (ws.map V.str)) := upd_same
        generalize upd G1 q1 (.lst (ws.map V.str)) = G2 at s2 e2 ⊢
        refine ⟨q1, _, rfl, .inl ⟨.inl (.inl e2), fun wa nw' => ?_⟩⟩
        have s3 := s2.trans (same_upd (o := .tup (ws.map V.str)) nw')
        have e3 : upd G2 wa (.tup (ws.map V.str)) wa = some (.tup (ws.map V.str)) := upd_same
        generalize upd G2 wa (.tup (ws.map V.str)) = G3 at s3 e3 ⊢
        have dws3 : Dp K G3 (.ref wa) (strsD ws) := .tup (.inl (.inl e3)) (dp_strs ws)
        have rws : Ranks (t.all.filterMap wordOf) ws := ⟨pm, so⟩
        have hp3 := s3 _ _ hp0
        have k3 := k0.trans (.of s3)
        have db3 := Dp.tk (.of s3) t.noL db0
        have dw3 := Dp.tk (.of s3) (pars_noL own) dw0
        have hpa3 := s3 _ _ hpa0
        have rx3 := DpAll.tk (.of s3) (noL_datas _) rx0
        have dk3 := Dp.tk (.of s3) (kindD_noL own) dk0
        clear s1 eD pm so nq s2 e2 nw' s3 e3 hp0 k0 db0 dw0 hpa0 rx0 dk0 nD2
        refine ⟨_, rfl, p, C, dx, _, rfl, hp3, PC.cl, PC.a6, by show 5 < 1000; decide, ?_⟩
        generalize hh : upd G3 p _ = G4
        obtain ⟨k4, hp4, t4, j4⟩ := fin k3 hp3 hh
        rw [pf6] at hp4
        have db4 := Dp.tk t4 t.noL db3
        have dw4 := Dp.tk t4 (pars_noL own) dw3
        have hpa4 := j4 _ _ npa hpa3
        have rx4 := DpAll.tk t4 (noL_datas _) rx3
        have dk4 := Dp.tk t4 (kindD_noL own) dk3
        have dws4 := Dp.tk t4 (strs_noL ws) dws3
        clear t4 hp3 k3 db3 dw3 hh j4 hpa3 rx3 dk3 dws3
        -- the uses
        refine ⟨_, rfl, p, C, dx, _, _, rfl, hp4, PC.cl, PC.a4, lkr4, pa, rfl, ⟨xs, .inl (.inl hpa4)⟩, fun D3 nD3 => ?_⟩
        refine set_list (xs := xs) (fun i H' => Same G4 H' ∧ H' D3 = some (SO w D3 (uniq ((t.all.take i).filterMap useOf)))) ⟨same_upd nD3, upd_same⟩ (fun i H' hi h => .inl (.inl (h.1 _ _ hpa4))) (fun i x G5 hx h => ?_) (fun G5 h => ?_)
        · obtain ⟨sm, eD⟩ := h
          obtain ⟨u, hu, du⟩ := datas_at (DpAll.tk (.of sm) (noL_datas _) rx4) hx
          obtain ⟨b, ys, rfl, sb, -, hw⟩ := deed_open du
          refine ⟨rfl, _, rfl, b, _, 0, _, rfl, rfl, sb, at0, by show 2 ≤ sizeLine; decide, fun p2 np2 => ?_⟩
          have sm2 := sm.trans (same_upd (o := .tup ([("call" : Str), "with"].map V.str)) np2)
          have eD2 := same_upd (o := .tup ([("call" : Str), "with"].map V.str)) np2 _ _ eD
          have sb2 := Same.sqT (same_upd (o := .tup ([("call" : Str), "with"].map V.str)) np2) sb
          refine ⟨p2, [("call" : Str), "with"].map V.str, rfl, .inr (.inl (.inl upd_same)), rfl, flat_strs _, _, rfl, ?_⟩
          rw [inV_strs, tag2]
          refine ite2 (fun e => ?_) (fun e => ?_)
          · rcases hw with ⟨_, wd', zs, ew, rfl⟩ | ⟨e0, _⟩
            · refine ⟨_, rfl, b, _, 1, _, rfl, rfl, sb2, at1, wd', _, rfl, eD2, uniq_small (fm_len _ _ _) (by omega), Same.set sm2 nD3, ?_⟩
              rw [upd_same, fm_some hu ew, uniq_more]
              rfl
            · rw [e0] at e
              cases e
          · rcases hw with ⟨e0, _⟩ | ⟨_, ew⟩
            · exact absurd e0 e
            · rw [fm_none hu ew]
              exact ⟨sm2, eD2⟩
        · obtain ⟨s1, eD⟩ := h
          rw [lx, ← la, List.take_length] at eD
          refine ⟨D3, _, rfl, eD, by have := uniq_small (fm_len t.all t.all.length useOf) (by omega); rw [List.take_length] at this; have e : scanBound = 4096 := rfl; omega, fun us q1 pm so nq => ?_⟩
          have s2 := s1.trans (same_upd (o := .lst (us.map V.str)) nq)
          have e2 : upd G5 q1 (.lst (us.map V.str)) q1 = some (.lst (us.map V.str)) := upd_same
          generalize upd G5 q1 (.lst (us.map V.str)) = G6 at s2 e2 ⊢
          refine ⟨q1, _, rfl, .inl ⟨.inl (.inl e2), fun ua nu => ?_⟩⟩
          have s3 := s2.trans (same_upd (o := .tup (us.map V.str)) nu)
          have e3 : upd G6 ua (.tup (us.map V.str)) ua = some (.tup (us.map V.str)) := upd_same
          generalize upd G6 ua (.tup (us.map V.str)) = G7 at s3 e3 ⊢
          have dus3 : Dp K G7 (.ref ua) (strsD us) := .tup (.inl (.inl e3)) (dp_strs us)
          have hp5 := s3 _ _ hp4
          refine ⟨_, rfl, p, C, dx, _, rfl, hp5, PC.cl, PC.a7, by show 6 < 1000; decide, ?_⟩
          generalize hh : upd G7 p _ = G8
          obtain ⟨k8, hp8, t8, j8⟩ := fin (k4.trans (.of s3)) hp5 hh
          rw [pf7] at hp8
          have tt := (TK.of s3).trans t8
          have fin8 : ∀ D o, H D = some o → D ≠ p → PAtD K C G8 D p nm own t := fun D o hD nD => ⟨⟨dx, _, bv, pa, ka, wa, ua, xs, ws, us, hp8, Dp.tk tt (pars_noL own) dw4, Dp.tk tt t.noL db4, j8 _ _ npa (s3 _ _ hpa4), DpAll.tk tt (noL_datas _) rx4, Dp.tk tt (kindD_noL own) dk4, Dp.tk tt (strs_noL ws) dws4, Dp.tk t8 (strs_noL us) dus3, rws, ⟨pm, so⟩, fun z => by
            rw [z, hD] at naH
            cases naH⟩, fun z => nD z.symm, wd, po, gd, nw, few, low⟩
          exact q G8 ⟨⟨dx, _, bv, pa, ka, wa, ua, xs, ws, us, hp8, Dp.tk tt (pars_noL own) dw4, Dp.tk tt t.noL db4, j8 _ _ npa (s3 _ _ hpa4), DpAll.tk tt (noL_datas _) rx4, Dp.tk tt (kindD_noL own) dk4, Dp.tk tt (strs_noL ws) dws4, Dp.tk t8 (strs_noL us) dus3, rws, ⟨pm, so⟩⟩, wd, po, gd, nw, few, low⟩ k8 fin8
end
end FS

set_option Elab.async false
set_option linter.all false
set_option maxRecDepth 100000
set_option maxHeartbeats 4000000
/-! the levels of the two that call themselves -/
namespace FS
open PySem PySem.Spec PyProof.Rows L2
section
variable {P : Program} {w : World} {K : PySem.W.Frag} {mg : Str → Option Value} {base : Heap}
abbrev ps4 : List Str := ["_law_value", "_law_own", "_law_deep", "_law_is_wrap"]
theorem no_pieces {f : Addr} {fd : FuncData} (F : Fun K "_law_is_piece" "_law_is_piece" s_law_is_piece f fd) (T : Nm K mg) (Co : Cal P w K mg base 1 "_law_own_names" ["_law_own", "_law_kind"] (spOwn K)) (Cw : Cal P w K mg base 2 "_law_is_word" ["_law_value"] (spNameA K)) (Cn : Cal P w K mg base 2 "_law_is_number" ["_law_value", "_law_low", "_law_high"] (spIntA K)) (m : mg "_law_is_piece" = some (.ref f)) (kp : PySem.W.keepIn K (.ref f) = true) (b : Binds K fd ps4 []) :
    ∀ n, Cal P w K mg base (4 + n) "_law_is_piece" ps4 (spPiece K n)
  | 0 => by
    have C0 : Cal P w K mg base 3 "_law_is_piece" ps4 spNever := Cal.up (j := 1) ⟨f, fd, F.ok sc_law_is_piece (fun vs H Q E h => h.elim) (fun cdv A outer s H vs Q E hr h => h.elim), m, kp, b⟩ (by omega)
    exact ⟨f, fd, ok0_l_is_piece (k := 3) F T (by omega) Co Cw Cn C0, m, kp, b⟩
  | n + 1 => ⟨f, fd, ok_l_is_piece (k := 4 + n) F T (by omega) Co Cw Cn (no_pieces F T Co Cw Cn m kp b n), m, kp, b⟩
theorem no_bends {f : Addr} {fd : FuncData} (F : Fun K "_law_bend" "_law_bend" s_law_bend f fd) (T : Nm K mg) (Cc : Cal P w K mg base 1 "_law_cast" ["_law_die", "_law_total"] spCast) (Cp : Cal P w K mg base 2 "_law_pick" ["_law_die", "_law_items"] (spPick K)) (m : mg "_law_bend" = some (.ref f)) (kp : PySem.W.keepIn K (.ref f) = true) (b : Binds K fd ["_law_die", "_law_piece", "_law_odd"] []) :
    ∀ n, Cal P w K mg base (3 + n) "_law_bend" ["_law_die", "_law_piece", "_law_odd"] (spBend K n)
  | 0 => by
    have no : ∀ {vs H Q E}, spBend K 0 vs H Q E → False := fun {vs H Q E} h => by
      obtain ⟨D, a, ov, ds, od, rfl, _, _, _, _, low, _⟩ := h
      have : deepsD ds + 1 ≤ 0 := low
      omega
    exact Cal.up (j := 1) ⟨f, fd, F.ok sc_law_bend (fun vs H Q E h => (no h).elim) (fun cdv A outer s H vs Q E hr h => (no h).elim), m, kp, b⟩ (by omega)
  | n + 1 => ⟨f, fd, ok_l_bend (k := 3 + n) F T (by omega) Cc Cp (no_bends F T Cc Cp m kp b n), m, kp, b⟩
end
end FS

set_option Elab.async false
set_option linter.all false
set_option maxRecDepth 100000
set_option maxHeartbeats 4000000
namespace FS
open PySem PySem.Spec PyProof.Rows L2
section
variable {P : Program} {w : World} {K : PySem.W.Frag} {mg : Str → Option Value} {base : Heap}
abbrev NAis_term : List Str := ["value", "parameters", "pending", "many", "part", "kinds", "depth", "inner", "allowed"]
theorem scAis_term : FnScope NAis_term ["value", "parameters"] (defScope sis_term) := ⟨rfl, rfl, rfl, by decide +kernel, rfl, by decide +kernel, by decide +kernel⟩
theorem okA_is_term {f : Addr} {fd : FuncData} (F : Fun K "is_term" "is_term" sis_term f fd) (T : Nm K mg) (Care_parameters : Cal P w K mg base 4 "are_parameters" ["value"] (spParsA K)) (Ckind_of : Cal P w K mg base 2 "kind_of" ["value"] (spKindA K)) (Chas_form : Cal P w K mg base 4 "has_form" ["part", "parameters"] (spFormA K)) (Cparts_in : Cal P w K mg base 1 "parts_in" ["part"] (spPartsA K)) (Ckinds_in : Cal P w K mg base 3 "kinds_in" ["part"] (spKindsA K)) : FnOk P w K mg base CX0 6 f fd ["value", "parameters"] (spTermN K) := by
  have nd := scAis_term.nd
  refine F.ok scAis_term (fun vs H Q E h => ?_) (fun cdv A outer s H vs Q E hr h => ?_)
  · obtain ⟨D, v, pw, d, own, rfl, hv, wd, dw, po, q⟩ := h
    rfl
  · obtain ⟨D, v, pw, d, own, rfl, hv, wd, dw, po, q⟩ := h
    obtain ⟨t40, g40⟩ := T.g_MAX_TERMS
    obtain ⟨t6, g6⟩ := T.g_MAX_DEPTH
    refine ⟨_, (pss_cons (ps_if (pt_not (pt_val (pe_own Care_parameters (hr.mono (by decide)) (by rfl) (pa_cons (pv 1) pa_nil))))
  (pss_one ps_never)
  pss_nil)
  (pss_cons (ps_set (i := 2) nd rfl (Or.inl rfl) (pe_lst (pa_cons (pe_tup (pa_cons (pv 0) (pa_cons (pe_tup (pa_cons pe_str pa_nil)) (pa_cons pe_int pa_nil)))) pa_nil)))
  (pss_cons (ps_set (i := 3) nd rfl (Or.inl rfl) pe_int)
  (pss_cons (ps_while PassesOwn.never (pt_truth (pv 2) (fun _ => rfl))
  (pss_cons (ps_asg (pe_bm0 PySem.F.plainAttrs_list PySem.F.slot_list_pop PySem.F.type_list_pop mt_pop (pv 2)) (pg_tup rfl (pgs_cons (pg_name (i := 4) nd rfl (Or.inl rfl)) (pgs_cons (pg_name (i := 5) nd rfl (Or.inl rfl)) (pgs_cons (pg_name (i := 6) nd rfl (Or.inl rfl)) pgs_nil)))))
  (pss_cons (ps_aug (i := 3) nd rfl (.inl rfl) pe_int ip_add)
  (pss_cons (ps_if (PW.pt (pw_or (pt_cmpR op_gt (pv 3) (pe_glob (v := .int 40) (by rfl) g40 ⟨_, rfl⟩) (nomark _)) (pw_or1 (pt_cmpR op_gt (pv 6) (pe_glob (v := .int 6) (by rfl) g6 ⟨_, rfl⟩) (nomark _)))))
  (pss_one (ps_ret pe_bl))
  pss_nil)
  (pss_cons (ps_if (PW.pt (pw_or (pt_cmpR op_notIn_seq (pe_own Ckind_of (hr.mono (by decide)) (by rfl) (pa_cons (pv 4) pa_nil)) (pv 5) (by rfl)) (pw_or1 (pt_not (pt_val (pe_own Chas_form (hr.mono (by decide)) (by rfl) (pa_cons (pv 4) (pa_cons (pv 1) pa_nil))))))))
  (pss_one (ps_ret pe_bl))
  pss_nil)
  (pss_one (ps_for PassesOwn.never rfl (RZ.pi_zipA (by rfl) T.b_zip (pa_cons (pe_own Cparts_in (hr.mono (by decide)) (by rfl) (pa_cons (pv 4) pa_nil)) (pa_cons (pe_own Ckinds_in (hr.mono (by decide)) (by rfl) (pa_cons (pv 4) pa_nil)) pa_nil))) (pg_tup rfl (pgs_cons (pg_name (i := 7) nd rfl (Or.inl rfl)) (pgs_cons (pg_name (i := 8) nd rfl (Or.inl rfl)) pgs_nil)))
  (pss_one (ps_expr (pe_bm PySem.F.plainAttrs_list PySem.F.slot_list_append PySem.F.type_list_append mt_append (pv 2) (pa_cons (pe_tup (pa_cons (pv 7) (pa_cons (pv 8) (pa_cons (pe_op op_add (pv 6) pe_int) pa_nil)))) pa_nil)))))))))))
  (pss_one (ps_ret pe_bl)))))), ?_⟩

    obtain ⟨wa, wb⟩ := pars_at (D := D) dw po
    refine ⟨_, rfl, D, pw, _, rfl, wa, fun H1 s1 => ?_⟩
    rw [wb]
    refine ⟨_, rfl, iteF ?_⟩
    refine ⟨_, rfl, by show 1 ≤ sizeLine; decide, fun p1 n1 => ?_⟩
    have s2 := s1.trans (same_upd (o := .tup [V.str "block"]) n1)
    have e1 : upd H1 p1 (.tup [V.str "block"]) p1 = some (.tup [V.str "block"]) := upd_same
    generalize upd H1 p1 (.tup [V.str "block"]) = H2 at s2 e1 ⊢
    refine ⟨by show 3 ≤ sizeLine; decide, fun p2 n2 => ?_⟩
    have s3a := same_upd (o := .tup [v, V.ref p1, V.int 1]) n2
    have e2 : upd H2 p2 (.tup [v, V.ref p1, V.int 1]) p2 = some (.tup [v, V.ref p1, V.int 1]) := upd_same
    generalize upd H2 p2 (.tup [v, V.ref p1, V.int 1]) = H3 at s3a e2 ⊢
    refine ⟨by show 1 ≤ sizeLine; decide, fun pl n3 => ?_⟩
    have s4a := same_upd (o := .lst [V.ref p2]) n3
    have e3 : upd H3 pl (.lst [V.ref p2]) pl = some (.lst [V.ref p2]) := upd_same
    have s3 := s2.trans s3a
    have npl : H pl = none := Same.free s3 n3
    generalize upd H3 pl (.lst [V.ref p2]) = H4 at s4a e3 ⊢
    have s4 := s3.trans s4a
    have hv0 := (At.fresh npl hv).same s4
    have it0 : Its K H4 pl [.ref p2] [⟨d, [false], 1⟩] := .cons (.inl (.inl (s4a _ _ e2))) hv0 (.tup (.inl (.inl (s4a _ _ (s3a _ _ e1)))) (.cons (.str _) .nil)) .nil
    refine ⟨fun m σ H' => ∃ (many : Nat) (y4 y5 y6 y7 y8 : Option V), σ = [some v, some pw, some (.ref pl), some (.int (many : Int)), y4, y5, y6, y7, y8] ∧ Same H H' ∧ ∃ (xs : List V) (rs : List It), H' pl = some (.lst xs) ∧ Its K H' pl xs rs ∧ many ≤ 40 ∧ xs.length ≤ many * 1000 + 1 ∧ (∀ r ∈ rs, r.d.wide ≤ 1000) ∧ ansI own many rs = termB own d ∧ m = 41 - many, ⟨_, 0, _, _, _, _, _, rfl, s4, [V.ref p2], [⟨d, [false], 1⟩], e3, it0, by omega, by show 1 ≤ 0 * 1000 + 1; omega, fun r hr => by cases List.mem_singleton.mp hr; exact wd, ansI_start own d, rfl⟩, fun m σ H5 hw => ?_⟩
    clear e1 e2 e3 n1 n2 n3 s3a s4a s2 s3 it0 hv0
    obtain ⟨many, y4, y5, y6, y7, y8, rfl, sm, xs, rs, hp, it, m40, lx, ww, an, rfl⟩ := hw
    rcases List.eq_nil_or_concat rs with rfl | ⟨ini, r, rfl⟩
    · cases it
      refine ⟨_, rfl, false, .inl ⟨[], .inl (.inl hp), rfl⟩, iteF ?_⟩
      have q1 := q _ sm
      rw [← an] at q1
      have e : ansI own many [] = true := by
        show (true && decide (many + 0 ≤ 40)) = true
        rw [decide_eq_true (by omega)]
        rfl
      rw [e] at q1
      exact q1
    · rw [List.concat_eq_append] at *
      obtain ⟨us, ws, rfl, iu, iw⟩ := it.split
      cases iw with
      | @cons a pv kv _ _ _ sq hpv hkv r0 =>
      cases r0
      have bad : ∀ {H' : Hp}, ansI own many (ini ++ [r]) = false → Same H H' → Q (.bl false) H' := fun e s => by
        have q1 := q _ s
        rw [← an, e] at q1
        exact q1
      refine ⟨_, rfl, true, .inl ⟨_, .inl (.inl hp), by cases us <;> rfl⟩, iteT ?_⟩
      refine ⟨fun σ2 H2 => ∃ (y4 y5 y6 y7 y8 : Option V), σ2 = [some v, some pw, some (.ref pl), some (.int ((many + 1 : Nat) : Int)), y4, y5, y6, y7, y8] ∧ Same H H2 ∧ ∃ (xs : List V) (rs : List It), H2 pl = some (.lst xs) ∧ Its K H2 pl xs rs ∧ many + 1 ≤ 40 ∧ xs.length ≤ (many + 1) * 1000 + 1 ∧ (∀ r ∈ rs, r.d.wide ≤ 1000) ∧ ansI own (many + 1) rs = termB own d, fun σ2 H2 h => ?_, ?_⟩
      · obtain ⟨y4, y5, y6, y7, y8, rfl, sm2, xs2, rs2, hp2, it2, m2, l2, w2, a2⟩ := h
        exact ⟨41 - (many + 1), by omega, many + 1, y4, y5, y6, y7, y8, rfl, sm2, xs2, rs2, hp2, it2, m2, l2, w2, a2, rfl⟩
      · refine ⟨_, rfl, .inl ⟨rfl, _, .inl (.inl hp)⟩, pl, us ++ [.ref a], .ref a, rfl, rfl, hp, by simp, ?_⟩
        have ed : (us ++ [V.ref a]).dropLast = us := by simp
        rw [ed]
        have lu : us.length ≤ many * 1000 := by
          rw [List.length_append] at lx
          simp at lx
          omega
        have k6 : Kp pl H5 (upd H5 pl (.lst us)) := .set
        have t6 : TK H5 (upd H5 pl (.lst us)) := TK.set hp rfl
        have sm6 := Same.set (o := .lst us) sm npl
        have hp6 : upd H5 pl (.lst us) pl = some (.lst us) := upd_same
        have sq6 := t6.sqT sq
        have dp6 := hpv.kp k6 t6
        have dk6 := Dp.tk t6 (kindsD_noL r.k) hkv
        have iu6 := iu.kp k6 t6
        clear hp sq hpv hkv iu it lx k6 t6
        generalize upd H5 pl (.lst us) = H6 at sm6 hp6 sq6 dp6 dk6 iu6 ⊢
        refine ⟨a, _, rfl, sq6, rfl, _, _, rfl, _, _, rfl, _, _, rfl, rfl, ?_⟩
        refine ⟨_, rfl, _, _, rfl, rfl, ?_⟩
        refine ⟨_, rfl, _, _, rfl, rfl, _, rfl, ite2 (fun e => ?_) (fun e => ?_)⟩
        · have e : (40 : Int) < (many : Int) + 1 := of_decide_eq_true e
          exact bad (ansI_many (by omega)) sm6
        have e40 : ¬ (40 : Int) < (many : Int) + 1 := fun h => e (decide_eq_true h)
        refine ⟨_, rfl, _, _, rfl, rfl, _, rfl, ite2 (fun e => ?_) (fun e => ?_)⟩
        · have e : (6 : Int) < (r.n : Int) := of_decide_eq_true e
          exact bad (ansI_bad (okI_deep (by omega))) sm6
        have e6 : ¬ (6 : Int) < (r.n : Int) := fun h => e (decide_eq_true h)
        refine ⟨_, rfl, pl, pv, r.d, rfl, dp6, fun H7 s7 => ?_⟩
        obtain ⟨ak, rfl, sk⟩ := kinds_open (Dp.stay (.of s7) (kindsD_noL r.k) dk6)
        cases hk : kindO r.d with
        | none =>
          rw [kindV_none hk]
          refine ⟨_, rfl, ak, _, rfl, .inr sk, rfl, flat_strs _, _, rfl, ?_⟩
          rw [inV_non]
          exact iteT (bad (ansI_bad (okI_kind fun b h => by rw [hk] at h; cases h)) (sm6.trans s7))
        | some b =>
        rw [kindV_some hk]
        refine ⟨_, rfl, ak, _, rfl, .inr sk, rfl, flat_strs _, _, rfl, ?_⟩
        rw [inV_kd]
        by_cases hb : b ∈ r.k
        case neg =>
          rw [decide_eq_false hb]
          exact iteT (bad (ansI_bad (okI_kind fun c h => by rw [hk] at h; cases h; exact hb)) (sm6.trans s7))
        rw [decide_eq_true hb]
        refine iteF ?_
        obtain ⟨z, ds, ed2⟩ := kindO_inv hk
        have kz : kindZ (.str z) = some b := by
          rw [ed2] at hk
          exact hk
        have dp7 := dp6.same s7
        rw [ed2] at dp7
        obtain ⟨pa, ps0, rfl, sp7, rp7⟩ := dp7.tup_inv
        cases rp7 with
        | @cons _ _ ps _ hz rp7 =>
        obtain ⟨rfl, -⟩ := hz.str_inv
        have wr : r.d.wide ≤ 1000 := ww r (List.mem_append_right _ List.mem_cons_self)
        rw [ed2] at wr
        have wl : ds.length + 1 ≤ 1000 := Nat.le_trans (Nat.le_max_left (ds.length + 1) _) wr
        have wds : ∀ d ∈ ds, d.wide ≤ 1000 := fun d hd => by
          have h1 := widesD_mem (ds := .str z :: ds) (List.mem_cons_of_mem _ hd)
          have h2 := Nat.le_trans (Nat.le_max_right (ds.length + 1) (widesD (.str z :: ds))) wr
          omega
        refine ⟨_, rfl, _, rfl, pl, pa, pw, z, ds, own, rfl, dp7, Dp.stay (.of (sm6.trans s7)) (pars_noL own) dw, po, fun H8 s8 => ?_⟩
        by_cases hf : formB own z ds = true
        case neg =>
          have hf := Bool.not_eq_true _ |>.mp hf
          rw [hf]
          exact ⟨_, rfl, iteT (bad (ansI_bad (okI_form ed2 hf)) (sm6.trans (s7.trans s8)))⟩
        rw [hf]
        refine ⟨_, rfl, iteF ?_⟩
        refine ⟨_, rfl, pa, z, ps, rfl, Same.sqT s8 sp7, fun H9 b1 s9 sq9 => ?_⟩
        have lps : ps.length = ds.length := rp7.len
        refine ⟨_, rfl, pa, z, ps, rfl, Same.sqT (s8.trans s9) sp7, by omega, fun H10 b2 kv2 s10 sq10 r10 => ?_⟩
        have s67 := s7.trans (s8.trans (s9.trans s10))
        have lz : (partsL z ps).length = (partsL z ds).length := parts_len2 lps
        have lk : kv2.length = (partsL z ps).length := by
          rw [DpAll.len r10, List.length_map, lz, allowZ_len hf]
        have lpd : (partsL z ds).length ≤ ds.length := parts_len
        rw [lz] at r10
        have rp10 : AtAll K H10 pl (partsL z ps) (partsL z ds) := (rp7.same (s8.trans (s9.trans s10))).parts
        have nn : (newI z ds r.n).length = (partsL z ds).length := by
          unfold newI
          rw [List.length_map, List.length_zip, allowZ_len hf, Nat.min_self]
        have al10 : noLs ((allowZ z (partsL z ds).length).map kindsD) = true := by
          generalize allowZ z (partsL z ds).length = l
          induction l with
          | nil => rfl
          | cons x r ih =>
            show (noL (kindsD x) && noLs (r.map kindsD)) = true
            rw [kindsD_noL, ih]
            rfl
        refine ⟨b1, b2, _, kv2, rfl, .inr ⟨Same.sqT s10 sq9, sq10, ?_⟩⟩
        refine RZ.for_zipT (xs := partsL z ps) (ys := kv2) (by omega) (fun i σ2 H2 => ∃ (y7 y8 : Option V), σ2 = [some v, some pw, some (.ref pl), some (.int ((many + 1 : Nat) : Int)), some (.ref pa), some (.ref ak), some (.int (r.n : Int)), y7, y8] ∧ Same H H2 ∧ Kp pl H10 H2 ∧ TK H10 H2 ∧ ∃ (xs : List V), H2 pl = some (.lst xs) ∧ Its K H2 pl xs (ini ++ (newI z ds r.n).take i)) ?_ ?_ ?_ ?_
        · exact ⟨_, _, rfl, sm6.trans s67, .refl _ _, .of (.refl _), us, s67 _ _ hp6, by rw [List.take_zero, List.append_nil]; exact iu6.kp (.of s67) (.of s67)⟩
        · rintro i σ2 H2 ⟨_, _, _, _, kk, tt, _⟩
          exact ⟨tt.sqT (Same.sqT s10 sq9), tt.sqT sq10⟩
        · rintro i x y T σ2 H2 hx hy ⟨y7, y8, rfl, sm2, k2, t2, xs, hp2, it2⟩ nT
          obtain ⟨u, hu, du⟩ := (rp10.kp k2 t2).get hx
          obtain ⟨dd, hd, dy⟩ := DpAll.get (DpAll.tk t2 al10 r10) hy
          rw [List.getElem?_map] at hd
          obtain ⟨al, ha, rfl⟩ := Option.map_eq_some_iff.mp hd
          have sT := same_upd (o := .tup [x, y]) nT
          have eT : upd H2 T (.tup [x, y]) T = some (.tup [x, y]) := upd_same
          generalize upd H2 T (.tup [x, y]) = H3 at sT eT ⊢
          refine ⟨T, [x, y], rfl, .inl (.inl eT), rfl, _, _, rfl, _, _, rfl, rfl, ?_⟩
          refine ⟨_, rfl, .inl ⟨rfl, _, .inl (.inl (sT _ _ hp2))⟩, _, rfl, _, rfl, _, rfl, _, _, rfl, rfl, by show 3 ≤ sizeLine; decide, fun p3 n3 => ?_⟩
          have s3' := same_upd (o := .tup [x, y, .int ((r.n : Int) + 1)]) n3
          have e3' : upd H3 p3 (.tup [x, y, .int ((r.n : Int) + 1)]) p3 = some (.tup [x, y, .int ((r.n : Int) + 1)]) := upd_same
          have s4' := sT.trans s3'
          generalize upd H3 p3 (.tup [x, y, .int ((r.n : Int) + 1)]) = H4' at s3' e3' s4' ⊢
          have hp4 := s4' _ _ hp2
          refine ⟨pl, xs, .ref p3, rfl, rfl, hp4, ?_, ?_⟩
          · rw [it2.len, List.length_append, List.length_take, ← iu6.len]
            exact Nat.lt_of_le_of_lt (show _ ≤ 42000 by omega) (by decide)
          · have kA : Kp pl H2 (upd H4' pl (.lst (xs ++ [V.ref p3]))) := (Kp.of s4').trans .set
            have tA : TK H2 (upd H4' pl (.lst (xs ++ [V.ref p3]))) := (TK.of s4').trans (TK.set hp4 rfl)
            refine ⟨_, _, rfl, Same.set (sm2.trans s4') npl, k2.trans kA, t2.trans tA, xs ++ [.ref p3], upd_same, ?_⟩
            have hn : (newI z ds r.n)[i]? = some ⟨u, al, r.n + 1⟩ := by
              unfold newI
              have hz2 : ((partsL z ds).zip (allowZ z (partsL z ds).length))[i]? = some (u, al) := List.getElem?_zip_eq_some.mpr ⟨hu, ha⟩
              rw [List.getElem?_map, hz2]
              rfl
            rw [take_more hn, ← List.append_assoc]
            refine (it2.kp kA tA).app (.cons ?_ (du.kp kA tA) (Dp.tk tA (kindsD_noL al) dy) .nil)
            exact (TK.set hp4 rfl : TK H4' _).sqT (.inl (.inl e3'))
        · rintro σ2 H2 ⟨y7, y8, rfl, sm2, k2, t2, xs, hp2, it2⟩
          rw [lz, ← nn, List.take_length] at it2
          refine ⟨_, _, _, _, _, rfl, sm2, xs, _, hp2, it2, by omega, ?_, fun r2 hr => ?_, ?_⟩
          · rw [it2.len, List.length_append, ← iu6.len]
            omega
          · rcases List.mem_append.mp hr with h | h
            · exact ww r2 (List.mem_append_left _ h)
            · exact wds _ (newI_wide h)
          · rw [← an]
            exact (ansI_step (by omega) ed2 kz hb hf).symm
end
end FS

set_option Elab.async false
set_option linter.all false
set_option maxRecDepth 100000
set_option maxHeartbeats 4000000
namespace FS
open PySem PySem.Spec PyProof.Rows L2
section
variable {P : Program} {w : World} {K : PySem.W.Frag} {mg : Str → Option Value} {base : Heap}
abbrev NRis_term : List Str := ["value", "parameters", "pending", "many", "part", "kinds", "depth", "inner", "allowed"]
theorem scRis_term : FnScope NRis_term ["value", "parameters"] (defScope sis_term) := ⟨rfl, rfl, rfl, by decide +kernel, rfl, by decide +kernel, by decide +kernel⟩
theorem okR_is_term {f : Addr} {fd : FuncData} (F : Fun K "is_term" "is_term" sis_term f fd) (T : Nm K mg) {CI : Addr} (B : Bad K mg CI) (Care_parameters : Cal P w K mg base 4 "are_parameters" ["value"] (spParsA K)) (Ckind_of : Cal P w K mg base 2 "kind_of" ["value"] (spKindA K)) (Chas_form : Cal P w K mg base 4 "has_form" ["part", "parameters"] (spFormA K)) (Cparts_in : Cal P w K mg base 1 "parts_in" ["part"] (spPartsA K)) (Ckinds_in : Cal P w K mg base 3 "kinds_in" ["part"] (spKindsA K)) : FnOk P w K mg base (L2.CX P w) 6 f fd ["value", "parameters"] (spTermA K CI) := by
  have nd := scRis_term.nd
  refine F.okX scRis_term (fun vs H Q E h => ?_) (fun cdv A outer s H vs Q E hr h => ?_)
  · obtain ⟨D, v, pw, d, e, rfl, hv, wd, we, qe, q⟩ := h
    rfl
  · obtain ⟨D, v, pw, d, e, rfl, hv, wd, we, qe, q⟩ := h
    obtain ⟨t40, g40⟩ := T.g_MAX_TERMS
    obtain ⟨t6, g6⟩ := T.g_MAX_DEPTH
    refine ⟨_, (pss_cons (ps_if (pt_not (pt_val (pe_own Care_parameters (hr.mono (by decide)) (by rfl) (pa_cons (pv 1) pa_nil))))
  (pss_one (ps_raise rfl (takes_of rfl rfl rfl rfl) (pmk_own PySem.F.excBase_ValueError B.xI B.gI B.kI (raises_own B.bI B.tI) rfl)))
  pss_nil)
  (PSs.nox (pss_cons (ps_set (i := 2) nd rfl (Or.inl rfl) (pe_lst (pa_cons (pe_tup (pa_cons (pv 0) (pa_cons (pe_tup (pa_cons pe_str pa_nil)) (pa_cons pe_int pa_nil)))) pa_nil)))
  (pss_cons (ps_set (i := 3) nd rfl (Or.inl rfl) pe_int)
  (pss_cons (ps_while PassesOwn.never (pt_truth (pv 2) (fun _ => rfl))
  (pss_cons (ps_asg (pe_bm0 PySem.F.plainAttrs_list PySem.F.slot_list_pop PySem.F.type_list_pop mt_pop (pv 2)) (pg_tup rfl (pgs_cons (pg_name (i := 4) nd rfl (Or.inl rfl)) (pgs_cons (pg_name (i := 5) nd rfl (Or.inl rfl)) (pgs_cons (pg_name (i := 6) nd rfl (Or.inl rfl)) pgs_nil)))))
  (pss_cons (ps_aug (i := 3) nd rfl (.inl rfl) pe_int ip_add)
  (pss_cons (ps_if (PW.pt (pw_or (pt_cmpR op_gt (pv 3) (pe_glob (v := .int 40) (by rfl) g40 ⟨_, rfl⟩) (nomark _)) (pw_or1 (pt_cmpR op_gt (pv 6) (pe_glob (v := .int 6) (by rfl) g6 ⟨_, rfl⟩) (nomark _)))))
  (pss_one (ps_ret pe_bl))
  pss_nil)
  (pss_cons (ps_if (PW.pt (pw_or (pt_cmpR op_notIn_seq (pe_own Ckind_of (hr.mono (by decide)) (by rfl) (pa_cons (pv 4) pa_nil)) (pv 5) (by rfl)) (pw_or1 (pt_not (pt_val (pe_own Chas_form (hr.mono (by decide)) (by rfl) (pa_cons (pv 4) (pa_cons (pv 1) pa_nil))))))))
  (pss_one (ps_ret pe_bl))
  pss_nil)
  (pss_one (ps_for PassesOwn.never rfl (RZ.pi_zipA (by rfl) T.b_zip (pa_cons (pe_own Cparts_in (hr.mono (by decide)) (by rfl) (pa_cons (pv 4) pa_nil)) (pa_cons (pe_own Ckinds_in (hr.mono (by decide)) (by rfl) (pa_cons (pv 4) pa_nil)) pa_nil))) (pg_tup rfl (pgs_cons (pg_name (i := 7) nd rfl (Or.inl rfl)) (pgs_cons (pg_name (i := 8) nd rfl (Or.inl rfl)) pgs_nil)))
  (pss_one (ps_expr (pe_bm PySem.F.plainAttrs_list PySem.F.slot_list_append PySem.F.type_list_append mt_append (pv 2) (pa_cons (pe_tup (pa_cons (pv 7) (pa_cons (pv 8) (pa_cons (pe_op op_add (pv 6) pe_int) pa_nil)))) pa_nil)))))))))))
  (pss_one (ps_ret pe_bl))))))), ?_⟩

    refine ⟨_, rfl, D, pw, e, rfl, we, fun H1 s1 => ?_⟩
    by_cases pe : parsB e = true
    case neg =>
      have pe := Bool.not_eq_true _ |>.mp pe
      rw [pe]
      exact ⟨_, rfl, iteT (qe pe _ s1)⟩
    obtain ⟨own, dw, po⟩ := pars_of we pe
    have q := q pe own dw po
    rw [pe]
    refine ⟨_, rfl, iteF ?_⟩
    refine ⟨_, rfl, by show 1 ≤ sizeLine; decide, fun p1 n1 => ?_⟩
    have s2 := s1.trans (same_upd (o := .tup [V.str "block"]) n1)
    have e1 : upd H1 p1 (.tup [V.str "block"]) p1 = some (.tup [V.str "block"]) := upd_same
    generalize upd H1 p1 (.tup [V.str "block"]) = H2 at s2 e1 ⊢
    refine ⟨by show 3 ≤ sizeLine; decide, fun p2 n2 => ?_⟩
    have s3a := same_upd (o := .tup [v, V.ref p1, V.int 1]) n2
    have e2 : upd H2 p2 (.tup [v, V.ref p1, V.int 1]) p2 = some (.tup [v, V.ref p1, V.int 1]) := upd_same
    generalize upd H2 p2 (.tup [v, V.ref p1, V.int 1]) = H3 at s3a e2 ⊢
    refine ⟨by show 1 ≤ sizeLine; decide, fun pl n3 => ?_⟩
    have s4a := same_upd (o := .lst [V.ref p2]) n3
    have e3 : upd H3 pl (.lst [V.ref p2]) pl = some (.lst [V.ref p2]) := upd_same
    have s3 := s2.trans s3a
    have npl : H pl = none := Same.free s3 n3
    generalize upd H3 pl (.lst [V.ref p2]) = H4 at s4a e3 ⊢
    have s4 := s3.trans s4a
    have hv0 := (At.fresh npl hv).same s4
    have it0 : Its K H4 pl [.ref p2] [⟨d, [false], 1⟩] := .cons (.inl (.inl (s4a _ _ e2))) hv0 (.tup (.inl (.inl (s4a _ _ (s3a _ _ e1)))) (.cons (.str _) .nil)) .nil
    refine ⟨fun m σ H' => ∃ (many : Nat) (y4 y5 y6 y7 y8 : Option V), σ = [some v, some pw, some (.ref pl), some (.int (many : Int)), y4, y5, y6, y7, y8] ∧ Same H H' ∧ ∃ (xs : List V) (rs : List It), H' pl = some (.lst xs) ∧ Its K H' pl xs rs ∧ many ≤ 40 ∧ xs.length ≤ many * 1000 + 1 ∧ (∀ r ∈ rs, r.d.wide ≤ 1000) ∧ ansI own many rs = termB own d ∧ m = 41 - many, ⟨_, 0, _, _, _, _, _, rfl, s4, [V.ref p2], [⟨d, [false], 1⟩], e3, it0, by omega, by show 1 ≤ 0 * 1000 + 1; omega, fun r hr => by cases List.mem_singleton.mp hr; exact wd, ansI_start own d, rfl⟩, fun m σ H5 hw => ?_⟩
    clear e1 e2 e3 n1 n2 n3 s3a s4a s2 s3 it0 hv0
    obtain ⟨many, y4, y5, y6, y7, y8, rfl, sm, xs, rs, hp, it, m40, lx, ww, an, rfl⟩ := hw
    rcases List.eq_nil_or_concat rs with rfl | ⟨ini, r, rfl⟩
    · cases it
      refine ⟨_, rfl, false, .inl ⟨[], .inl (.inl hp), rfl⟩, iteF ?_⟩
      have q1 := q _ sm
      rw [← an] at q1
      have e : ansI own many [] = true := by
        show (true && decide (many + 0 ≤ 40)) = true
        rw [decide_eq_true (by omega)]
        rfl
      rw [e] at q1
      exact q1
    · rw [List.concat_eq_append] at *
      obtain ⟨us, ws, rfl, iu, iw⟩ := it.split
      cases iw with
      | @cons a pv kv _ _ _ sq hpv hkv r0 =>
      cases r0
      have bad : ∀ {H' : Hp}, ansI own many (ini ++ [r]) = false → Same H H' → Q (.bl false) H' := fun e s => by
        have q1 := q _ s
        rw [← an, e] at q1
        exact q1
      refine ⟨_, rfl, true, .inl ⟨_, .inl (.inl hp), by cases us <;> rfl⟩, iteT ?_⟩
      refine ⟨fun σ2 H2 => ∃ (y4 y5 y6 y7 y8 : Option V), σ2 = [some v, some pw, some (.ref pl), some (.int ((many + 1 : Nat) : Int)), y4, y5, y6, y7, y8] ∧ Same H H2 ∧ ∃ (xs : List V) (rs : List It), H2 pl = some (.lst xs) ∧ Its K H2 pl xs rs ∧ many + 1 ≤ 40 ∧ xs.length ≤ (many + 1) * 1000 + 1 ∧ (∀ r ∈ rs, r.d.wide ≤ 1000) ∧ ansI own (many + 1) rs = termB own d, fun σ2 H2 h => ?_, ?_⟩
      · obtain ⟨y4, y5, y6, y7, y8, rfl, sm2, xs2, rs2, hp2, it2, m2, l2, w2, a2⟩ := h
        exact ⟨41 - (many + 1), by omega, many + 1, y4, y5, y6, y7, y8, rfl, sm2, xs2, rs2, hp2, it2, m2, l2, w2, a2, rfl⟩
      · refine ⟨_, rfl, .inl ⟨rfl, _, .inl (.inl hp)⟩, pl, us ++ [.ref a], .ref a, rfl, rfl, hp, by simp, ?_⟩
        have ed : (us ++ [V.ref a]).dropLast = us := by simp
        rw [ed]
        have lu : us.length ≤ many * 1000 := by
          rw [List.length_append] at lx
          simp at lx
          omega
        have k6 : Kp pl H5 (upd H5 pl (.lst us)) := .set
        have t6 : TK H5 (upd H5 pl (.lst us)) := TK.set hp rfl
        have sm6 := Same.set (o := .lst us) sm npl
        have hp6 : upd H5 pl (.lst us) pl = some (.lst us) := upd_same
        have sq6 := t6.sqT sq
        have dp6 := hpv.kp k6 t6
        have dk6 := Dp.tk t6 (kindsD_noL r.k) hkv
        have iu6 := iu.kp k6 t6
        clear hp sq hpv hkv iu it lx k6 t6
        generalize upd H5 pl (.lst us) = H6 at sm6 hp6 sq6 dp6 dk6 iu6 ⊢
        refine ⟨a, _, rfl, sq6, rfl, _, _, rfl, _, _, rfl, _, _, rfl, rfl, ?_⟩
        refine ⟨_, rfl, _, _, rfl, rfl, ?_⟩
        refine ⟨_, rfl, _, _, rfl, rfl, _, rfl, ite2 (fun e => ?_) (fun e => ?_)⟩
        · have e : (40 : Int) < (many : Int) + 1 := of_decide_eq_true e
          exact bad (ansI_many (by omega)) sm6
        have e40 : ¬ (40 : Int) < (many : Int) + 1 := fun h => e (decide_eq_true h)
        refine ⟨_, rfl, _, _, rfl, rfl, _, rfl, ite2 (fun e => ?_) (fun e => ?_)⟩
        · have e : (6 : Int) < (r.n : Int) := of_decide_eq_true e
          exact bad (ansI_bad (okI_deep (by omega))) sm6
        have e6 : ¬ (6 : Int) < (r.n : Int) := fun h => e (decide_eq_true h)
        refine ⟨_, rfl, pl, pv, r.d, rfl, dp6, fun H7 s7 => ?_⟩
        obtain ⟨ak, rfl, sk⟩ := kinds_open (Dp.stay (.of s7) (kindsD_noL r.k) dk6)
        cases hk : kindO r.d with
        | none =>
          rw [kindV_none hk]
          refine ⟨_, rfl, ak, _, rfl, .inr sk, rfl, flat_strs _, _, rfl, ?_⟩
          rw [inV_non]
          exact iteT (bad (ansI_bad (okI_kind fun b h => by rw [hk] at h; cases h)) (sm6.trans s7))
        | some b =>
        rw [kindV_some hk]
        refine ⟨_, rfl, ak, _, rfl, .inr sk, rfl, flat_strs _, _, rfl, ?_⟩
        rw [inV_kd]
        by_cases hb : b ∈ r.k
        case neg =>
          rw [decide_eq_false hb]
          exact iteT (bad (ansI_bad (okI_kind fun c h => by rw [hk] at h; cases h; exact hb)) (sm6.trans s7))
        rw [decide_eq_true hb]
        refine iteF ?_
        obtain ⟨z, ds, ed2⟩ := kindO_inv hk
        have kz : kindZ (.str z) = some b := by
          rw [ed2] at hk
          exact hk
        have dp7 := dp6.same s7
        rw [ed2] at dp7
        obtain ⟨pa, ps0, rfl, sp7, rp7⟩ := dp7.tup_inv
        cases rp7 with
        | @cons _ _ ps _ hz rp7 =>
        obtain ⟨rfl, -⟩ := hz.str_inv
        have wr : r.d.wide ≤ 1000 := ww r (List.mem_append_right _ List.mem_cons_self)
        rw [ed2] at wr
        have wl : ds.length + 1 ≤ 1000 := Nat.le_trans (Nat.le_max_left (ds.length + 1) _) wr
        have wds : ∀ d ∈ ds, d.wide ≤ 1000 := fun d hd => by
          have h1 := widesD_mem (ds := .str z :: ds) (List.mem_cons_of_mem _ hd)
          have h2 := Nat.le_trans (Nat.le_max_right (ds.length + 1) (widesD (.str z :: ds))) wr
          omega
        refine ⟨_, rfl, _, rfl, pl, pa, pw, z, ds, own, rfl, dp7, Dp.stay (.of (sm6.trans s7)) (pars_noL own) dw, po, fun H8 s8 => ?_⟩
        by_cases hf : formB own z ds = true
        case neg =>
          have hf := Bool.not_eq_true _ |>.mp hf
          rw [hf]
          exact ⟨_, rfl, iteT (bad (ansI_bad (okI_form ed2 hf)) (sm6.trans (s7.trans s8)))⟩
        rw [hf]
        refine ⟨_, rfl, iteF ?_⟩
        refine ⟨_, rfl, pa, z, ps, rfl, Same.sqT s8 sp7, fun H9 b1 s9 sq9 => ?_⟩
        have lps : ps.length = ds.length := rp7.len
        refine ⟨_, rfl, pa, z, ps, rfl, Same.sqT (s8.trans s9) sp7, by omega, fun H10 b2 kv2 s10 sq10 r10 => ?_⟩
        have s67 := s7.trans (s8.trans (s9.trans s10))
        have lz : (partsL z ps).length = (partsL z ds).length := parts_len2 lps
        have lk : kv2.length = (partsL z ps).length := by
          rw [DpAll.len r10, List.length_map, lz, allowZ_len hf]
        have lpd : (partsL z ds).length ≤ ds.length := parts_len
        rw [lz] at r10
        have rp10 : AtAll K H10 pl (partsL z ps) (partsL z ds) := (rp7.same (s8.trans (s9.trans s10))).parts
        have nn : (newI z ds r.n).length = (partsL z ds).length := by
          unfold newI
          rw [List.length_map, List.length_zip, allowZ_len hf, Nat.min_self]
        have al10 : noLs ((allowZ z (partsL z ds).length).map kindsD) = true := by
          generalize allowZ z (partsL z ds).length = l
          induction l with
          | nil => rfl
          | cons x r ih =>
            show (noL (kindsD x) && noLs (r.map kindsD)) = true
            rw [kindsD_noL, ih]
            rfl
        refine ⟨b1, b2, _, kv2, rfl, .inr ⟨Same.sqT s10 sq9, sq10, ?_⟩⟩
        refine RZ.for_zipT (xs := partsL z ps) (ys := kv2) (by omega) (fun i σ2 H2 => ∃ (y7 y8 : Option V), σ2 = [some v, some pw, some (.ref pl), some (.int ((many + 1 : Nat) : Int)), some (.ref pa), some (.ref ak), some (.int (r.n : Int)), y7, y8] ∧ Same H H2 ∧ Kp pl H10 H2 ∧ TK H10 H2 ∧ ∃ (xs : List V), H2 pl = some (.lst xs) ∧ Its K H2 pl xs (ini ++ (newI z ds r.n).take i)) ?_ ?_ ?_ ?_
        · exact ⟨_, _, rfl, sm6.trans s67, .refl _ _, .of (.refl _), us, s67 _ _ hp6, by rw [List.take_zero, List.append_nil]; exact iu6.kp (.of s67) (.of s67)⟩
        · rintro i σ2 H2 ⟨_, _, _, _, kk, tt, _⟩
          exact ⟨tt.sqT (Same.sqT s10 sq9), tt.sqT sq10⟩
        · rintro i x y T σ2 H2 hx hy ⟨y7, y8, rfl, sm2, k2, t2, xs, hp2, it2⟩ nT
          obtain ⟨u, hu, du⟩ := (rp10.kp k2 t2).get hx
          obtain ⟨dd, hd, dy⟩ := DpAll.get (DpAll.tk t2 al10 r10) hy
          rw [List.getElem?_map] at hd
          obtain ⟨al, ha, rfl⟩ := Option.map_eq_some_iff.mp hd
          have sT := same_upd (o := .tup [x, y]) nT
          have eT : upd H2 T (.tup [x, y]) T = some (.tup [x, y]) := upd_same
          generalize upd H2 T (.tup [x, y]) = H3 at sT eT ⊢
          refine ⟨T, [x, y], rfl, .inl (.inl eT), rfl, _, _, rfl, _, _, rfl, rfl, ?_⟩
          refine ⟨_, rfl, .inl ⟨rfl, _, .inl (.inl (sT _ _ hp2))⟩, _, rfl, _, rfl, _, rfl, _, _, rfl, rfl, by show 3 ≤ sizeLine; decide, fun p3 n3 => ?_⟩
          have s3' := same_upd (o := .tup [x, y, .int ((r.n : Int) + 1)]) n3
          have e3' : upd H3 p3 (.tup [x, y, .int ((r.n : Int) + 1)]) p3 = some (.tup [x, y, .int ((r.n : Int) + 1)]) := upd_same
          have s4' := sT.trans s3'
          generalize upd H3 p3 (.tup [x, y, .int ((r.n : Int) + 1)]) = H4' at s3' e3' s4' ⊢
          have hp4 := s4' _ _ hp2
          refine ⟨pl, xs, .ref p3, rfl, rfl, hp4, ?_, ?_⟩
          · rw [it2.len, List.length_append, List.length_take, ← iu6.len]
            exact Nat.lt_of_le_of_lt (show _ ≤ 42000 by omega) (by decide)
          · have kA : Kp pl H2 (upd H4' pl (.lst (xs ++ [V.ref p3]))) := (Kp.of s4').trans .set
            have tA : TK H2 (upd H4' pl (.lst (xs ++ [V.ref p3]))) := (TK.of s4').trans (TK.set hp4 rfl)
            refine ⟨_, _, rfl, Same.set (sm2.trans s4') npl, k2.trans kA, t2.trans tA, xs ++ [.ref p3], upd_same, ?_⟩
            have hn : (newI z ds r.n)[i]? = some ⟨u, al, r.n + 1⟩ := by
              unfold newI
              have hz2 : ((partsL z ds).zip (allowZ z (partsL z ds).length))[i]? = some (u, al) := List.getElem?_zip_eq_some.mpr ⟨hu, ha⟩
              rw [List.getElem?_map, hz2]
              rfl
            rw [take_more hn, ← List.append_assoc]
            refine (it2.kp kA tA).app (.cons ?_ (du.kp kA tA) (Dp.tk tA (kindsD_noL al) dy) .nil)
            exact (TK.set hp4 rfl : TK H4' _).sqT (.inl (.inl e3'))
        · rintro σ2 H2 ⟨y7, y8, rfl, sm2, k2, t2, xs, hp2, it2⟩
          rw [lz, ← nn, List.take_length] at it2
          refine ⟨_, _, _, _, _, rfl, sm2, xs, _, hp2, it2, by omega, ?_, fun r2 hr => ?_, ?_⟩
          · rw [it2.len, List.length_append, ← iu6.len]
            omega
          · rcases List.mem_append.mp hr with h | h
            · exact ww r2 (List.mem_append_left _ h)
            · exact wds _ (newI_wide h)
          · rw [← an]
            exact (ansI_step (by omega) ed2 kz hb hf).symm
end
end FS

set_option Elab.async false
set_option linter.all false
set_option maxRecDepth 100000
set_option maxHeartbeats 4000000
namespace FS
open PySem PySem.Spec PyProof.Rows L2
section
variable {P : Program} {w : World} {K : PySem.W.Frag} {mg : Str → Option Value} {base : Heap}
abbrev N_law_near : List Str := ["_law_die", "_law_body", "_law_value", "_law_way", "_law_turn"]
theorem sc_law_near : FnScope N_law_near ["_law_die", "_law_body"] (defScope s_law_near) := ⟨rfl, rfl, rfl, by decide +kernel, rfl, by decide +kernel, by decide +kernel⟩
theorem ok_l_near {f : Addr} {fd : FuncData} (F : Fun K "_law_near" "_law_near" s_law_near f fd) (T : Nm K mg) (Cl_cast : Cal P w K mg base 1 "_law_cast" ["_law_die", "_law_total"] spCast) (Cl_pick : Cal P w K mg base 2 "_law_pick" ["_law_die", "_law_items"] (spPick K)) (Cl_odd_one : Cal P w K mg base 3 "_law_odd_one" ["_law_die"] (spOddA K)) (Cl_bend : Cal P w K mg base 14 "_law_bend" ["_law_die", "_law_piece", "_law_odd"] (spBend K 9)) : FnOk P w K mg base CX0 20 f fd ["_law_die", "_law_body"] (spNearA K) := by
  have nd := sc_law_near.nd
  refine F.ok sc_law_near (fun vs H Q E h => ?_) (fun cdv A outer s H vs Q E hr h => ?_)
  · obtain ⟨D, a, ds, rfl, die, hd, bd, q⟩ := h
    rfl
  · obtain ⟨D, a, ds, rfl, die, hd, bd, q⟩ := h
    skip
    refine ⟨_, (pss_cons (ps_par (i := 2) (j := 3) (by rfl) nd rfl rfl (by decide) rfl rfl (pa_cons (pv 1) (pa_cons (pe_own Cl_cast (hr.mono (by decide)) (by rfl) (pa_cons (pv 0) (pa_cons pe_int pa_nil))) pa_nil)) (by rfl))
  (pss_cons (ps_if (pt_cmpR op_eq (pv 3) pe_int (nomark _))
  (pss_cons (ps_for PassesOwn.never rfl (pi_range1 rfl T.b_range (pa_cons (pe_op op_add pe_int (pe_own Cl_cast (hr.mono (by decide)) (by rfl) (pa_cons (pv 0) (pa_cons pe_int pa_nil)))) pa_nil)) (pg_name (i := 4) nd rfl (Or.inl rfl))
  (pss_one (ps_set (i := 2) nd rfl (Or.inl rfl) (pe_tup (pa_cons (pe_own Cl_pick (hr.mono (by decide)) (by rfl) (pa_cons (pv 0) (pa_cons (pe_lst (pa_cons pe_str (pa_cons pe_str pa_nil))) pa_nil))) (pa_cons (pv 2) pa_nil))))))
  (pss_one (ps_ret (pv 2))))
  pss_nil)
  (pss_cons (ps_if (pt_cmpR op_eq (pv 3) pe_int (nomark _))
  (pss_one (ps_ret (pe_op op_catA (pe_tup (pa_cons pe_str pa_nil)) (pe_op op_repA (pe_tup (pa_cons (pv 1) pa_nil)) (pe_own Cl_pick (hr.mono (by decide)) (by rfl) (pa_cons (pv 0) (pa_cons (pe_lst (pa_cons pe_int (pa_cons pe_int (pa_cons pe_int (pa_cons pe_int (pa_cons pe_int pa_nil)))))) pa_nil)))))))
  pss_nil)
  (pss_cons (ps_for PassesOwn.never rfl (pi_range1 rfl T.b_range (pa_cons (pe_op op_add pe_int (pe_own Cl_cast (hr.mono (by decide)) (by rfl) (pa_cons (pv 0) (pa_cons pe_int pa_nil)))) pa_nil)) (pg_name (i := 4) nd rfl (Or.inl rfl))
  (pss_one (ps_set (i := 2) nd rfl (Or.inl rfl) (pe_ifExp (PW.pt (pw_and (pt_val (pe_callB call_isi (by rfl) T.b_isinstance (by decide +kernel) (pa_cons (pv 2) (pa_cons (pe_bltn (v := .ty "tuple") (by rfl) T.b_tuple (by decide +kernel) rfl) pa_nil)))) (pw_and1 (pt_cmpR (op_ne0 rfl hr) (pv 2) (pe_tup pa_nil) (nomark _))))) (pe_own Cl_bend (hr.mono (by decide)) (by rfl) (pa_cons (pv 0) (pa_cons (pv 2) (pa_cons (pe_own Cl_odd_one (hr.mono (by decide)) (by rfl) (pa_cons (pv 0) pa_nil)) pa_nil)))) (pv 2)))))
  (pss_one (ps_ret (pv 2))))))), ?_⟩

    refine ⟨_, rfl, _, rfl, D, 5, rfl, die, by omega, by omega, fun r0 H1 _ _ g1 _ => ?_⟩
    refine ⟨_, _, rfl, ?_⟩
    obtain ⟨b1, b2, b3⟩ := bd
    have sok : ∀ wd ∈ (["seq", "or"] : List Str), wd.length ≤ 1000 ∧ PyData.strOk wd = true := fun wd hw => by
      have h := (show ((["seq", "or"] : List Str).all fun z => decide (z.length ≤ 1000) && PyData.strOk z) = true by decide +kernel)
      obtain ⟨h1, h2⟩ := Bool.and_eq_true_iff.mp (List.all_eq_true.mp h wd hw)
      exact ⟨of_decide_eq_true h1, h2⟩
    refine seq_gen (P := fun σ' H' => σ' = [some (.ref D), some (.ref a), some (.ref a), some (.int r0), none] ∧ H' = H1) (fun N hN => hN _ _ ⟨rfl, rfl⟩) ?_
    rintro σ0 H1 ⟨rfl, rfl⟩
    refine seq_gen (P := fun σ' H' => σ' = [some (.ref D), some (.ref a), some (.ref a), some (.int r0), none] ∧ Go D H H') (fun N hN => ?_) ?_
    · refine ⟨_, rfl, rfl, _, rfl, ite2 (fun _ => ?_) (fun _ => hN _ _ ⟨rfl, g1⟩)⟩
      refine ⟨_, rfl, D, 6, rfl, g1.2, by omega, by omega, fun r1 H2 r10 r11 g2 _ => ?_⟩
      have g2 := g1.trans g2
      refine ⟨_, _, rfl, rfl, _, rfl, by omega, by omega, ?_⟩
      refine for_range (lo := 0) (n := ((1 : Int) + r1).toNat) (fun i σ' H' => (∃ v y d', σ' = [some (.ref D), some (.ref a), some v, some (.int r0), y] ∧ At K H' D v d' ∧ d'.wide ≤ 200 ∧ d'.size ≤ 900 + 2 * i) ∧ Go D H H') ⟨⟨_, _, _, rfl, hd.go die g2, by omega, by omega⟩, g2⟩ (fun i σ H3 hi hp => ?_) (fun σ H3 hp => ?_)
      · obtain ⟨⟨v, y, d', rfl, hv', w', z'⟩, g3⟩ := hp
        refine ⟨_, rfl, by show 2 ≤ sizeLine; decide, fun p1 n1 => ?_⟩
        have g4 := g3.same (same_upd (o := .lst ((["seq", "or"] : List Str).map V.str)) n1)
        have e1 : upd H3 p1 (.lst ((["seq", "or"] : List Str).map V.str)) p1 = some (.lst ((["seq", "or"] : List Str).map V.str)) := upd_same
        have s4 := same_upd (o := .lst ((["seq", "or"] : List Str).map V.str)) n1
        refine ⟨D, p1, (["seq", "or"] : List Str).map V.str, g4.2, rfl, .inl (.inl e1), g3.2.ne n1, List.cons_ne_nil _ _, by decide, fun wv HB hv gB _ => ?_⟩
        obtain ⟨wd, hw, rfl⟩ := List.mem_map.mp hv
        have hv2 := (hv'.same s4).go g4.2 gB
        have g5 := g4.trans gB
        refine ⟨_, rfl, by show 2 ≤ sizeLine; decide, fun p2 n2 => ?_⟩
        have s2 := same_upd (o := .tup [V.str wd, v]) n2
        refine ⟨⟨_, _, .tup [.str wd, d'], rfl, .tup (.inl (.inl upd_same)) (.cons (.str _ (sok wd hw)) (.cons (hv2.same s2) .nil)), ?_, ?_⟩, g5.same s2⟩
        · show max 2 (max 0 (max d'.wide 0)) ≤ 200
          omega
        · show (1 + (d'.size + 0)) + 1 ≤ 900 + 2 * (i + 1)
          omega
      · obtain ⟨⟨v, y, d', rfl, hv', w', z'⟩, g3⟩ := hp
        exact ⟨_, rfl, q _ _ _ g3 hv' w' (by omega)⟩
    rintro σ1 H3 ⟨rfl, g3⟩
    refine seq_gen (P := fun σ' H' => σ' = [some (.ref D), some (.ref a), some (.ref a), some (.int r0), none] ∧ Go D H H') (fun N hN => ?_) ?_
    · refine ⟨_, rfl, rfl, _, rfl, ite2 (fun _ => ?_) (fun _ => hN _ _ ⟨rfl, g3⟩)⟩
      refine ⟨by show 1 ≤ sizeLine; decide, fun p1 n1 => ?_⟩
      have s1 := same_upd (o := .tup [V.str "seq"]) n1
      have e1 : upd H3 p1 (.tup [V.str "seq"]) p1 = some (.tup [V.str "seq"]) := upd_same
      generalize upd H3 p1 (.tup [V.str "seq"]) = H4 at s1 e1 ⊢
      refine ⟨_, rfl, by show 1 ≤ sizeLine; decide, fun p2 n2 => ?_⟩
      have s2 := same_upd (o := .tup [V.ref a]) n2
      have e2 : upd H4 p2 (.tup [V.ref a]) p2 = some (.tup [V.ref a]) := upd_same
      generalize upd H4 p2 (.tup [V.ref a]) = H5 at s2 e2 ⊢
      have g5 := (g3.same s1).same s2
      refine ⟨_, rfl, by show 5 ≤ sizeLine; decide, fun p3 n3 => ?_⟩
      have s3 := same_upd (o := .lst (([2, 5, 9, 20, 40] : List Nat).map fun n : Nat => V.int (n : Int))) n3
      have e3 : upd H5 p3 (.lst (([2, 5, 9, 20, 40] : List Nat).map fun n : Nat => V.int (n : Int))) p3 = some (.lst (([2, 5, 9, 20, 40] : List Nat).map fun n : Nat => V.int (n : Int))) := upd_same
      have g6 := g5.same s3
      refine ⟨D, p3, ([2, 5, 9, 20, 40] : List Nat).map fun n : Nat => V.int (n : Int), g6.2, rfl, .inl (.inl e3), g5.2.ne n3, List.cons_ne_nil _ _, by decide, fun wv HB hv gB _ => ?_⟩
      obtain ⟨k, hk, rfl⟩ := List.mem_map.mp hv
      have k40 : k ≤ 40 := by
        have := List.all_eq_true.mp (show ([2, 5, 9, 20, 40] : List Nat).all (fun n => decide (n ≤ 40)) = true by decide) k hk
        exact of_decide_eq_true this
      have g7 := g6.trans gB
      have tkB := gB.tk g6.2
      refine ⟨p2, k, [V.ref a], rfl, rfl, tkB.sqT (Same.sqT s3 (.inl (.inl e2))), List.cons_ne_nil _ _, by omega, (show 1 ≤ 1000 by decide), fun p4 H6 s6 sq6 => ?_⟩
      rw [rep_flat] at sq6
      have sq1 : SqT K H6 p1 [V.str "seq"] := Same.sqT s6 (tkB.sqT (.inl (.inl ((s2.trans s3) _ _ e1))))
      refine cat_anyA sq1 sq6 (by rw [List.length_replicate]; exact Nat.le_trans (show 1 + k ≤ 100 by omega) (by decide)) fun H7 p7 s7 sq7 => ?_
      have g8 := (g7.same s6).same s7
      obtain ⟨m1, m2⟩ := rep_meas (Dat.tup ds) k
      refine q H7 _ (.tup (.str "seq" :: List.replicate k (Dat.tup ds))) g8 (.tup sq7 (.cons (.str _ (sok "seq" (by decide +kernel))) (AtAll.rep (hd.go die g8) k))) ?_ ?_
      · show max ((List.replicate k (Dat.tup ds)).length + 1) (max 0 (widesD _)) ≤ 200
        rw [List.length_replicate]
        omega
      · show (1 + sizesD (List.replicate k (Dat.tup ds))) + 1 ≤ 40000
        have := Nat.mul_le_mul k40 b3
        omega
    rintro σ1 H4 ⟨rfl, g4⟩
    refine ⟨_, rfl, D, 2, rfl, g4.2, by omega, by omega, fun r1 H2 r10 r11 g2 _ => ?_⟩
    have g2 := g4.trans g2
    refine ⟨_, _, rfl, rfl, _, rfl, by omega, by omega, ?_⟩
    refine for_range (lo := 0) (n := ((1 : Int) + r1).toNat) (fun i σ' H' => (∃ v y d', σ' = [some (.ref D), some (.ref a), some v, some (.int r0), y] ∧ At K H' D v d' ∧ d'.deep ≤ 6 + i ∧ d'.wide ≤ 130 + 3 * i ∧ d'.size + 6 ≤ 906 * 2 ^ i) ∧ Go D H H') ⟨⟨_, _, _, rfl, hd.go die g2, by omega, by omega, by omega⟩, g2⟩ (fun i σ H3 hi hp => ?_) (fun σ H3 hp => ?_)
    · obtain ⟨⟨v, y, d', rfl, hv', dp', w', z'⟩, g3⟩ := hp
      have keep : ∀ {H' : Hp} {z : Option V}, Same H3 H' → (∃ v' y d', [some (.ref D), some (.ref a), some v, some (.int r0), z] = [some (.ref D), some (.ref a), some v', some (.int r0), y] ∧ At K H' D v' d' ∧ d'.deep ≤ 6 + (i + 1) ∧ d'.wide ≤ 130 + 3 * (i + 1) ∧ d'.size + 6 ≤ 906 * 2 ^ (i + 1)) ∧ Go D H H' := fun s => ⟨⟨_, _, d', rfl, hv'.same s, by omega, by omega, by rw [Nat.pow_succ]; omega⟩, g3.same s⟩
      obtain ⟨t, ht, hkt⟩ := hv'.isTup
      refine ⟨_, rfl, _, _, _, _, d'.isT, rfl, .ty "tuple", ht, hkt, _, rfl, ?_⟩
      cases d' with
      | tup es =>
        refine iteT ?_
        obtain ⟨va, xs, rfl, sv, rv⟩ := hv'.tup_inv
        refine ⟨_, rfl, Nat.zero_le _, fun p np => ⟨va, p, xs, rfl, rfl, Same.sqT (same_upd np) sv, .inl (.inl upd_same), _, rfl, ?_⟩⟩
        have sp := same_upd (o := .tup []) np
        generalize upd H3 p (.tup []) = H5 at sp ⊢
        have i2 : i < 2 := by omega
        cases rv with
        | nil => exact iteF ⟨_, rfl, keep sp⟩
        | cons h1 rv =>
          refine iteT ?_
          have g5 := g3.same sp
          refine ⟨_, rfl, _, rfl, _, rfl, D, rfl, g5.2, fun ov HO gO hO => ?_⟩
          obtain ⟨od, ho, o1, o2, o3⟩ := hO
          refine ⟨D, va, ov, _, od, rfl, gO.2, (hv'.same sp).go g5.2 gO, ho, ⟨o1, o2, o3⟩, by omega, by omega, fun H7 v7 d7 g7 h7 gr => ?_⟩
          obtain ⟨q1, q2, q3⟩ := gr
          exact ⟨⟨_, _, d7, rfl, h7, by omega, by omega, by rw [Nat.pow_succ]; omega⟩, (g5.trans gO).trans g7⟩
      | _ => exact iteF ⟨_, rfl, keep (.refl _)⟩
    · obtain ⟨⟨v, y, d', rfl, hv', dp', w', z'⟩, g3⟩ := hp
      have e : ((1 : Int) + r1).toNat ≤ 2 := by omega
      have e2 : 906 * 2 ^ ((1 : Int) + r1).toNat ≤ 906 * 2 ^ 2 := Nat.mul_le_mul_left _ (Nat.pow_le_pow_right (by decide) e)
      exact ⟨_, rfl, q _ _ _ g3 hv' (by omega) (by omega)⟩
end
end FS

set_option Elab.async false
set_option linter.all false
set_option maxRecDepth 100000
set_option maxHeartbeats 4000000
namespace FS
open PySem PySem.Spec PyProof.Rows L2
section
variable {P : Program} {w : World} {K : PySem.W.Frag} {mg : Str → Option Value} {base : Heap}
abbrev N_law_is_body : List Str := ["_law_value", "_law_own"]
theorem sc_law_is_body : FnScope N_law_is_body ["_law_value", "_law_own"] (defScope s_law_is_body) := ⟨rfl, rfl, rfl, by decide +kernel, rfl, by decide +kernel, by decide +kernel⟩
theorem ok_l_is_body {f : Addr} {fd : FuncData} (F : Fun K "_law_is_body" "_law_is_body" s_law_is_body f fd) (T : Nm K mg) (Cl_is_piece : Cal P w K mg base 12 "_law_is_piece" ["_law_value", "_law_own", "_law_deep", "_law_is_wrap"] (spPiece K 6)) (Cl_all_in : Cal P w K mg base 7 "_law_all_in" ["_law_piece"] (spAll K 6)) : FnOk P w K mg base CX0 13 f fd ["_law_value", "_law_own"] (spBodyA K) := by
  have nd := sc_law_is_body.nd
  refine F.ok sc_law_is_body (fun vs H Q E h => ?_) (fun cdv A outer s H vs Q E hr h => ?_)
  · obtain ⟨D, v, wv, d, own, rfl, hd, wd, sz, dw, po, q⟩ := h
    rfl
  · obtain ⟨D, v, wv, d, own, rfl, hd, wd, sz, dw, po, q⟩ := h
    skip
    refine ⟨_, (pss_one (ps_ret (pe_and (pe_own Cl_is_piece (hr.mono (by decide)) (by rfl) (pa_cons (pv 0) (pa_cons (pv 1) (pa_cons pe_int (pa_cons pe_bl pa_nil))))) (pe_one (pe_cmpR op_le (pe_callB call_len (by rfl) T.b_len PySem.boot_len (pa_cons (pe_own Cl_all_in (hr.mono (by decide)) (by rfl) (pa_cons (pv 0) pa_nil)) pa_nil)) pe_int (nomark _)))))), ?_⟩

    refine ⟨_, rfl, _, rfl, D, v, wv, d, own, 6, false, rfl, hd, wd, dw, po, by decide, fun H1 s1 => ?_⟩
    refine ⟨_, rfl, ite2 (fun e => ?_) (fun e => ?_)⟩
    · obtain ⟨t, db, gd, nw, ct, low⟩ := piece_tm 6 e (hd.same s1)
      have cs := countN_size 6 d
      refine ⟨_, rfl, own, v, t, rfl, db, gd, low, by omega, fun H2 p xs s2 np ep rx => ?_⟩
      refine ⟨_, _, rfl, .inl ⟨_, .inl (.inl ep), rfl⟩, _, _, rfl, rfl, ?_⟩
      have l : xs.length = t.count := by rw [DpAll.len rx, datas_len]; rfl
      have q1 := q _ (s1.trans s2)
      have e2 : termB own d = decide (((xs.length : Nat) : Int) ≤ 40) := by
        unfold termB
        rw [e, Bool.true_and, l, ct]
        exact decide_eq_decide.mpr (by omega)
      rw [e2] at q1
      exact q1
    · have e := Bool.not_eq_true _ |>.mp e
      have q1 := q _ s1
      have e2 : termB own d = false := by
        unfold termB
        rw [e]
        rfl
      rw [e2] at q1
      exact q1
end
end FS

set_option Elab.async false
set_option linter.all false
set_option maxRecDepth 100000
set_option maxHeartbeats 4000000
namespace FS
open PySem PySem.Spec PyProof.Rows L2
section
variable {P : Program} {w : World} {K : PySem.W.Frag} {mg : Str → Option Value} {base : Heap}
abbrev N_law_bent_tuple : List Str := ["_law_die", "_law_items", "_law_odd", "_law_at", "_law_some"]
theorem sc_law_bent_tuple : FnScope N_law_bent_tuple ["_law_die", "_law_items", "_law_odd"] (defScope s_law_bent_tuple) := ⟨rfl, rfl, rfl, by decide +kernel, rfl, by decide +kernel, by decide +kernel⟩
theorem ok_l_bent_tuple {f : Addr} {fd : FuncData} (F : Fun K "_law_bent_tuple" "_law_bent_tuple" s_law_bent_tuple f fd) (T : Nm K mg) (Cl_cast : Cal P w K mg base 1 "_law_cast" ["_law_die", "_law_total"] spCast) (Cl_pick : Cal P w K mg base 2 "_law_pick" ["_law_die", "_law_items"] (spPick K)) : FnOk P w K mg base CX0 3 f fd ["_law_die", "_law_items", "_law_odd"] (spBentT K) := by
  have nd := sc_law_bent_tuple.nd
  refine F.ok sc_law_bent_tuple (fun vs H Q E h => ?_) (fun cdv A outer s H vs Q E hr h => ?_)
  · obtain ⟨D, a, ov, ds, od, rfl, die, hd, ho, l3, q⟩ := h
    rfl
  · obtain ⟨D, a, ov, ds, od, rfl, die, hd, ho, l3, q⟩ := h
    skip
    refine ⟨_, (pss_cons (ps_set (i := 3) nd rfl (Or.inl rfl) (pe_ifExp (pt_cmpR (op_ne0 rfl hr) (pv 1) (pe_tup pa_nil) (nomark _)) (pe_own Cl_cast (hr.mono (by decide)) (by rfl) (pa_cons (pv 0) (pa_cons (pe_callB call_len (by rfl) T.b_len PySem.boot_len (pa_cons (pv 1) pa_nil)) pa_nil))) pe_int))
  (pss_cons (ps_set (i := 4) nd rfl (Or.inl rfl) (pe_lst (pa_cons (pe_op op_catA (pe_op op_catA (pe_slice sl_tupA (pv 1) po_none (po_some (pv 3))) (pe_tup (pa_cons (pv 2) pa_nil))) (pe_slice sl_tupA (pv 1) (po_some (pe_op op_add (pv 3) pe_int)) po_none)) pa_nil)))
  (pss_cons (ps_expr (pe_bm PySem.F.plainAttrs_list PySem.F.slot_list_append PySem.F.type_list_append mt_append (pv 4) (pa_cons (pe_op op_catA (pe_slice sl_tupA (pv 1) po_none (po_some (pv 3))) (pe_slice sl_tupA (pv 1) (po_some (pe_op op_add (pv 3) pe_int)) po_none)) pa_nil)))
  (pss_cons (ps_set (i := 4) nd rfl (Or.inl rfl) (pe_op op_cat (pv 4) (pe_lst (pa_cons (pe_op op_catA (pe_slice sl_tupA (pv 1) po_none (po_some (pe_op op_add (pv 3) pe_int))) (pe_slice sl_tupA (pv 1) (po_some (pv 3)) po_none)) (pa_cons (pe_revT (pv 1) (fun _ _ _ h => ⟨_, rfl, h⟩) (pe_un un_neg pe_int)) (pa_cons (pe_callTy call_list_of (by rfl) T.b_list (by decide +kernel) (pa_cons (pv 1) pa_nil)) pa_nil))))))
  (pss_cons (ps_set (i := 4) nd rfl (Or.inl rfl) (pe_op op_cat (pv 4) (pe_lst (pa_cons (pe_op op_catA (pv 1) (pe_tup (pa_cons (pv 2) pa_nil))) (pa_cons (pe_op op_catA (pe_tup (pa_cons (pv 2) pa_nil)) (pv 1)) (pa_cons (pv 2) pa_nil))))))
  (pss_one (ps_ret (pe_own Cl_pick (hr.mono (by decide)) (by rfl) (pa_cons (pv 0) (pa_cons (pv 4) pa_nil)))))))))), ?_⟩

    obtain ⟨a', xs, ea, sq, r⟩ := hd.tup_inv
    cases ea
    have lx : xs.length = ds.length := r.len
    have size2 : ∀ {m : Nat}, m ≤ 2000 → m ≤ sizeLine := fun h => Nat.le_trans h (by decide)
    refine seq_gen (P := fun σ' H' => (∃ k : Nat, k ≤ 3 ∧ σ' = [some (.ref D), some (.ref a), some ov, some (.int (k : Int)), none]) ∧ Go D H H') (fun N hN => ?_) ?_
    · refine ⟨_, rfl, Nat.zero_le _, fun p np => ⟨a, p, xs, rfl, rfl, Same.sqT (same_upd np) sq, .inl (.inl upd_same), _, rfl, ?_⟩⟩
      have sp := same_upd (o := .tup []) np
      generalize upd H p (.tup []) = H1 at sp ⊢
      have g1 := Go.of die sp
      by_cases e : xs.isEmpty = true
      · rw [e]
        exact iteF (hN _ _ ⟨⟨0, by decide, rfl⟩, g1⟩)
      · have e := Bool.not_eq_true _ |>.mp e
        rw [e]
        have pos : 0 < xs.length := by
          cases xs with
          | nil => cases e
          | cons x y => exact Nat.succ_pos _
        refine iteT ⟨_, rfl, _, rfl, _, _, rfl, .inr ⟨_, Same.sqT sp sq, rfl⟩, D, (xs.length : Int), rfl, g1.2, by omega, by omega, fun rr HE r0 r1 gE _ => ?_⟩
        obtain ⟨k, rfl⟩ := Int.eq_ofNat_of_zero_le r0
        exact hN _ _ ⟨⟨k, by omega, rfl⟩, g1.trans gE⟩
    rintro σ0 H1 ⟨⟨k, k3, rfl⟩, g1⟩
    have sq1 := (g1.tk die).sqT sq
    -- the first
    refine ⟨_, rfl, ?_⟩
    dsimp only [tNoPart]
    refine ⟨_, rfl, _, rfl, ?_⟩
    refine sl_toA sq1 fun H2 p2 s2 sq2 => ?_
    refine ⟨_, rfl, by show 1 ≤ sizeLine; decide, fun p3 n3 => ?_⟩
    have s3 := same_upd (o := .tup [ov]) n3
    have e3 : upd H2 p3 (.tup [ov]) p3 = some (.tup [ov]) := upd_same
    generalize upd H2 p3 (.tup [ov]) = H3 at s3 e3 ⊢
    refine cat_anyA (Same.sqT s3 sq2) (.inl (.inl e3)) (size2 (by rw [List.length_take]; show _ + 1 ≤ 2000; omega)) fun H4 p4 s4 sq4 => ?_
    refine ⟨_, rfl, _, rfl, _, _, rfl, rfl, _, rfl, ?_⟩
    dsimp only [tNoPart]
    rw [show ((k : Int) + 1) = ((k + 1 : Nat) : Int) by omega]
    have s24 := s2.trans (s3.trans s4)
    refine sl_anyA (Same.sqT s24 sq1) fun H5 p5 s5 sq5 => ?_
    refine cat_anyA (Same.sqT s5 sq4) sq5 (size2 (by rw [List.length_append, List.length_take, List.length_drop]; show _ + 1 + _ ≤ 2000; omega)) fun H6 p6 s6 sq6 => ?_
    have s26 := s24.trans (s5.trans s6)
    have g6 := g1.same s26
    have sqx6 := Same.sqT s26 sq1
    clear s2 sq2 s3 e3 s4 sq4 s5 sq5 s6 s24 s26 sq1
    refine ⟨by show 1 ≤ sizeLine; decide, fun L nL => ?_⟩
    have s7 := same_upd (o := .lst [V.ref p6]) nL
    have eL : upd H6 L (.lst [V.ref p6]) L = some (.lst [V.ref p6]) := upd_same
    generalize upd H6 L (.lst [V.ref p6]) = H7 at s7 eL ⊢
    have nLD := g6.2.ne nL
    have g7 := g6.same s7
    have sqx7 := Same.sqT s7 sqx6
    have sqA7 := Same.sqT s7 sq6
    clear s7 sqx6 sq6
    -- the second, put behind it
    refine ⟨_, rfl, .inl ⟨rfl, _, .inl (.inl eL)⟩, _, rfl, ?_⟩
    dsimp only [tNoPart]
    refine ⟨_, rfl, _, rfl, ?_⟩
    refine sl_toA sqx7 fun H8 p8 s8 sq8 => ?_
    refine ⟨_, rfl, _, rfl, _, _, rfl, rfl, _, rfl, ?_⟩
    dsimp only [tNoPart]
    rw [show ((k : Int) + 1) = ((k + 1 : Nat) : Int) by omega]
    refine sl_anyA (Same.sqT s8 sqx7) fun H9 p9 s9 sq9 => ?_
    refine cat_anyA (Same.sqT s9 sq8) sq9 (size2 (by rw [List.length_take, List.length_drop]; omega)) fun H10 p10 s10 sq10 => ?_
    have s810 := s8.trans (s9.trans s10)
    have eL10 := s810 _ _ eL
    refine ⟨L, [V.ref p6], .ref p10, rfl, rfl, eL10, by show 1 < sizeLine; decide, ?_⟩
    have t11 : TK H10 (upd H10 L (.lst ([V.ref p6] ++ [V.ref p10]))) := TK.set eL10 rfl
    have g11 : Go D H (upd H10 L (.lst ([V.ref p6] ++ [V.ref p10]))) := Go.upd (g7.same s810) (by
      cases e : H L with
      | none => rfl
      | some o =>
        by_cases h : L = D
        · exact absurd h nLD
        · rw [g6.1 _ _ h e] at nL
          cases nL) nLD
    have eL11 : upd H10 L (.lst ([V.ref p6] ++ [V.ref p10])) L = some (.lst [V.ref p6, V.ref p10]) := upd_same
    have sqA11 := t11.sqT (Same.sqT s810 sqA7)
    have sqB11 := t11.sqT sq10
    have sqx11 := t11.sqT (Same.sqT s810 sqx7)
    clear t11 s8 sq8 s9 sq9 s10 sq10 s810 eL10 eL sqx7 sqA7
    generalize upd H10 L (.lst ([V.ref p6] ++ [V.ref p10])) = H11 at g11 eL11 sqA11 sqB11 sqx11 ⊢
    refine ⟨_, rfl, _, rfl, ?_⟩
    dsimp only [tNoPart]
    refine ⟨_, rfl, _, _, rfl, rfl, _, rfl, ?_⟩
    rw [show ((k : Int) + 1) = ((k + 1 : Nat) : Int) by omega]
    refine sl_toA sqx11 fun H12 p12 s12 sq12 => ?_
    refine ⟨_, rfl, _, rfl, _, rfl, ?_⟩
    dsimp only [tNoPart]
    refine sl_anyA (Same.sqT s12 sqx11) fun H13 p13 s13 sq13 => ?_
    refine cat_anyA (Same.sqT s13 sq12) sq13 (size2 (by rw [List.length_take, List.length_drop]; omega)) fun H14 p14 s14 sq14 => ?_
    have sx14 := s12.trans (s13.trans s14)
    refine ⟨_, rfl, a, xs, rfl, Same.sqT sx14 sqx11, fun p15 n15 => ?_⟩
    have s15 := same_upd (o := .tup xs.reverse) n15
    have e15 : upd H14 p15 (.tup xs.reverse) p15 = some (.tup xs.reverse) := upd_same
    generalize upd H14 p15 (.tup xs.reverse) = H15 at s15 e15 ⊢
    refine ⟨_, rfl, a, xs, rfl, .inr (Same.sqT (sx14.trans s15) sqx11), fun p16 n16 => ?_⟩
    have s16 := same_upd (o := .lst xs) n16
    have e16 : upd H15 p16 (.lst xs) p16 = some (.lst xs) := upd_same
    have n16D := ((g11.same sx14).same s15).2.ne n16
    generalize upd H15 p16 (.lst xs) = H16 at s16 e16 ⊢
    refine ⟨by show 3 ≤ sizeLine; decide, fun p17 n17 => ?_⟩
    have s17 := same_upd (o := .lst [V.ref p14, V.ref p15, V.ref p16]) n17
    have e17 : upd H16 p17 (.lst [V.ref p14, V.ref p15, V.ref p16]) p17 = some (.lst [V.ref p14, V.ref p15, V.ref p16]) := upd_same
    generalize upd H16 p17 (.lst [V.ref p14, V.ref p15, V.ref p16]) = H17 at s17 e17 ⊢
    have sx17 := sx14.trans (s15.trans (s16.trans s17))
    refine ⟨L, p17, _, _, rfl, rfl, sx17 _ _ eL11, e17, by show 5 ≤ sizeLine; decide, fun L2 nL2 => ?_⟩
    have s18 := same_upd (o := .lst ([V.ref p6, V.ref p10] ++ [V.ref p14, V.ref p15, V.ref p16])) nL2
    have e18 : upd H17 L2 (.lst ([V.ref p6, V.ref p10] ++ [V.ref p14, V.ref p15, V.ref p16])) L2 = some (.lst ([V.ref p6, V.ref p10] ++ [V.ref p14, V.ref p15, V.ref p16])) := upd_same
    generalize upd H17 L2 (.lst ([V.ref p6, V.ref p10] ++ [V.ref p14, V.ref p15, V.ref p16])) = H18 at s18 e18 ⊢
    have s1418 := s15.trans (s16.trans (s17.trans s18))
    have sx18 := sx17.trans s18
    have sqC := Same.sqT s1418 sq14
    have eD := (s16.trans (s17.trans s18)) _ _ e15
    have eE := (s17.trans s18) _ _ e16
    clear s12 sq12 s13 sq13 s14 sq14 sx14 s15 e15 s16 e16 s17 e17 sx17 s1418 s18
    -- the last three
    refine ⟨_, rfl, _, rfl, _, rfl, by show 1 ≤ sizeLine; decide, fun p20 n20 => ?_⟩
    have s20 := same_upd (o := .tup [ov]) n20
    have e20 : upd H18 p20 (.tup [ov]) p20 = some (.tup [ov]) := upd_same
    generalize upd H18 p20 (.tup [ov]) = H20 at s20 e20 ⊢
    refine cat_anyA (Same.sqT (sx18.trans s20) sqx11) (.inl (.inl e20)) (size2 (by show _ + 1 ≤ 2000; omega)) fun H21 p21 s21 sq21 => ?_
    refine ⟨_, rfl, by show 1 ≤ sizeLine; decide, fun p22 n22 => ?_⟩
    have s22 := same_upd (o := .tup [ov]) n22
    have e22 : upd H21 p22 (.tup [ov]) p22 = some (.tup [ov]) := upd_same
    generalize upd H21 p22 (.tup [ov]) = H22 at s22 e22 ⊢
    have sy22 := s20.trans (s21.trans s22)
    refine ⟨_, rfl, ?_⟩
    refine cat_anyA (.inl (.inl e22)) (Same.sqT (sx18.trans sy22) sqx11) (size2 (by show 1 + _ ≤ 2000; omega)) fun H23 p23 s23 sq23 => ?_
    refine ⟨_, rfl, by show 3 ≤ sizeLine; decide, fun p24 n24 => ?_⟩
    have s24 := same_upd (o := .lst [V.ref p21, V.ref p23, ov]) n24
    have e24 : upd H23 p24 (.lst [V.ref p21, V.ref p23, ov]) p24 = some (.lst [V.ref p21, V.ref p23, ov]) := upd_same
    generalize upd H23 p24 (.lst [V.ref p21, V.ref p23, ov]) = H24 at s24 e24 ⊢
    have sy24 := sy22.trans (s23.trans s24)
    refine ⟨L2, p24, _, _, rfl, rfl, sy24 _ _ e18, e24, by show 8 ≤ sizeLine; decide, fun L3 nL3 => ?_⟩
    have s25 := same_upd (o := .lst (([V.ref p6, V.ref p10] ++ [V.ref p14, V.ref p15, V.ref p16]) ++ [V.ref p21, V.ref p23, ov])) nL3
    have e25 : upd H24 L3 (.lst (([V.ref p6, V.ref p10] ++ [V.ref p14, V.ref p15, V.ref p16]) ++ [V.ref p21, V.ref p23, ov])) L3 = some (.lst (([V.ref p6, V.ref p10] ++ [V.ref p14, V.ref p15, V.ref p16]) ++ [V.ref p21, V.ref p23, ov])) := upd_same
    generalize upd H24 L3 (.lst (([V.ref p6, V.ref p10] ++ [V.ref p14, V.ref p15, V.ref p16]) ++ [V.ref p21, V.ref p23, ov])) = H25 at s25 e25 ⊢
    have sy25 := sy24.trans s25
    have sz := sx18.trans sy25
    have gZ := g11.same sz
    have hL3 : L3 ≠ D := fun z => by
      obtain ⟨q1, q2, q3, q4⟩ := gZ.2
      rw [z, q4] at e25
      cases e25
    have rZ := r.go die gZ
    have oZ := ho.go die gZ
    have kl : KLA K H25 D (([V.ref p6, V.ref p10] ++ [V.ref p14, V.ref p15, V.ref p16]) ++ [V.ref p21, V.ref p23, ov]) := by
      refine KLA.app (KLA.app ?_ ?_) ?_
      · exact .cons (.tup (Same.sqT sz sqA11) (AtAll.app (AtAll.app (rZ.take k) (.cons oZ .nil)) (rZ.drop (k + 1)))) (.cons (.tup (Same.sqT sz sqB11) ((rZ.take k).app (rZ.drop (k + 1)))) .nil)
      · exact .cons (.tup (Same.sqT sy25 sqC) ((rZ.take (k + 1)).app (rZ.drop k))) (.cons (.tup (.inl (.inl (sy25 _ _ eD))) rZ.rev) (.cons (.lst n16D (sy25 _ _ eE)) .nil))
      · exact .cons (.tup (Same.sqT (s22.trans (s23.trans (s24.trans s25))) sq21) (rZ.app (.cons oZ .nil))) (.cons (.tup (Same.sqT (s24.trans s25) sq23) (AtAll.app (.cons oZ .nil) rZ)) (.cons oZ .nil))
    refine ⟨_, rfl, _, rfl, D, L3, _, gZ.2, rfl, .inl (.inl e25), hL3, List.cons_ne_nil _ _, by show 8 < 1000; decide, fun v HC hv gC _ => ?_⟩
    obtain ⟨d', hd'⟩ := kl v hv
    exact q HC v d' (gZ.trans gC) (hd'.go gZ.2 gC)
end
end FS

set_option Elab.async false
set_option linter.all false
set_option maxRecDepth 100000
set_option maxHeartbeats 4000000
namespace FS
open PySem PySem.Spec PyProof.Rows L2
section
variable {P : Program} {w : World} {K : PySem.W.Frag} {mg : Str → Option Value} {base : Heap}
abbrev NAare_parameters : List Str := ["value", "pair"]
theorem scAare_parameters : FnScope NAare_parameters ["value"] (defScope sare_parameters) := ⟨rfl, rfl, rfl, by decide +kernel, rfl, by decide +kernel, by decide +kernel⟩
theorem okA_are_parameters {f : Addr} {fd : FuncData} (F : Fun K "are_parameters" "are_parameters" sare_parameters f fd) (T : Nm K mg) (Cis_parameter : Cal P w K mg base 3 "is_parameter" ["value"] (spParA K)) : FnOk P w K mg base CX0 4 f fd ["value"] (spParsA K) := by
  have nd := scAare_parameters.nd
  refine F.ok scAare_parameters (fun vs H Q E h => ?_) (fun cdv A outer s H vs Q E hr h => ?_)
  · obtain ⟨D, v, d, rfl, hd, q⟩ := h
    rfl
  · obtain ⟨D, v, d, rfl, hd, q⟩ := h
    obtain ⟨t3, g3⟩ := T.g_MAX_PARAMETERS
    refine ⟨_, (pss_cons (ps_if (PW.pt (pw_or (pt_not (pt_val (pe_callB call_isi (by rfl) T.b_isinstance (by decide +kernel) (pa_cons (pv 0) (pa_cons (pe_bltn (v := .ty "tuple") (by rfl) T.b_tuple (by decide +kernel) rfl) pa_nil))))) (pw_or1 (pt_cmpR op_gt (pe_callB call_len (by rfl) T.b_len PySem.boot_len (pa_cons (pv 0) pa_nil)) (pe_glob (v := .int 3) (by rfl) g3 ⟨_, rfl⟩) (nomark _)))))
  (pss_one (ps_ret pe_bl))
  pss_nil)
  (pss_cons (ps_if (pt_not (pt_val (pe_callB (cr_all rfl) (by rfl) T.b_all (by decide +kernel) (pa_cons (pe_lc (own := [("pair", 1)]) (g := gName 1) (tt := tYes) rfl nd (pi_tup (pv 0)) (blkOk_by (own := [("pair", 1)]) (N := NAare_parameters) (sc := defScope sare_parameters) (by decide +kernel)) (fun _ _ _ _ _ => (pg_name (i := 1) nd rfl (Or.inl rfl))) (fun _ _ _ _ _ => pts_nil) (fun _ _ _ _ _ => (pe_own Cis_parameter (hr.mono (by decide)) (by rfl) (pa_cons (pv 1) pa_nil)))) pa_nil))))
  (pss_one (ps_ret pe_bl))
  pss_nil)
  (pss_one (ps_ret (pe_cmpR op_eq (pe_callB cr_many (by rfl) T.b_len PySem.boot_len (pa_cons (pe_set (own := [("pair", 1)]) (g := gName 1) (tt := tYes) rfl nd (pi_tup (pv 0)) (blkOk_by (own := [("pair", 1)]) (N := NAare_parameters) (sc := defScope sare_parameters) (by decide +kernel)) (fun _ _ _ _ _ => (pg_name (i := 1) nd rfl (Or.inl rfl))) (fun _ _ _ _ _ => pts_nil) (fun _ _ _ _ _ => (pe_ix (ix_tupK (K := K) rfl) (pv 1) pe_int (fun _ _ => rfl)))) pa_nil)) (pe_callB call_len (by rfl) T.b_len PySem.boot_len (pa_cons (pv 0) pa_nil)) (nomark _)))))), ?_⟩

    cases hd with
    | @tup a xs ds sq r =>
      have l : xs.length = ds.length := r.len
      have q : ∀ H', Same H H' → Q (.bl (decide (ds.length ≤ 3) && (ds.all parB && decide ((ds.map firstS).Nodup)))) H' := q
      refine ⟨_, rfl, _, _, _, _, true, rfl, .ty "tuple", ty_tup sq, kit_ty (by decide +kernel), true, rfl, ?_⟩
      refine iteF ?_
      refine ⟨_, rfl, _, _, rfl, .inr ⟨_, sq, rfl⟩, _, _, rfl, rfl, _, rfl, ite2 (fun e => ?_) (fun e => ?_)⟩
      · have e := of_decide_eq_true e
        have q1 := q H (.refl H)
        rw [decide_eq_false (by omega)] at q1
        exact q1
      have e : ¬ (3 : Int) < ((xs.length : Nat) : Int) := fun h => e (decide_eq_true h)
      rw [decide_eq_true (by omega), Bool.true_and] at q
      refine ⟨_, rfl, a, rfl, ⟨xs, sq⟩, fun L nL => ?_⟩
      refine lc_tup (xs := xs) (fun i H' => Same H H' ∧ H' L = some (.lst (((ds.take i).map parB).map V.bl))) ⟨same_upd nL, upd_same⟩ (fun i H' hi hp => Same.sqT hp.1 sq) (fun i x H2 hx hp => ?_) (fun H' hp => ?_)
      · obtain ⟨sm, eD⟩ := hp
        obtain ⟨d, hd, dx⟩ := r.get hx
        have li := (List.getElem?_eq_some_iff.mp hx).1
        refine ⟨rfl, _, rfl, D, x, d, rfl, dx.same sm, fun H3 s3 => ⟨_, s3 _ _ eD, ?_, Same.set (sm.trans s3) nL, ?_⟩⟩
        · rw [List.length_map, List.length_map, List.length_take]
          exact Nat.lt_of_le_of_lt (Nat.min_le_right _ _) (small1000 (by omega))
        · rw [upd_same, take_one parB hd, List.map_append]
          rfl
      · obtain ⟨sm, eD⟩ := hp
        rw [l, List.take_length] at eD
        refine ⟨L, _, rfl, .inl (.inl eD), ?_⟩
        have e4 : (ds.map parB).all id = ds.all parB := by
          rw [List.all_map]
          rfl
        rw [e4]
        refine ⟨_, rfl, ite2 (fun e5 => ?_) (fun e5 => ?_)⟩
        · have q1 := q _ sm
          rw [Bool.not_eq_true' _ |>.mp e5, Bool.false_and] at q1
          exact q1
        have e5 : ds.all parB = true := by simpa using e5
        rw [e5, Bool.true_and] at q
        have ent : ∀ {H' : Hp} {i : Nat} {x : V}, Same H H' → xs[i]? = some x → ∃ b z y d2, ds[i]? = some (.tup [.str z, d2]) ∧ x = .ref b ∧ SqT K H' b [.str z, y] := fun {H' i x} sm hx => by
          obtain ⟨d, hd, dx⟩ := r.get hx
          have pb := List.all_eq_true.mp e5 d (List.mem_of_getElem? hd)
          cases d with
          | tup es =>
            rcases es with _ | ⟨d1, _ | ⟨d2, _ | ⟨d3, es⟩⟩⟩
            · cases pb
            · cases pb
            · obtain ⟨z, rfl, -⟩ := nameB_inv (Bool.and_eq_true_iff.mp (show (nameB d1 && _) = true from pb)).1
              obtain ⟨b, ys, rfl, sb, rb⟩ := (dx.same sm).tup_inv
              cases rb with
              | cons y1 rb => cases rb with
                | cons y2 rb =>
                cases rb
                obtain ⟨rfl, -⟩ := y1.str_inv
                exact ⟨b, z, _, d2, hd, rfl, sb⟩
            · cases pb
          | _ => cases pb
        refine ⟨_, rfl, a, rfl, ⟨xs, Same.sqT sm sq⟩, fun D2 nD2 => ?_⟩
        have n0 : H D2 = none := Same.free sm nD2
        refine set_tup (xs := xs) (fun i H2 => Same H H2 ∧ H2 D2 = some (SO w D2 (uniq ((ds.take i).map firstS)))) ⟨sm.trans (same_upd nD2), upd_same⟩ (fun i H' hi hp => Same.sqT hp.1 sq) (fun i x H2 hx hp => ?_) (fun H2 hp => ?_)
        · obtain ⟨sm2, e2⟩ := hp
          obtain ⟨b, z, y, d2, hd, rfl, sb⟩ := ent sm2 hx
          refine ⟨rfl, _, rfl, b, _, 0, _, rfl, rfl, sb, at0, z, _, rfl, e2, uniq_small (n := 3) (by rw [List.length_map, List.length_take]; omega) (by decide), Same.set sm2 n0, ?_⟩
          rw [upd_same, take_one firstS hd, uniq_more]
          rfl
        · obtain ⟨sm2, e2⟩ := hp
          rw [l, List.take_length] at e2
          refine ⟨D2, _, rfl, e2, _, rfl, _, _, rfl, .inr ⟨_, Same.sqT sm2 sq, rfl⟩, rfl, ?_⟩
          have e3 : decide (V.int (((uniq (ds.map firstS)).length : Nat) : Int) = V.int ((xs.length : Nat) : Int)) = decide ((ds.map firstS).Nodup) := decide_eq_decide.mpr ⟨fun h => by
            have h2 := V.int.inj h
            exact nodup_of_uniq (by rw [List.length_map]; omega), fun h => by
            have := uniq_of_nodup h
            rw [this, List.length_map, l]⟩
          have q1 := q _ sm2
          rw [← e3] at q1
          exact q1
    | non => exact ⟨_, rfl, _, _, _, _, false, rfl, .ty "tuple", .base .non, kit_ty (show kitB "NoneType" "tuple" = some false by decide +kernel), false, rfl, iteT (q H (.refl H))⟩
    | bl b => exact ⟨_, rfl, _, _, _, _, false, rfl, .ty "tuple", .base (.bl b), kit_ty (show kitB "bool" "tuple" = some false by decide +kernel), false, rfl, iteT (q H (.refl H))⟩
    | int i => exact ⟨_, rfl, _, _, _, _, false, rfl, .ty "tuple", .base (.int i), kit_ty (show kitB "int" "tuple" = some false by decide +kernel), false, rfl, iteT (q H (.refl H))⟩
    | str z l => exact ⟨_, rfl, _, _, _, _, false, rfl, .ty "tuple", .base (.str z), kit_ty (show kitB "str" "tuple" = some false by decide +kernel), false, rfl, iteT (q H (.refl H))⟩
    | lst n e => exact ⟨_, rfl, _, _, _, _, false, rfl, .ty "tuple", .base (.lst e), kit_ty (show kitB "list" "tuple" = some false by decide +kernel), false, rfl, iteT (q H (.refl H))⟩
    | dct n e => exact ⟨_, rfl, _, _, _, _, false, rfl, .ty "tuple", .base (.dK e), kit_ty (show kitB "dict" "tuple" = some false by decide +kernel), false, rfl, iteT (q H (.refl H))⟩
end
end FS

set_option Elab.async false
set_option linter.all false
set_option maxRecDepth 100000
set_option maxHeartbeats 4000000
namespace FS
open PySem PySem.Spec PyProof.Rows L2
section
variable {P : Program} {w : World} {K : PySem.W.Frag} {mg : Str → Option Value} {base : Heap}
abbrev NAis_parameter : List Str := ["value"]
theorem scAis_parameter : FnScope NAis_parameter ["value"] (defScope sis_parameter) := ⟨rfl, rfl, rfl, by decide +kernel, rfl, by decide +kernel, by decide +kernel⟩
theorem okA_is_parameter {f : Addr} {fd : FuncData} (F : Fun K "is_parameter" "is_parameter" sis_parameter f fd) (T : Nm K mg) (Cis_name : Cal P w K mg base 1 "is_name" ["value"] (spNameA K)) : FnOk P w K mg base CX0 3 f fd ["value"] (spParA K) := by
  have nd := scAis_parameter.nd
  refine F.ok scAis_parameter (fun vs H Q E h => ?_) (fun cdv A outer s H vs Q E hr h => ?_)
  · obtain ⟨D, v, d, rfl, hd, q⟩ := h
    rfl
  · obtain ⟨D, v, d, rfl, hd, q⟩ := h
    obtain ⟨aK, gK, sK⟩ := T.g_KINDS
    refine ⟨_, (pss_one (ps_ret (pe_and (pe_callB call_isi (by rfl) T.b_isinstance (by decide +kernel) (pa_cons (pv 0) (pa_cons (pe_bltn (v := .ty "tuple") (by rfl) T.b_tuple (by decide +kernel) rfl) pa_nil))) (pe_and (pe_cmpR op_eq (pe_callB call_len (by rfl) T.b_len PySem.boot_len (pa_cons (pv 0) pa_nil)) pe_int (nomark _)) (pe_and (pe_own Cis_name (hr.mono (by decide)) (by rfl) (pa_cons (pe_ix ix_tup (pv 0) pe_int (fun _ _ => rfl)) pa_nil)) (pe_one (pe_cmpR (op_inA rfl hr) (pe_ix ix_tup (pv 0) pe_int (fun _ _ => rfl)) (pe_glob (v := .ref aK) (by rfl) gK rfl) (by rfl)))))))), ?_⟩

    cases hd with
    | @tup a xs ds sq r =>
      have lx : xs.length = ds.length := r.len
      refine ⟨_, rfl, _, _, _, _, true, rfl, .ty "tuple", ty_tup sq, kit_ty (by decide +kernel), true, rfl, iteT ?_⟩
      refine ⟨_, rfl, _, _, rfl, .inr ⟨_, sq, rfl⟩, rfl, _, rfl, ite2 (fun e3 => ?_) (fun e3 => ?_)⟩
      · have l2 : ds.length = 2 := by
          have : ((xs.length : Nat) : Int) = 2 := V.int.inj (of_decide_eq_true e3)
          omega
        rcases ds with _ | ⟨d1, _ | ⟨d2, _ | ⟨d3, ds⟩⟩⟩
        · cases l2
        · cases l2
        · have q : ∀ H', Same H H' → Q (.bl (nameB d1 && (["block", "wrap"] : List Str).any d2.eqS)) H' := q
          cases r with
          | @cons x1 _ _ _ h1 r => cases r with
            | @cons x2 _ _ _ h2 r =>
            cases r
            refine ⟨_, rfl, a, _, 0, _, rfl, rfl, sq, at0, D, x1, d1, rfl, h1, fun H1 s1 => ?_⟩
            refine ⟨_, rfl, ite2 (fun e1 => ?_) (fun e1 => ?_)⟩
            · have q1 := q _ s1
              rw [e1, Bool.true_and] at q1
              exact ⟨_, rfl, a, _, 1, _, rfl, rfl, Same.sqT s1 sq, at1, D, d2, aK, _, h2.same s1, rfl, sK _, q1⟩
            · have q1 := q _ s1
              have e2 := Bool.not_eq_true _ |>.mp e1
              rw [e2, Bool.false_and] at q1
              exact q1
        · cases l2
      · have l2 : ¬ ds.length = 2 := fun h => e3 (decide_eq_true (congrArg V.int (by omega)))
        rcases ds with _ | ⟨d1, _ | ⟨d2, _ | ⟨d3, ds⟩⟩⟩
        · exact q _ (.refl H)
        · exact q _ (.refl H)
        · exact absurd rfl l2
        · exact q _ (.refl H)
    | non => exact ⟨_, rfl, _, _, _, _, false, rfl, .ty "tuple", .base .non, kit_ty (show kitB "NoneType" "tuple" = some false by decide +kernel), false, rfl, q H (.refl H)⟩
    | bl b => exact ⟨_, rfl, _, _, _, _, false, rfl, .ty "tuple", .base (.bl b), kit_ty (show kitB "bool" "tuple" = some false by decide +kernel), false, rfl, q H (.refl H)⟩
    | int i => exact ⟨_, rfl, _, _, _, _, false, rfl, .ty "tuple", .base (.int i), kit_ty (show kitB "int" "tuple" = some false by decide +kernel), false, rfl, q H (.refl H)⟩
    | str z l => exact ⟨_, rfl, _, _, _, _, false, rfl, .ty "tuple", .base (.str z), kit_ty (show kitB "str" "tuple" = some false by decide +kernel), false, rfl, q H (.refl H)⟩
    | lst n e => exact ⟨_, rfl, _, _, _, _, false, rfl, .ty "tuple", .base (.lst e), kit_ty (show kitB "list" "tuple" = some false by decide +kernel), false, rfl, q H (.refl H)⟩
    | dct n e => exact ⟨_, rfl, _, _, _, _, false, rfl, .ty "tuple", .base (.dK e), kit_ty (show kitB "dict" "tuple" = some false by decide +kernel), false, rfl, q H (.refl H)⟩
end
end FS

set_option Elab.async false
set_option linter.all false
set_option maxRecDepth 100000
set_option maxHeartbeats 4000000
namespace FS
open PySem PySem.Spec PyProof.Rows L2
section
variable {P : Program} {w : World} {K : PySem.W.Frag} {mg : Str → Option Value} {base : Heap}
abbrev NAis_deed_table : List Str := ["value", "entry"]
theorem scAis_deed_table : FnScope NAis_deed_table ["value"] (defScope sis_deed_table) := ⟨rfl, rfl, rfl, by decide +kernel, rfl, by decide +kernel, by decide +kernel⟩
theorem okA_is_deed_table {f : Addr} {fd : FuncData} (F : Fun K "is_deed_table" "is_deed_table" sis_deed_table f fd) (T : Nm K mg) (Cis_integer_in : Cal P w K mg base 2 "is_integer_in" ["value", "least", "greatest"] (spIntA K)) : FnOk P w K mg base CX0 3 f fd ["value"] (spTabA K) := by
  have nd := scAis_deed_table.nd
  refine F.ok scAis_deed_table (fun vs H Q E h => ?_) (fun cdv A outer s H vs Q E hr h => ?_)
  · obtain ⟨D, v, d, rfl, hd, q⟩ := h
    rfl
  · obtain ⟨D, v, d, rfl, hd, q⟩ := h
    obtain ⟨t3, g3⟩ := T.g_MAX_MODES
    refine ⟨_, (pss_cons (ps_if (PW.pt (pw_or (pt_not (pt_val (pe_callB call_isi (by rfl) T.b_isinstance (by decide +kernel) (pa_cons (pv 0) (pa_cons (pe_bltn (v := .ty "tuple") (by rfl) T.b_tuple (by decide +kernel) rfl) pa_nil))))) (pw_or1 (pt_not (pt_chain op_le op_le pe_int (pe_callB call_len (by rfl) T.b_len PySem.boot_len (pa_cons (pv 0) pa_nil)) (pe_glob (v := .int 3) (by rfl) g3 ⟨_, rfl⟩))))))
  (pss_one (ps_ret pe_bl))
  pss_nil)
  (pss_one (ps_ret (pe_callB (cr_all rfl) (by rfl) T.b_all (by decide +kernel) (pa_cons (pe_lc (own := [("entry", 1)]) (g := gName 1) (tt := tYes) rfl nd (pi_tup (pv 0)) (blkOk_by (own := [("entry", 1)]) (N := NAis_deed_table) (sc := defScope sis_deed_table) (by decide +kernel)) (fun _ _ _ _ _ => (pg_name (i := 1) nd rfl (Or.inl rfl))) (fun _ _ _ _ _ => pts_nil) (fun _ _ _ _ _ => (pe_or (pe_cmpR op_isN (pv 1) pe_non (nomark _)) (pe_one (pe_own Cis_integer_in (hr.mono (by decide)) (by rfl) (pa_cons (pv 1) (pa_cons pe_int (pa_cons (pe_op op_sub (pe_glob (v := .int 3) (by rfl) g3 ⟨_, rfl⟩) pe_int) pa_nil)))))))) pa_nil))))), ?_⟩

    cases hd with
    | @tup a xs t sq r =>
      have l : xs.length = t.length := r.len
      have tb : tabB (.tup t) = (decide (1 ≤ t.length ∧ t.length ≤ 3) && t.all entryB) := rfl
      refine ⟨_, rfl, _, _, _, _, true, rfl, .ty "tuple", ty_tup sq, kit_ty (by decide +kernel), true, rfl, ?_⟩
      refine iteF ?_
      refine ⟨_, rfl, _, _, rfl, .inr ⟨_, sq, rfl⟩, _, _, rfl, rfl, _, rfl, ite2 (fun e1 => ?_) (fun e1 => ?_)⟩
      · refine ⟨_, _, rfl, rfl, _, rfl, ite2 (fun e2 => ?_) (fun e2 => ?_)⟩
        · have n8 : ¬ (xs.length : Int) ≤ 3 := by simpa using e2
          have w0 : tabB (.tup t) = false := by
            rw [tb, decide_eq_false (fun h => n8 (by rw [l]; omega))]
            rfl
          have q1 := q H (.refl H)
          rw [w0] at q1
          exact q1
        · have n8 : (xs.length : Int) ≤ 3 := by simpa using e2
          have n1 : 1 ≤ (xs.length : Int) := of_decide_eq_true e1
          have w0 : tabB (.tup t) = t.all entryB := by
            rw [tb, decide_eq_true ⟨by omega, by omega⟩]
            rfl
          refine ⟨_, rfl, a, rfl, ⟨xs, sq⟩, fun D2 nD => ?_⟩
          refine lc_tup (xs := xs) (fun i H' => Same H H' ∧ H' D2 = some (.lst (((t.take i).map entryB).map V.bl))) ⟨same_upd nD, upd_same⟩ (fun i H' hi hp => Same.sqT hp.1 sq) (fun i x H2 hx hp => ?_) (fun H' hp => ?_)
          · obtain ⟨sm, eD⟩ := hp
            obtain ⟨e, he, dx⟩ := r.get hx
            refine ⟨rfl, ?_⟩
            have fin : ∀ b : Bool, b = entryB e → ∃ acc, H2 D2 = some (.lst acc) ∧ acc.length < sizeLine ∧ Same H (upd H2 D2 (.lst (acc ++ [V.bl b]))) ∧ (upd H2 D2 (.lst (acc ++ [V.bl b]))) D2 = some (.lst (((t.take (i + 1)).map entryB).map V.bl)) := fun b hb => by
              refine ⟨_, eD, ?_, Same.set sm nD, ?_⟩
              · rw [List.length_map, List.length_map, List.length_take]
                exact Nat.lt_of_le_of_lt (Nat.min_le_right _ _) (small1000 (by omega))
              · rw [upd_same, take_one entryB he, List.map_append, hb]
                rfl
            have dx2 := dx.same sm
            cases dx with
            | non =>
              refine ⟨_, rfl, ?_⟩
              exact ⟨rfl, _, rfl, iteT (fin true rfl)⟩
            | int n => exact ⟨_, rfl, rfl, _, rfl, iteF ⟨_, rfl, _, _, rfl, rfl, D, _, _, 0, 2, rfl, dx2, fin _ rfl⟩⟩
            | bl n => exact ⟨_, rfl, rfl, _, rfl, iteF ⟨_, rfl, _, _, rfl, rfl, D, _, _, 0, 2, rfl, dx2, fin _ rfl⟩⟩
            | str n h => exact ⟨_, rfl, rfl, _, rfl, iteF ⟨_, rfl, _, _, rfl, rfl, D, _, _, 0, 2, rfl, dx2, fin _ rfl⟩⟩
            | tup n h => exact ⟨_, rfl, rfl, _, rfl, iteF ⟨_, rfl, _, _, rfl, rfl, D, _, _, 0, 2, rfl, dx2, fin _ rfl⟩⟩
            | lst n h => exact ⟨_, rfl, rfl, _, rfl, iteF ⟨_, rfl, _, _, rfl, rfl, D, _, _, 0, 2, rfl, dx2, fin _ rfl⟩⟩
            | dct n h => exact ⟨_, rfl, rfl, _, rfl, iteF ⟨_, rfl, _, _, rfl, rfl, D, _, _, 0, 2, rfl, dx2, fin _ rfl⟩⟩
          · obtain ⟨sm, eD⟩ := hp
            refine ⟨D2, _, rfl, .inl (.inl eD), ?_⟩
            rw [l, List.take_length]
            have q1 := q H' sm
            have e4 : (t.map entryB).all id = t.all entryB := by
              rw [List.all_map]
              rfl
            rw [w0] at q1
            rw [e4]
            exact q1
      · have n1 : ¬ 1 ≤ (xs.length : Int) := by simpa using e1
        have w0 : tabB (.tup t) = false := by
          rw [tb, decide_eq_false (fun h => n1 (by omega))]
          rfl
        have q1 := q H (.refl H)
        rw [w0] at q1
        exact ⟨_, rfl, q1⟩
    | non => exact ⟨_, rfl, _, _, _, _, false, rfl, .ty "tuple", .base .non, kit_ty (show kitB "NoneType" "tuple" = some false by decide +kernel), false, rfl, iteT (q H (.refl H))⟩
    | bl b => exact ⟨_, rfl, _, _, _, _, false, rfl, .ty "tuple", .base (.bl b), kit_ty (show kitB "bool" "tuple" = some false by decide +kernel), false, rfl, iteT (q H (.refl H))⟩
    | int i => exact ⟨_, rfl, _, _, _, _, false, rfl, .ty "tuple", .base (.int i), kit_ty (show kitB "int" "tuple" = some false by decide +kernel), false, rfl, iteT (q H (.refl H))⟩
    | str z l => exact ⟨_, rfl, _, _, _, _, false, rfl, .ty "tuple", .base (.str z), kit_ty (show kitB "str" "tuple" = some false by decide +kernel), false, rfl, iteT (q H (.refl H))⟩
    | lst n e => exact ⟨_, rfl, _, _, _, _, false, rfl, .ty "tuple", .base (.lst e), kit_ty (show kitB "list" "tuple" = some false by decide +kernel), false, rfl, iteT (q H (.refl H))⟩
    | dct n e => exact ⟨_, rfl, _, _, _, _, false, rfl, .ty "tuple", .base (.dK e), kit_ty (show kitB "dict" "tuple" = some false by decide +kernel), false, rfl, iteT (q H (.refl H))⟩
end
end FS

set_option Elab.async false
set_option linter.all false
set_option maxRecDepth 100000
set_option maxHeartbeats 4000000
namespace FS
open PySem PySem.Spec PyProof.Rows L2
section
variable {P : Program} {w : World} {K : PySem.W.Frag} {mg : Str → Option Value} {base : Heap}
abbrev NAparts_in : List Str := ["part"]
theorem scAparts_in : FnScope NAparts_in ["part"] (defScope sparts_in) := ⟨rfl, rfl, rfl, by decide +kernel, rfl, by decide +kernel, by decide +kernel⟩
theorem okA_parts_in {f : Addr} {fd : FuncData} (F : Fun K "parts_in" "parts_in" sparts_in f fd) (T : Nm K mg) : FnOk P w K mg base CX0 1 f fd ["part"] (spPartsA K) := by
  have nd := scAparts_in.nd
  refine F.ok scAparts_in (fun vs H Q E h => ?_) (fun cdv A outer s H vs Q E hr h => ?_)
  · obtain ⟨a, z, xs, rfl, sq, q⟩ := h
    rfl
  · obtain ⟨a, z, xs, rfl, sq, q⟩ := h
    skip
    refine ⟨_, (pss_cons (ps_if (pt_cmpR op_in_seq (pe_ix ix_tup (pv 0) pe_int (fun _ _ => rfl)) (pe_tup (pa_cons pe_str (pa_cons pe_str (pa_cons pe_str pa_nil)))) (by rfl))
  (pss_one (ps_ret (pe_slice sl_tupA (pv 0) (po_some pe_int) po_none)))
  pss_nil)
  (pss_cons (ps_if (pt_cmpR op_in_seq (pe_ix ix_tup (pv 0) pe_int (fun _ _ => rfl)) (pe_tup (pa_cons pe_str (pa_cons pe_str pa_nil))) (by rfl))
  (pss_one (ps_ret (pe_slice sl_tupA (pv 0) (po_some pe_int) po_none)))
  pss_nil)
  (pss_one (ps_ret (pe_tup pa_nil))))), ?_⟩

    have fin : ∀ {H' : Hp} (k : Nat) {Q : VK}, 0 < k → Same H H' → (∀ H2 p, Same H H2 → SqT K H2 p ((V.str z :: xs).drop k) → Q (.ref p) H2) → rSlA K (.ref a) (some (k : Int)) none H' Q := fun {H'} k {Q} hk s h => cut_tup (k := k) (Same.sqT s sq) hk (List.cons_ne_nil _ _) fun H2 p s2 sq2 => h H2 p (s.trans s2) sq2
    refine ⟨_, rfl, a, _, 0, _, rfl, rfl, sq, at0, (by show 3 ≤ sizeLine; decide), fun p np => ?_⟩
    have s1 : Same H (upd H p (.tup ([("seq" : Str), "or", "wrap"].map V.str))) := same_upd np
    refine ⟨p, [("seq" : Str), "or", "wrap"].map V.str, rfl, .inr (.inl (.inl upd_same)), rfl, flat_strs _, _, rfl, ?_⟩
    rw [inV_strs]
    unfold partsL at q
    refine ite2 (fun e3 => ?_) (fun e3 => ?_)
    · rw [if_pos (of_decide_eq_true e3)] at q
      exact ⟨_, rfl, _, rfl, fin 1 (by decide) s1 q⟩
    · rw [if_neg (fun h => e3 (decide_eq_true h))] at q
      refine ⟨_, rfl, a, _, 0, _, rfl, rfl, Same.sqT s1 sq, at0, (by show 2 ≤ sizeLine; decide), fun p2 np2 => ?_⟩
      have s2 : Same H (upd (upd H p (.tup ([("seq" : Str), "or", "wrap"].map V.str))) p2 (.tup ([("call" : Str), "with"].map V.str))) := s1.trans (same_upd np2)
      refine ⟨p2, [("call" : Str), "with"].map V.str, rfl, .inr (.inl (.inl upd_same)), rfl, flat_strs _, _, rfl, ?_⟩
      rw [inV_strs]
      refine ite2 (fun e2 => ?_) (fun e2 => ?_)
      · rw [if_pos (of_decide_eq_true e2)] at q
        exact ⟨_, rfl, _, rfl, fin 2 (by decide) s2 q⟩
      · rw [if_neg (fun h => e2 (decide_eq_true h))] at q
        exact ⟨Nat.zero_le _, fun p3 np3 => q _ p3 (s2.trans (same_upd np3)) (.inl (.inl upd_same))⟩
end
end FS

set_option Elab.async false
set_option linter.all false
set_option maxRecDepth 100000
set_option maxHeartbeats 4000000
namespace FS
open PySem PySem.Spec PyProof.Rows L2
section
variable {P : Program} {w : World} {K : PySem.W.Frag} {mg : Str → Option Value} {base : Heap}
abbrev NAhas_form : List Str := ["part", "parameters", "tag", "many"]
theorem scAhas_form : FnScope NAhas_form ["part", "parameters"] (defScope shas_form) := ⟨rfl, rfl, rfl, by decide +kernel, rfl, by decide +kernel, by decide +kernel⟩
theorem okA_has_form {f : Addr} {fd : FuncData} (F : Fun K "has_form" "has_form" shas_form f fd) (T : Nm K mg) (Cis_name : Cal P w K mg base 1 "is_name" ["value"] (spNameA K)) (Cis_deed_table : Cal P w K mg base 3 "is_deed_table" ["value"] (spTabA K)) : FnOk P w K mg base CX0 4 f fd ["part", "parameters"] (spFormA K) := by
  have nd := scAhas_form.nd
  refine F.ok scAhas_form (fun vs H Q E h => ?_) (fun cdv A outer s H vs Q E hr h => ?_)
  · obtain ⟨D, a, pw, z, ds, own, rfl, hd, dw, po, q⟩ := h
    rfl
  · obtain ⟨D, a, pw, z, ds, own, rfl, hd, dw, po, q⟩ := h
    skip
    refine ⟨_, (pss_cons (ps_par (i := 2) (j := 3) (by rfl) nd rfl rfl (by decide) rfl rfl (pa_cons (pe_ix ix_tup (pv 0) pe_int (fun _ _ => rfl)) (pa_cons (pe_callB call_len (by rfl) T.b_len PySem.boot_len (pa_cons (pv 0) pa_nil)) pa_nil)) (by rfl))
  (pss_cons (ps_if (pt_cmpR op_eq (pv 2) pe_str (nomark _))
  (pss_one (ps_ret (pe_and (pe_cmpR op_eq (pv 3) pe_int (nomark _)) (pe_and (pe_own Cis_name (hr.mono (by decide)) (by rfl) (pa_cons (pe_ix ix_tup (pv 0) pe_int (fun _ _ => rfl)) pa_nil)) (pe_one (pe_own Cis_deed_table (hr.mono (by decide)) (by rfl) (pa_cons (pe_ix ix_tup (pv 0) pe_int (fun _ _ => rfl)) pa_nil)))))))
  pss_nil)
  (pss_cons (ps_if (pt_cmpR op_eq (pv 2) pe_str (nomark _))
  (pss_one (ps_ret (pe_and (pe_cmpR op_eq (pv 3) pe_int (nomark _)) (pe_one (pe_cmpR (op_inP rfl hr) (pe_tup (pa_cons (pe_ix ix_tup (pv 0) pe_int (fun _ _ => rfl)) (pa_cons pe_str pa_nil))) (pv 1) (by rfl))))))
  pss_nil)
  (pss_cons (ps_if (pt_cmpR op_eq (pv 2) pe_str (nomark _))
  (pss_one (ps_ret (pe_and (pe_cmpR op_eq (pv 3) pe_int (nomark _)) (pe_one (pe_cmpR (op_inP rfl hr) (pe_tup (pa_cons (pe_ix ix_tup (pv 0) pe_int (fun _ _ => rfl)) (pa_cons pe_str pa_nil))) (pv 1) (by rfl))))))
  pss_nil)
  (pss_cons (ps_if (pt_cmpR op_in_seq (pv 2) (pe_tup (pa_cons pe_str (pa_cons pe_str pa_nil))) (by rfl))
  (pss_one (ps_ret (pe_and (pe_cmpR op_gt (pv 3) pe_int (nomark _)) (pe_one (pe_own Cis_name (hr.mono (by decide)) (by rfl) (pa_cons (pe_ix ix_tup (pv 0) pe_int (fun _ _ => rfl)) pa_nil))))))
  pss_nil)
  (pss_cons (ps_if (pt_cmpR op_eq (pv 2) pe_str (nomark _))
  (pss_one (ps_ret (pe_cmpR op_eq (pv 3) pe_int (nomark _))))
  pss_nil)
  (pss_cons (ps_if (pt_cmpR op_eq (pv 2) pe_str (nomark _))
  (pss_one (ps_ret (pe_cmpR op_gt (pv 3) pe_int (nomark _))))
  pss_nil)
  (pss_one (ps_ret (pe_cmpR op_eq (pv 2) pe_str (nomark _))))))))))), ?_⟩

    obtain ⟨a', xs', ea, sq, r0⟩ := hd.tup_inv
    cases ea
    cases r0 with
    | @cons x0 _ xs _ hz r =>
    obtain ⟨rfl, -⟩ := hz.str_inv
    have lx : xs.length = ds.length := r.len
    have eqz : ∀ y : Str, decide (V.str z = V.str y) = decide (z = y) := fun y => by
      by_cases e : z = y <;> simp [e]
    refine ⟨_, rfl, a, _, 0, _, rfl, rfl, sq, at0, _, rfl, _, _, rfl, .inr ⟨_, sq, rfl⟩, _, _, rfl, ?_⟩
    unfold formB at q
    refine ⟨_, rfl, rfl, _, rfl, ?_⟩
    rw [eqz]
    refine ite2 (fun e => ?_) (fun e => ?_)
    · rw [if_pos (of_decide_eq_true e)] at q
      refine ⟨_, rfl, rfl, _, rfl, ite2 (fun e3 => ?_) (fun e3 => ?_)⟩
      · have l2 : ds.length = 2 := by
          have : ((xs.length + 1 : Nat) : Int) = 3 := V.int.inj (of_decide_eq_true e3)
          omega
        rcases ds with _ | ⟨d1, _ | ⟨d2, _ | ⟨d3, ds⟩⟩⟩
        · cases l2
        · cases l2
        · have q : ∀ H', Same H H' → Q (.bl (nameB d1 && tabB d2)) H' := q
          cases r with
          | @cons x1 _ _ _ h1 r => cases r with
            | @cons x2 _ _ _ h2 r =>
            cases r
            refine ⟨_, rfl, a, _, 1, _, rfl, rfl, sq, at1, D, x1, d1, rfl, h1, fun H1 s1 => ?_⟩
            refine ⟨_, rfl, ite2 (fun e1 => ?_) (fun e1 => ?_)⟩
            · refine ⟨_, rfl, a, _, 2, _, rfl, rfl, Same.sqT s1 sq, at2, D, x2, d2, rfl, h2.same s1, fun H2 s2 => ?_⟩
              have q1 := q _ (s1.trans s2)
              rw [e1, Bool.true_and] at q1
              exact q1
            · have q1 := q _ s1
              have e2 := Bool.not_eq_true _ |>.mp e1
              rw [e2, Bool.false_and] at q1
              exact q1
        · cases l2
      · have l2 : ¬ ds.length = 2 := fun h => e3 (decide_eq_true (congrArg V.int (by show ((xs.length + 1 : Nat) : Int) = 3; omega)))
        rcases ds with _ | ⟨d1, _ | ⟨d2, _ | ⟨d3, ds⟩⟩⟩
        · exact q _ (.refl H)
        · exact q _ (.refl H)
        · exact absurd rfl l2
        · exact q _ (.refl H)
    rw [if_neg (fun h => e (decide_eq_true h))] at q
    refine ⟨_, rfl, rfl, _, rfl, ?_⟩
    rw [eqz]
    refine ite2 (fun e => ?_) (fun e => ?_)
    · rw [if_pos (of_decide_eq_true e)] at q
      refine ⟨_, rfl, rfl, _, rfl, ite2 (fun e3 => ?_) (fun e3 => ?_)⟩
      · have l2 : ds.length = 1 := by
          have : ((xs.length + 1 : Nat) : Int) = 2 := V.int.inj (of_decide_eq_true e3)
          omega
        rcases ds with _ | ⟨d1, _ | ⟨d2, ds⟩⟩
        · cases l2
        · cases r with
          | @cons x1 _ _ _ h1 r =>
            cases r
            refine ⟨_, rfl, a, _, 1, _, rfl, rfl, sq, at1, by show 2 ≤ sizeLine; decide, fun p np => ?_⟩
            have s1 := same_upd (o := .tup [x1, V.str "block"]) np
            exact ⟨_, rfl, D, p, x1, d1, false, own, rfl, .inl (.inl upd_same), h1.same s1, Dp.stay (.of s1) (pars_noL own) dw, po, q _ s1⟩
        · cases l2
      · have l2 : ¬ ds.length = 1 := fun h => e3 (decide_eq_true (congrArg V.int (by show ((xs.length + 1 : Nat) : Int) = 2; omega)))
        rcases ds with _ | ⟨d1, _ | ⟨d2, ds⟩⟩
        · exact q _ (.refl H)
        · exact absurd rfl l2
        · exact q _ (.refl H)
    rw [if_neg (fun h => e (decide_eq_true h))] at q
    refine ⟨_, rfl, rfl, _, rfl, ?_⟩
    rw [eqz]
    refine ite2 (fun e => ?_) (fun e => ?_)
    · rw [if_pos (of_decide_eq_true e)] at q
      refine ⟨_, rfl, rfl, _, rfl, ite2 (fun e3 => ?_) (fun e3 => ?_)⟩
      · have l2 : ds.length = 1 := by
          have : ((xs.length + 1 : Nat) : Int) = 2 := V.int.inj (of_decide_eq_true e3)
          omega
        rcases ds with _ | ⟨d1, _ | ⟨d2, ds⟩⟩
        · cases l2
        · cases r with
          | @cons x1 _ _ _ h1 r =>
            cases r
            refine ⟨_, rfl, a, _, 1, _, rfl, rfl, sq, at1, by show 2 ≤ sizeLine; decide, fun p np => ?_⟩
            have s1 := same_upd (o := .tup [x1, V.str "wrap"]) np
            exact ⟨_, rfl, D, p, x1, d1, true, own, rfl, .inl (.inl upd_same), h1.same s1, Dp.stay (.of s1) (pars_noL own) dw, po, q _ s1⟩
        · cases l2
      · have l2 : ¬ ds.length = 1 := fun h => e3 (decide_eq_true (congrArg V.int (by show ((xs.length + 1 : Nat) : Int) = 2; omega)))
        rcases ds with _ | ⟨d1, _ | ⟨d2, ds⟩⟩
        · exact q _ (.refl H)
        · exact absurd rfl l2
        · exact q _ (.refl H)
    rw [if_neg (fun h => e (decide_eq_true h))] at q
    refine ⟨_, rfl, by show 2 ≤ sizeLine; decide, fun p2 np2 => ?_⟩
    have s1 : Same H (upd H p2 (.tup ([("call" : Str), "with"].map V.str))) := same_upd np2
    refine ⟨p2, [("call" : Str), "with"].map V.str, rfl, .inr (.inl (.inl upd_same)), rfl, flat_strs _, _, rfl, ?_⟩
    rw [inV_strs]
    refine ite2 (fun e => ?_) (fun e => ?_)
    · rw [if_pos (of_decide_eq_true e)] at q
      refine ⟨_, rfl, _, _, rfl, rfl, _, rfl, ite2 (fun e3 => ?_) (fun e3 => ?_)⟩
      · have e3 : (1 : Int) < ((xs.length + 1 : Nat) : Int) := of_decide_eq_true e3
        cases r with
        | nil => exact absurd e3 (by decide)
        | @cons x1 d1 _ _ h1 r =>
          exact ⟨_, rfl, a, _, 1, _, rfl, rfl, Same.sqT s1 sq, at1, D, x1, d1, rfl, h1.same s1, fun H1 s2 => q _ (s1.trans s2)⟩
      · cases r with
        | nil => exact q _ s1
        | cons h1 r => exact absurd (decide_eq_true (by show (1 : Int) < ((_ + 1 + 1 : Nat) : Int); omega)) e3
    rw [if_neg (fun h => e (decide_eq_true h))] at q
    refine ⟨_, rfl, rfl, _, rfl, ?_⟩
    rw [eqz]
    refine ite2 (fun e => ?_) (fun e => ?_)
    · rw [if_pos (of_decide_eq_true e)] at q
      refine ⟨_, rfl, rfl, ?_⟩
      have e3 : decide (V.int (((V.str z :: xs).length : Nat) : Int) = V.int 3) = decide (ds.length = 2) := decide_eq_decide.mpr ⟨fun h => by
        have : ((xs.length + 1 : Nat) : Int) = 3 := V.int.inj h
        omega, fun h => congrArg V.int (by show ((xs.length + 1 : Nat) : Int) = 3; omega)⟩
      have q1 := q _ s1
      rw [← e3] at q1
      exact q1
    rw [if_neg (fun h => e (decide_eq_true h))] at q
    refine ⟨_, rfl, rfl, _, rfl, ?_⟩
    rw [eqz]
    refine ite2 (fun e => ?_) (fun e => ?_)
    · rw [if_pos (of_decide_eq_true e)] at q
      refine ⟨_, rfl, _, _, rfl, rfl, ?_⟩
      have e3 : decide ((1 : Int) < (((V.str z :: xs).length : Nat) : Int)) = !ds.isEmpty := by
        cases r with
        | nil => rfl
        | cons h1 r => exact decide_eq_true (by show (1 : Int) < ((_ + 1 + 1 : Nat) : Int); omega)
      have q1 := q _ s1
      rw [← e3] at q1
      exact q1
    rw [if_neg (fun h => e (decide_eq_true h))] at q
    refine ⟨_, rfl, rfl, ?_⟩
    have q1 := q _ s1
    rw [← eqz] at q1
    exact q1
end
end FS

set_option Elab.async false
set_option linter.all false
set_option maxRecDepth 100000
set_option maxHeartbeats 4000000
namespace FS
open PySem PySem.Spec PyProof.Rows L2
section
variable {P : Program} {w : World} {K : PySem.W.Frag} {mg : Str → Option Value} {base : Heap}
abbrev NAkinds_in : List Str := ["part"]
theorem scAkinds_in : FnScope NAkinds_in ["part"] (defScope skinds_in) := ⟨rfl, rfl, rfl, by decide +kernel, rfl, by decide +kernel, by decide +kernel⟩
theorem okA_kinds_in {f : Addr} {fd : FuncData} (F : Fun K "kinds_in" "kinds_in" skinds_in f fd) (T : Nm K mg) (Cparts_in : Cal P w K mg base 1 "parts_in" ["part"] (spPartsA K)) : FnOk P w K mg base CX0 3 f fd ["part"] (spKindsA K) := by
  have nd := scAkinds_in.nd
  refine F.ok scAkinds_in (fun vs H Q E h => ?_) (fun cdv A outer s H vs Q E hr h => ?_)
  · obtain ⟨a, z, xs, rfl, sq, few, q⟩ := h
    rfl
  · obtain ⟨a, z, xs, rfl, sq, few, q⟩ := h
    obtain ⟨aK, gK, sK⟩ := T.g_KINDS
    refine ⟨_, (pss_cons (ps_if (pt_cmpR op_eq (pe_ix ix_tup (pv 0) pe_int (fun _ _ => rfl)) pe_str (nomark _))
  (pss_one (ps_ret (pe_tup (pa_cons (pe_tup (pa_cons pe_str pa_nil)) (pa_cons (pe_tup (pa_cons pe_str pa_nil)) pa_nil)))))
  pss_nil)
  (pss_cons (ps_if (pt_cmpR op_in_seq (pe_ix ix_tup (pv 0) pe_int (fun _ _ => rfl)) (pe_tup (pa_cons pe_str (pa_cons pe_str pa_nil))) (by rfl))
  (pss_one (ps_ret (pe_op op_repA (pe_tup (pa_cons (pe_glob (v := .ref aK) (by rfl) gK rfl) pa_nil)) (pe_callB call_len (by rfl) T.b_len PySem.boot_len (pa_cons (pe_own Cparts_in (hr.mono (by decide)) (by rfl) (pa_cons (pv 0) pa_nil)) pa_nil)))))
  pss_nil)
  (pss_one (ps_ret (pe_op op_repA (pe_tup (pa_cons (pe_tup (pa_cons pe_str pa_nil)) pa_nil)) (pe_callB call_len (by rfl) T.b_len PySem.boot_len (pa_cons (pe_own Cparts_in (hr.mono (by decide)) (by rfl) (pa_cons (pv 0) pa_nil)) pa_nil))))))), ?_⟩

    have blk : ∀ {H p}, SqT K H p [V.str "block"] → Dp K H (.ref p) (kindsD [false]) := fun s => .tup s (.cons (.str _) .nil)
    have wrp : ∀ {H p}, SqT K H p [V.str "wrap"] → Dp K H (.ref p) (kindsD [true]) := fun s => .tup s (.cons (.str _) .nil)
    have both : ∀ {H}, Dp K H (.ref aK) (kindsD [false, true]) := fun {H} => .tup (sK H) (.cons (.str _) (.cons (.str _) .nil))
    have l1 : (partsL z xs).length ≤ 1000 := Nat.le_trans parts_len few
    refine ⟨_, rfl, a, _, 0, _, rfl, rfl, sq, at0, rfl, _, rfl, ?_⟩
    have eq1 : decide (V.str z = V.str "wrap") = decide (z = "wrap") := by
      by_cases e : z = "wrap" <;> simp [e]
    rw [eq1]
    refine ite2 (fun e5 => ?_) (fun e5 => ?_)
    · have e5 := of_decide_eq_true e5
      subst e5
      rw [allow_w] at q
      refine ⟨by show 1 ≤ sizeLine; decide, fun p1 n1 => ?_⟩
      refine ⟨by show 1 ≤ sizeLine; decide, fun p2 n2 => ?_⟩
      refine ⟨by show 2 ≤ sizeLine; decide, fun p3 n3 => ?_⟩
      have s1 := same_upd (o := .tup [V.str "wrap"]) n1
      have s2 := same_upd (o := .tup [V.str "block"]) n2
      have s3 := same_upd (o := .tup [V.ref p1, V.ref p2]) n3
      exact q _ p3 _ (s1.trans (s2.trans s3)) (.inl (.inl upd_same)) (.cons (wrp (Same.sqT (s2.trans s3) (.inl (.inl upd_same)))) (.cons (blk (Same.sqT s3 (.inl (.inl upd_same)))) .nil))
    · have e5 : z ≠ "wrap" := fun h => e5 (decide_eq_true h)
      refine ⟨_, rfl, a, _, 0, _, rfl, rfl, sq, at0, by show 2 ≤ sizeLine; decide, fun p np => ?_⟩
      have s1 : Same H (upd H p (.tup ([("call" : Str), "with"].map V.str))) := same_upd np
      refine ⟨p, [("call" : Str), "with"].map V.str, rfl, .inr (.inl (.inl upd_same)), rfl, flat_strs _, _, rfl, ?_⟩
      rw [inV_strs]
      refine ite2 (fun e2 => ?_) (fun e2 => ?_)
      · rw [allow_b e5 (of_decide_eq_true e2)] at q
        refine ⟨by show 1 ≤ sizeLine; decide, fun p1 n1 => ?_⟩
        have s2 := s1.trans (same_upd (o := .tup [V.ref aK]) n1)
        refine ⟨_, rfl, a, z, xs, rfl, Same.sqT s2 sq, fun H2 p2 s3 sq2 => ?_⟩
        refine ⟨_, _, rfl, .inr ⟨_, sq2, rfl⟩, ?_⟩
        refine ⟨p1, (partsL z xs).length, [V.ref aK], rfl, rfl, Same.sqT s3 (.inl (.inl upd_same)), List.cons_ne_nil _ _, l1, by show 1 ≤ 1000; decide, fun p4 H4 s4 sq4 => q _ p4 _ (s2.trans (s3.trans s4)) sq4 ?_⟩
        rw [rep_flat, List.map_replicate]
        exact DpAll.rep both _
      · rw [allow_c e5 (fun h => e2 (decide_eq_true h))] at q
        refine ⟨by show 1 ≤ sizeLine; decide, fun p0 n0 => ?_⟩
        have s2 := s1.trans (same_upd (o := .tup [V.str "block"]) n0)
        refine ⟨by show 1 ≤ sizeLine; decide, fun p1 n1 => ?_⟩
        have s2b := same_upd (o := .tup [V.ref p0]) n1
        have s3 := s2.trans s2b
        refine ⟨_, rfl, a, z, xs, rfl, Same.sqT s3 sq, fun H2 p2 s4 sq2 => ?_⟩
        refine ⟨_, _, rfl, .inr ⟨_, sq2, rfl⟩, ?_⟩
        refine ⟨p1, (partsL z xs).length, [V.ref p0], rfl, rfl, Same.sqT s4 (.inl (.inl upd_same)), List.cons_ne_nil _ _, l1, by show 1 ≤ 1000; decide, fun p4 H4 s5 sq4 => q _ p4 _ (s3.trans (s4.trans s5)) sq4 ?_⟩
        have b := blk (H := H4) (p := p0) (Same.sqT (s2b.trans (s4.trans s5)) (.inl (.inl upd_same)))
        rw [rep_flat, List.map_replicate]
        exact DpAll.rep b _
end
end FS

set_option Elab.async false
set_option linter.all false
set_option maxRecDepth 100000
set_option maxHeartbeats 4000000
namespace FS
open PySem PySem.Spec PyProof.Rows L2
section
variable {P : Program} {w : World} {K : PySem.W.Frag} {mg : Str → Option Value} {base : Heap}
abbrev NAkind_of : List Str := ["value"]
theorem scAkind_of : FnScope NAkind_of ["value"] (defScope skind_of) := ⟨rfl, rfl, rfl, by decide +kernel, rfl, by decide +kernel, by decide +kernel⟩
theorem okA_kind_of {f : Addr} {fd : FuncData} (F : Fun K "kind_of" "kind_of" skind_of f fd) (T : Nm K mg) : FnOk P w K mg base CX0 2 f fd ["value"] (spKindA K) := by
  have nd := scAkind_of.nd
  refine F.ok scAkind_of (fun vs H Q E h => ?_) (fun cdv A outer s H vs Q E hr h => ?_)
  · obtain ⟨D, v, d, rfl, hd, q⟩ := h
    rfl
  · obtain ⟨D, v, d, rfl, hd, q⟩ := h
    obtain ⟨aT, gT, sT⟩ := T.g_TERM_TAGS
    obtain ⟨aW, gW, sW⟩ := T.g_WRAP_TAGS
    refine ⟨_, (pss_cons (ps_if (PW.pt (pw_or (pt_not (pt_val (pe_callB call_isi (by rfl) T.b_isinstance (by decide +kernel) (pa_cons (pv 0) (pa_cons (pe_bltn (v := .ty "tuple") (by rfl) T.b_tuple (by decide +kernel) rfl) pa_nil))))) (pw_or1 (pt_cmpR (op_eq0 rfl hr) (pv 0) (pe_tup pa_nil) (nomark _)))))
  (pss_one (ps_ret pe_non))
  pss_nil)
  (pss_cons (ps_if (pt_cmpR (op_inA rfl hr) (pe_ix ix_tup (pv 0) pe_int (fun _ _ => rfl)) (pe_glob (v := .ref aT) (by rfl) gT rfl) (by rfl))
  (pss_one (ps_ret pe_str))
  pss_nil)
  (pss_cons (ps_if (pt_cmpR (op_inA rfl hr) (pe_ix ix_tup (pv 0) pe_int (fun _ _ => rfl)) (pe_glob (v := .ref aW) (by rfl) gW rfl) (by rfl))
  (pss_one (ps_ret pe_str))
  pss_nil)
  (pss_one (ps_ret pe_non))))), ?_⟩

    cases hd with
    | @tup a xs ds sq r =>
      refine ⟨_, rfl, _, _, _, _, true, rfl, .ty "tuple", ty_tup sq, kit_ty (by decide +kernel), true, rfl, iteF ?_⟩
      refine ⟨_, rfl, Nat.zero_le _, fun p np => ?_⟩
      have s1 : Same H (upd H p (.tup [])) := same_upd np
      refine ⟨a, p, xs, rfl, rfl, Same.sqT s1 sq, .inl (.inl upd_same), _, rfl, ?_⟩
      generalize upd H p (.tup []) = H1 at s1 ⊢
      cases r with
      | nil => exact iteT (q _ s1)
      | @cons x d vs es hx r =>
        refine iteF ?_
        have q : ∀ H', Same H H' → Q (match kindZ d with | some b => .str (kd b) | none => .non) H' := q
        refine ⟨_, rfl, a, _, 0, _, rfl, rfl, Same.sqT s1 sq, at0, D, d, aT, _, hx.same s1, rfl, sT _, _, rfl, ?_⟩
        unfold kindZ at q
        refine ite2 (fun (e : (["do", "seq", "or", "run", "call", "wrap"] : List Str).any d.eqS = true) => ?_) (fun (e : ¬ (["do", "seq", "or", "run", "call", "wrap"] : List Str).any d.eqS = true) => ?_)
        · rw [if_pos e] at q
          exact q _ s1
        · rw [if_neg e] at q
          refine ⟨_, rfl, a, _, 0, _, rfl, rfl, Same.sqT s1 sq, at0, D, d, aW, _, hx.same s1, rfl, sW _, _, rfl, ?_⟩
          refine ite2 (fun (e : (["own", "with"] : List Str).any d.eqS = true) => ?_) (fun (e : ¬ (["own", "with"] : List Str).any d.eqS = true) => ?_)
          · rw [if_pos e] at q
            exact q _ s1
          · rw [if_neg e] at q
            exact q _ s1
    | non => exact ⟨_, rfl, _, _, _, _, false, rfl, .ty "tuple", .base .non, kit_ty (show kitB "NoneType" "tuple" = some false by decide +kernel), false, rfl, iteT (q H (.refl H))⟩
    | bl b => exact ⟨_, rfl, _, _, _, _, false, rfl, .ty "tuple", .base (.bl b), kit_ty (show kitB "bool" "tuple" = some false by decide +kernel), false, rfl, iteT (q H (.refl H))⟩
    | int i => exact ⟨_, rfl, _, _, _, _, false, rfl, .ty "tuple", .base (.int i), kit_ty (show kitB "int" "tuple" = some false by decide +kernel), false, rfl, iteT (q H (.refl H))⟩
    | str z l => exact ⟨_, rfl, _, _, _, _, false, rfl, .ty "tuple", .base (.str z), kit_ty (show kitB "str" "tuple" = some false by decide +kernel), false, rfl, iteT (q H (.refl H))⟩
    | lst n e => exact ⟨_, rfl, _, _, _, _, false, rfl, .ty "tuple", .base (.lst e), kit_ty (show kitB "list" "tuple" = some false by decide +kernel), false, rfl, iteT (q H (.refl H))⟩
    | dct n e => exact ⟨_, rfl, _, _, _, _, false, rfl, .ty "tuple", .base (.dK e), kit_ty (show kitB "dict" "tuple" = some false by decide +kernel), false, rfl, iteT (q H (.refl H))⟩
end
end FS

set_option Elab.async false
set_option linter.all false
set_option maxRecDepth 100000
set_option maxHeartbeats 4000000
namespace FS
open PySem PySem.Spec PyProof.Rows L2
section
variable {P : Program} {w : World} {K : PySem.W.Frag} {mg : Str → Option Value} {base : Heap}
abbrev N_law_odd_one : List Str := ["_law_die", "_law_some"]
theorem sc_law_odd_one : FnScope N_law_odd_one ["_law_die"] (defScope s_law_odd_one) := ⟨rfl, rfl, rfl, by decide +kernel, rfl, by decide +kernel, by decide +kernel⟩
theorem ok_l_odd_one {f : Addr} {fd : FuncData} (F : Fun K "_law_odd_one" "_law_odd_one" s_law_odd_one f fd) (T : Nm K mg) (Cl_pick : Cal P w K mg base 2 "_law_pick" ["_law_die", "_law_items"] (spPick K)) : FnOk P w K mg base CX0 3 f fd ["_law_die"] (spOddA K) := by
  have nd := sc_law_odd_one.nd
  refine F.ok sc_law_odd_one (fun vs H Q E h => ?_) (fun cdv A outer s H vs Q E hr h => ?_)
  · obtain ⟨a, rfl, d, q⟩ := h
    rfl
  · obtain ⟨a, rfl, d, q⟩ := h
    skip
    refine ⟨_, (pss_cons (ps_set (i := 1) nd rfl (Or.inl rfl) (pe_lst (pa_cons pe_non (pa_cons pe_int (pa_cons pe_int (pa_cons pe_int (pa_cons pe_int (pa_cons (pe_un un_neg pe_int) (pa_cons pe_bl (pa_cons pe_bl (pa_cons pe_str (pa_cons pe_str (pa_cons pe_str (pa_cons pe_str (pa_cons (pe_tup pa_nil) (pa_cons (pe_tup (pa_cons pe_int pa_nil)) (pa_cons (pe_tup (pa_cons pe_int (pa_cons pe_int pa_nil))) (pa_cons (pe_tup (pa_cons pe_str pa_nil)) (pa_cons (pe_lst (pa_cons pe_int pa_nil)) (pa_cons pe_dnewK (pa_cons pe_str pa_nil)))))))))))))))))))))
  (pss_cons (ps_set (i := 1) nd rfl (Or.inl rfl) (pe_op op_cat (pv 1) (pe_lst (pa_cons (pe_op op_pow pe_int pe_int) (pa_cons (pe_tup (pa_cons pe_non pa_nil)) (pa_cons (pe_tup (pa_cons pe_str (pa_cons pe_str pa_nil))) (pa_cons (pe_tup (pa_cons pe_str (pa_cons pe_str pa_nil))) (pa_cons (pe_tup (pa_cons pe_str (pa_cons pe_str pa_nil))) (pa_cons (pe_tup (pa_cons pe_str (pa_cons pe_str pa_nil))) (pa_cons (pe_lst (pa_cons pe_str pa_nil)) (pa_cons (pe_tup (pa_cons pe_str pa_nil)) pa_nil)))))))))))
  (pss_one (ps_ret (pe_own Cl_pick (hr.mono (by decide)) (by rfl) (pa_cons (pv 0) (pa_cons (pv 1) pa_nil))))))), ?_⟩

    have one : (1:Nat) ≤ sizeLine := by decide
    have two : (2:Nat) ≤ sizeLine := by decide
    have k0 : OLA K H a [] := .nil
    have g0 : Go a H H := .refl d
    refine ⟨_, rfl, Nat.zero_le _, fun p1 n1 => ?_⟩
    generalize h1 : upd _ p1 _ = H1
    obtain ⟨g1, k1, -, -, -⟩ := oaT h1 g0 k0 n1 (by decide +kernel) (by decide)
    clear h1 n1 g0 k0
    refine ⟨one, fun p2 n2 => ?_⟩
    generalize h2 : upd _ p2 _ = H2
    obtain ⟨g2, k2, -, -, -⟩ := oaT h2 g1 k1 n2 (by decide +kernel) (by decide)
    clear h2 n2 g1 k1
    refine ⟨two, fun p3 n3 => ?_⟩
    generalize h3 : upd _ p3 _ = H3
    obtain ⟨g3, k3, -, -, -⟩ := oaT h3 g2 k2 n3 (by decide +kernel) (by decide)
    clear h3 n3 g2 k2
    refine ⟨one, fun p4 n4 => ?_⟩
    generalize h4 : upd _ p4 _ = H4
    obtain ⟨g4, k4, -, -, -⟩ := oaT h4 g3 k3 n4 (by decide +kernel) (by decide)
    clear h4 n4 g3 k3
    refine ⟨one, fun p5 n5 => ?_⟩
    generalize h5 : upd _ p5 _ = H5
    obtain ⟨g5, k5, -, -, -⟩ := oaL h5 g4 k4 n5
    clear h5 n5 g4 k4
    intro p6 n6
    generalize h6 : upd _ p6 _ = H6
    obtain ⟨g6, k6, -, -, -⟩ := oaD h6 g5 k5 n6
    clear h6 n6 g5 k5
    refine ⟨(by show 19 ≤ sizeLine; decide), fun p7 n7 => ?_⟩
    generalize h7 : upd _ p7 _ = H7
    obtain ⟨g7, k7, -, el, nl⟩ := oaL h7 g6 k6 n7
    have gs : Go a H7 H7 := .refl g7.2
    clear h7 n7 g6 k6
    refine ⟨_, rfl, _, _, rfl, rfl, ⟨by decide, by decide, by decide⟩, one, fun p8 n8 => ?_⟩
    generalize h8 : upd _ p8 _ = H8
    obtain ⟨g8, k8, gn, -, -⟩ := oaT h8 g7 k7 n8 (by decide +kernel) (by decide)
    replace gs := gs.trans gn
    clear h8 n8 g7 k7 gn
    refine ⟨two, fun p9 n9 => ?_⟩
    generalize h9 : upd _ p9 _ = H9
    obtain ⟨g9, k9, gn, -, -⟩ := oaT h9 g8 k8 n9 (by decide +kernel) (by decide)
    replace gs := gs.trans gn
    clear h9 n9 g8 k8 gn
    refine ⟨two, fun p10 n10 => ?_⟩
    generalize h10 : upd _ p10 _ = H10
    obtain ⟨g10, k10, gn, -, -⟩ := oaT h10 g9 k9 n10 (by decide +kernel) (by decide)
    replace gs := gs.trans gn
    clear h10 n10 g9 k9 gn
    refine ⟨two, fun p11 n11 => ?_⟩
    generalize h11 : upd _ p11 _ = H11
    obtain ⟨g11, k11, gn, -, -⟩ := oaT h11 g10 k10 n11 (by decide +kernel) (by decide)
    replace gs := gs.trans gn
    clear h11 n11 g10 k10 gn
    refine ⟨two, fun p12 n12 => ?_⟩
    generalize h12 : upd _ p12 _ = H12
    obtain ⟨g12, k12, gn, -, -⟩ := oaT h12 g11 k11 n12 (by decide +kernel) (by decide)
    replace gs := gs.trans gn
    clear h12 n12 g11 k11 gn
    refine ⟨one, fun p13 n13 => ?_⟩
    generalize h13 : upd _ p13 _ = H13
    obtain ⟨g13, k13, gn, -, -⟩ := oaL h13 g12 k12 n13
    replace gs := gs.trans gn
    clear h13 n13 g12 k12 gn
    refine ⟨one, fun p14 n14 => ?_⟩
    generalize h14 : upd _ p14 _ = H14
    obtain ⟨g14, k14, gn, -, -⟩ := oaT h14 g13 k13 n14 (by decide +kernel) (by decide)
    replace gs := gs.trans gn
    clear h14 n14 g13 k13 gn
    refine ⟨(by show 8 ≤ sizeLine; decide), fun p15 n15 => ?_⟩
    generalize h15 : upd _ p15 _ = H15
    obtain ⟨g15, k15, gn, el2, nl2⟩ := oaL h15 g14 k14 n15
    replace gs := gs.trans gn
    clear h15 n15 g14 k14 gn
    refine ⟨p7, p15, _, _, rfl, rfl, gs.1 _ _ nl el, el2, (by show 27 ≤ sizeLine; decide), fun p16 n16 => ?_⟩
    generalize h16 : upd _ p16 _ = H16
    obtain ⟨g16, k16, -, el3, nl3⟩ := oaL h16 g15 k15 n16
    refine ⟨_, rfl, _, rfl, a, p16, _, g16.2, rfl, .inl (.inl el3), nl3, List.cons_ne_nil _ _, (by show 27 < 1000; decide), fun v H' hv g _ => ?_⟩
    refine q v H' (g16.trans g) (OddA.go g16.2 g ?_)
    clear q g h16
    simp only [List.cons_append, List.nil_append, List.mem_cons, List.not_mem_nil, or_false] at hv
    rcases hv with rfl | rfl | rfl | rfl | rfl | rfl | rfl | rfl | rfl | rfl | rfl | rfl | rfl | rfl | rfl | rfl | rfl | rfl | rfl | rfl | rfl | rfl | rfl | rfl | rfl | rfl | rfl
    all_goals first | exact .smp (by decide +kernel) | exact .smp rfl | exact k16 _ (by simp)
end
end FS

set_option Elab.async false
set_option linter.all false
set_option maxRecDepth 100000
set_option maxHeartbeats 8000000
namespace FS
open PySem PySem.Spec PyProof.Rows L2 LamX
theorem kit_self {K : PySem.W.Frag} {C : Addr} : PySem.W.kitOne K (.ref C) (.ref C) = some true := by
  unfold PySem.W.kitOne
  rw [if_pos (by simp)]
theorem exm_own {K : PySem.W.Frag} {S : Addr} (b : PySem.W.subIn K (.ref S) (.type "BaseException") = some true) (i : PySem.W.isClsIn K S = true) (t : PySem.W.typeIn K (.ref S) = some (.type "type")) (s : PySem.W.subIn K (.ref S) (.ref S) = some true) : PySem.W.exmOne K (.ref S) (.ref S) = some true := by
  unfold PySem.W.exmOne
  rw [if_pos (by rw [b]; rfl)]
  have h2 : ((PySem.W.clsIn K S).isSome && PySem.W.typeIn K (.ref S) == some (.type "type")) = true := by
    rw [show (PySem.W.clsIn K S).isSome = true from i, t] <;> rfl
  show (if ((PySem.W.clsIn K S).isSome && PySem.W.typeIn K (.ref S) == some (.type "type")) = true then PySem.W.subIn K (.ref S) (.ref S) else none) = some true
  rw [if_pos h2]
  exact s
theorem all_mk {l : PySem.W.OpenLaw} {w : World} {K : PySem.W.Frag} {h : Heap} {mg : Str → Option Value} {fa C CI cR PR aK aT aW f1 f2 f3 f4 f5 f6 f7 f8 f9 f10 f11 f12 f13 f14 f15 f16 f17 f18 f19 f20 f21 f22 f23 f24 f25 f26 f27 f28 f29 f30 f31 f32 f33 f34 f35 f36 p_Procedurebody : Addr} (X : K.In h) (G : h.Ns mainGlobals mg) (hfa : mg "law" = some (.ref fa))
    {od1 an1 od2 an2 od3 an3 od4 an4 od5 an5 od6 an6 od7 an7 od8 an8 od9 an9 od10 an10 od11 an11 od12 an12 od13 an13 od14 an14 od15 an15 od16 an16 od17 an17 od18 an18 od19 an19 od20 an20 od21 an21 od22 an22 od23 an23 od24 an24 od25 an25 od26 an26 od27 an27 od28 an28 od29 an29 od30 an30 od31 an31 od32 an32 od33 an33 od34 an34 od35 an35 od36 an36 : Option Addr} {sl1 sl2 sl3 sl4 sl5 sl6 sl7 sl8 sl9 sl10 sl11 sl12 sl13 sl14 sl15 sl16 sl17 sl18 sl19 sl20 sl21 sl22 sl23 sl24 sl25 sl26 sl27 sl28 sl29 sl30 sl31 sl32 sl33 sl34 sl35 sl36 : Array (Option Value)} {oc1 kV1 dc1 pm1 cd1 ct1 oc2 kV2 dc2 pm2 cd2 ct2 oc3 kV3 dc3 pm3 cd3 ct3 oc4 kV4 dc4 pm4 cd4 ct4 oc5 kV5 dc5 pm5 cd5 ct5 oc6 kV6 dc6 pm6 cd6 ct6 oc7 kV7 dc7 pm7 cd7 ct7 oc8 kV8 dc8 pm8 cd8 ct8 oc9 kV9 dc9 pm9 cd9 ct9 oc10 kV10 dc10 pm10 cd10 ct10 oc11 kV11 dc11 pm11 cd11 ct11 oc12 kV12 dc12 pm12 cd12 ct12 oc13 kV13 dc13 pm13 cd13 ct13 oc14 kV14 dc14 pm14 cd14 ct14 oc15 kV15 dc15 pm15 cd15 ct15 oc16 kV16 dc16 pm16 cd16 ct16 oc17 kV17 dc17 pm17 cd17 ct17 oc18 kV18 dc18 pm18 cd18 ct18 oc19 kV19 dc19 pm19 cd19 ct19 oc20 kV20 dc20 pm20 cd20 ct20 oc21 kV21 dc21 pm21 cd21 ct21 oc22 kV22 dc22 pm22 cd22 ct22 oc23 kV23 dc23 pm23 cd23 ct23 oc24 kV24 dc24 pm24 cd24 ct24 oc25 kV25 dc25 pm25 cd25 ct25 oc26 kV26 dc26 pm26 cd26 ct26 oc27 kV27 dc27 pm27 cd27 ct27 oc28 kV28 dc28 pm28 cd28 ct28 oc29 kV29 dc29 pm29 cd29 ct29 oc30 kV30 dc30 pm30 cd30 ct30 oc31 kV31 dc31 pm31 cd31 ct31 oc32 kV32 dc32 pm32 ct32 oc33 kV33 dc33 pm33 cd33 ct33 oc34 kV34 dc34 pm34 cd34 ct34 oc35 kV35 dc35 pm35 cd35 ct35 oc36 kV36 dc36 pm36 cd36 ct36 : Value}
    {t_MAX_LETTERS t_MAX_MODES t_MAX_PARAMETERS t_MAX_DEPTH t_MAX_TERMS t_KINDS0 t_KINDS1 t_TERM_TAGS0 t_TERM_TAGS1 t_TERM_TAGS2 t_TERM_TAGS3 t_TERM_TAGS4 t_TERM_TAGS5 t_WRAP_TAGS0 t_WRAP_TAGS1 : Tok} {d_KINDS d_TERM_TAGS d_WRAP_TAGS : Option Addr} {n_KINDS n_TERM_TAGS n_WRAP_TAGS : Nat} {z_KINDS z_TERM_TAGS z_WRAP_TAGS : Array (Option Value)} {rp_Procedurebody : List Value}
    (a1 : PySem.W.nsIn K mainGlobals "is_integer_in" = some (some (.ref f1)))
    (l1 : K.lookup f1 = some ⟨oc1, od1, .func (PySem.W.fnOf "is_integer_in" "is_integer_in" (defArgs sis_integer_in) (defBody sis_integer_in) (defScope sis_integer_in) .none kV1 dc1 pm1 an1 cd1 ct1), sl1⟩)
    (c1 : PySem.W.codeIn K cd1 "is_integer_in" = true)
    (k1 : PySem.W.keepIn K (.ref f1) = true)
    (a2 : PySem.W.nsIn K mainGlobals "is_name" = some (some (.ref f2)))
    (l2 : K.lookup f2 = some ⟨oc2, od2, .func (PySem.W.fnOf "is_name" "is_name" (defArgs sis_name) (defBody sis_name) (defScope sis_name) .none kV2 dc2 pm2 an2 cd2 ct2), sl2⟩)
    (c2 : PySem.W.codeIn K cd2 "is_name" = true)
    (k2 : PySem.W.keepIn K (.ref f2) = true)
    (a3 : PySem.W.nsIn K mainGlobals "kind_of" = some (some (.ref f3)))
    (l3 : K.lookup f3 = some ⟨oc3, od3, .func (PySem.W.fnOf "kind_of" "kind_of" (defArgs skind_of) (defBody skind_of) (defScope skind_of) .none kV3 dc3 pm3 an3 cd3 ct3), sl3⟩)
    (c3 : PySem.W.codeIn K cd3 "kind_of" = true)
    (k3 : PySem.W.keepIn K (.ref f3) = true)
    (a4 : PySem.W.nsIn K mainGlobals "parts_in" = some (some (.ref f4)))
    (l4 : K.lookup f4 = some ⟨oc4, od4, .func (PySem.W.fnOf "parts_in" "parts_in" (defArgs sparts_in) (defBody sparts_in) (defScope sparts_in) .none kV4 dc4 pm4 an4 cd4 ct4), sl4⟩)
    (c4 : PySem.W.codeIn K cd4 "parts_in" = true)
    (k4 : PySem.W.keepIn K (.ref f4) = true)
    (a5 : PySem.W.nsIn K mainGlobals "kinds_in" = some (some (.ref f5)))
    (l5 : K.lookup f5 = some ⟨oc5, od5, .func (PySem.W.fnOf "kinds_in" "kinds_in" (defArgs skinds_in) (defBody skinds_in) (defScope skinds_in) .none kV5 dc5 pm5 an5 cd5 ct5), sl5⟩)
    (c5 : PySem.W.codeIn K cd5 "kinds_in" = true)
    (k5 : PySem.W.keepIn K (.ref f5) = true)
    (a6 : PySem.W.nsIn K mainGlobals "all_parts" = some (some (.ref f6)))
    (l6 : K.lookup f6 = some ⟨oc6, od6, .func (PySem.W.fnOf "all_parts" "all_parts" (defArgs sall_parts) (defBody sall_parts) (defScope sall_parts) .none kV6 dc6 pm6 an6 cd6 ct6), sl6⟩)
    (c6 : PySem.W.codeIn K cd6 "all_parts" = true)
    (k6 : PySem.W.keepIn K (.ref f6) = true)
    (a7 : PySem.W.nsIn K mainGlobals "is_deed_table" = some (some (.ref f7)))
    (l7 : K.lookup f7 = some ⟨oc7, od7, .func (PySem.W.fnOf "is_deed_table" "is_deed_table" (defArgs sis_deed_table) (defBody sis_deed_table) (defScope sis_deed_table) .none kV7 dc7 pm7 an7 cd7 ct7), sl7⟩)
    (c7 : PySem.W.codeIn K cd7 "is_deed_table" = true)
    (k7 : PySem.W.keepIn K (.ref f7) = true)
    (a8 : PySem.W.nsIn K mainGlobals "has_form" = some (some (.ref f8)))
    (l8 : K.lookup f8 = some ⟨oc8, od8, .func (PySem.W.fnOf "has_form" "has_form" (defArgs shas_form) (defBody shas_form) (defScope shas_form) .none kV8 dc8 pm8 an8 cd8 ct8), sl8⟩)
    (c8 : PySem.W.codeIn K cd8 "has_form" = true)
    (k8 : PySem.W.keepIn K (.ref f8) = true)
    (a9 : PySem.W.nsIn K mainGlobals "is_parameter" = some (some (.ref f9)))
    (l9 : K.lookup f9 = some ⟨oc9, od9, .func (PySem.W.fnOf "is_parameter" "is_parameter" (defArgs sis_parameter) (defBody sis_parameter) (defScope sis_parameter) .none kV9 dc9 pm9 an9 cd9 ct9), sl9⟩)
    (c9 : PySem.W.codeIn K cd9 "is_parameter" = true)
    (k9 : PySem.W.keepIn K (.ref f9) = true)
    (a10 : PySem.W.nsIn K mainGlobals "are_parameters" = some (some (.ref f10)))
    (l10 : K.lookup f10 = some ⟨oc10, od10, .func (PySem.W.fnOf "are_parameters" "are_parameters" (defArgs sare_parameters) (defBody sare_parameters) (defScope sare_parameters) .none kV10 dc10 pm10 an10 cd10 ct10), sl10⟩)
    (c10 : PySem.W.codeIn K cd10 "are_parameters" = true)
    (k10 : PySem.W.keepIn K (.ref f10) = true)
    (a11 : PySem.W.nsIn K mainGlobals "is_term" = some (some (.ref f11)))
    (l11 : K.lookup f11 = some ⟨oc11, od11, .func (PySem.W.fnOf "is_term" "is_term" (defArgs sis_term) (defBody sis_term) (defScope sis_term) .none kV11 dc11 pm11 an11 cd11 ct11), sl11⟩)
    (c11 : PySem.W.codeIn K cd11 "is_term" = true)
    (k11 : PySem.W.keepIn K (.ref f11) = true)
    (a12 : PySem.W.nsIn K mainGlobals "_law_numbers" = some (some (.ref f12)))
    (l12 : K.lookup f12 = some ⟨oc12, od12, .func (PySem.W.fnOf "_law_numbers" "_law_numbers" (defArgs s_law_numbers) (defBody s_law_numbers) (defScope s_law_numbers) .none kV12 dc12 pm12 an12 cd12 ct12), sl12⟩)
    (c12 : PySem.W.codeIn K cd12 "_law_numbers" = true)
    (k12 : PySem.W.keepIn K (.ref f12) = true)
    (a13 : PySem.W.nsIn K mainGlobals "_law_cast" = some (some (.ref f13)))
    (l13 : K.lookup f13 = some ⟨oc13, od13, .func (PySem.W.fnOf "_law_cast" "_law_cast" (defArgs s_law_cast) (defBody s_law_cast) (defScope s_law_cast) .none kV13 dc13 pm13 an13 cd13 ct13), sl13⟩)
    (c13 : PySem.W.codeIn K cd13 "_law_cast" = true)
    (k13 : PySem.W.keepIn K (.ref f13) = true)
    (a14 : PySem.W.nsIn K mainGlobals "_law_pick" = some (some (.ref f14)))
    (l14 : K.lookup f14 = some ⟨oc14, od14, .func (PySem.W.fnOf "_law_pick" "_law_pick" (defArgs s_law_pick) (defBody s_law_pick) (defScope s_law_pick) .none kV14 dc14 pm14 an14 cd14 ct14), sl14⟩)
    (c14 : PySem.W.codeIn K cd14 "_law_pick" = true)
    (k14 : PySem.W.keepIn K (.ref f14) = true)
    (a15 : PySem.W.nsIn K mainGlobals "_law_shuffle" = some (some (.ref f15)))
    (l15 : K.lookup f15 = some ⟨oc15, od15, .func (PySem.W.fnOf "_law_shuffle" "_law_shuffle" (defArgs s_law_shuffle) (defBody s_law_shuffle) (defScope s_law_shuffle) .none kV15 dc15 pm15 an15 cd15 ct15), sl15⟩)
    (c15 : PySem.W.codeIn K cd15 "_law_shuffle" = true)
    (k15 : PySem.W.keepIn K (.ref f15) = true)
    (a16 : PySem.W.nsIn K mainGlobals "_law_bent_tuple" = some (some (.ref f16)))
    (l16 : K.lookup f16 = some ⟨oc16, od16, .func (PySem.W.fnOf "_law_bent_tuple" "_law_bent_tuple" (defArgs s_law_bent_tuple) (defBody s_law_bent_tuple) (defScope s_law_bent_tuple) .none kV16 dc16 pm16 an16 cd16 ct16), sl16⟩)
    (c16 : PySem.W.codeIn K cd16 "_law_bent_tuple" = true)
    (k16 : PySem.W.keepIn K (.ref f16) = true)
    (a17 : PySem.W.nsIn K mainGlobals "_law_is_word" = some (some (.ref f17)))
    (l17 : K.lookup f17 = some ⟨oc17, od17, .func (PySem.W.fnOf "_law_is_word" "_law_is_word" (defArgs s_law_is_word) (defBody s_law_is_word) (defScope s_law_is_word) .none kV17 dc17 pm17 an17 cd17 ct17), sl17⟩)
    (c17 : PySem.W.codeIn K cd17 "_law_is_word" = true)
    (k17 : PySem.W.keepIn K (.ref f17) = true)
    (a18 : PySem.W.nsIn K mainGlobals "_law_is_number" = some (some (.ref f18)))
    (l18 : K.lookup f18 = some ⟨oc18, od18, .func (PySem.W.fnOf "_law_is_number" "_law_is_number" (defArgs s_law_is_number) (defBody s_law_is_number) (defScope s_law_is_number) .none kV18 dc18 pm18 an18 cd18 ct18), sl18⟩)
    (c18 : PySem.W.codeIn K cd18 "_law_is_number" = true)
    (k18 : PySem.W.keepIn K (.ref f18) = true)
    (a19 : PySem.W.nsIn K mainGlobals "_law_odd_one" = some (some (.ref f19)))
    (l19 : K.lookup f19 = some ⟨oc19, od19, .func (PySem.W.fnOf "_law_odd_one" "_law_odd_one" (defArgs s_law_odd_one) (defBody s_law_odd_one) (defScope s_law_odd_one) .none kV19 dc19 pm19 an19 cd19 ct19), sl19⟩)
    (c19 : PySem.W.codeIn K cd19 "_law_odd_one" = true)
    (k19 : PySem.W.keepIn K (.ref f19) = true)
    (a20 : PySem.W.nsIn K mainGlobals "_law_own_names" = some (some (.ref f20)))
    (l20 : K.lookup f20 = some ⟨oc20, od20, .func (PySem.W.fnOf "_law_own_names" "_law_own_names" (defArgs s_law_own_names) (defBody s_law_own_names) (defScope s_law_own_names) .none kV20 dc20 pm20 an20 cd20 ct20), sl20⟩)
    (c20 : PySem.W.codeIn K cd20 "_law_own_names" = true)
    (k20 : PySem.W.keepIn K (.ref f20) = true)
    (a21 : PySem.W.nsIn K mainGlobals "_law_is_piece" = some (some (.ref f21)))
    (l21 : K.lookup f21 = some ⟨oc21, od21, .func (PySem.W.fnOf "_law_is_piece" "_law_is_piece" (defArgs s_law_is_piece) (defBody s_law_is_piece) (defScope s_law_is_piece) .none kV21 dc21 pm21 an21 cd21 ct21), sl21⟩)
    (c21 : PySem.W.codeIn K cd21 "_law_is_piece" = true)
    (k21 : PySem.W.keepIn K (.ref f21) = true)
    (a22 : PySem.W.nsIn K mainGlobals "_law_all_in" = some (some (.ref f22)))
    (l22 : K.lookup f22 = some ⟨oc22, od22, .func (PySem.W.fnOf "_law_all_in" "_law_all_in" (defArgs s_law_all_in) (defBody s_law_all_in) (defScope s_law_all_in) .none kV22 dc22 pm22 an22 cd22 ct22), sl22⟩)
    (c22 : PySem.W.codeIn K cd22 "_law_all_in" = true)
    (k22 : PySem.W.keepIn K (.ref f22) = true)
    (a23 : PySem.W.nsIn K mainGlobals "_law_are_parameters" = some (some (.ref f23)))
    (l23 : K.lookup f23 = some ⟨oc23, od23, .func (PySem.W.fnOf "_law_are_parameters" "_law_are_parameters" (defArgs s_law_are_parameters) (defBody s_law_are_parameters) (defScope s_law_are_parameters) .none kV23 dc23 pm23 an23 cd23 ct23), sl23⟩)
    (c23 : PySem.W.codeIn K cd23 "_law_are_parameters" = true)
    (k23 : PySem.W.keepIn K (.ref f23) = true)
    (a24 : PySem.W.nsIn K mainGlobals "_law_any_deed" = some (some (.ref f24)))
    (l24 : K.lookup f24 = some ⟨oc24, od24, .func (PySem.W.fnOf "_law_any_deed" "_law_any_deed" (defArgs s_law_any_deed) (defBody s_law_any_deed) (defScope s_law_any_deed) .none kV24 dc24 pm24 an24 cd24 ct24), sl24⟩)
    (c24 : PySem.W.codeIn K cd24 "_law_any_deed" = true)
    (k24 : PySem.W.keepIn K (.ref f24) = true)
    (a25 : PySem.W.nsIn K mainGlobals "_law_any_given" = some (some (.ref f25)))
    (l25 : K.lookup f25 = some ⟨oc25, od25, .func (PySem.W.fnOf "_law_any_given" "_law_any_given" (defArgs s_law_any_given) (defBody s_law_any_given) (defScope s_law_any_given) .none kV25 dc25 pm25 an25 cd25 ct25), sl25⟩)
    (c25 : PySem.W.codeIn K cd25 "_law_any_given" = true)
    (k25 : PySem.W.keepIn K (.ref f25) = true)
    (a26 : PySem.W.nsIn K mainGlobals "_law_any_wrap" = some (some (.ref f26)))
    (l26 : K.lookup f26 = some ⟨oc26, od26, .func (PySem.W.fnOf "_law_any_wrap" "_law_any_wrap" (defArgs s_law_any_wrap) (defBody s_law_any_wrap) (defScope s_law_any_wrap) .none kV26 dc26 pm26 an26 cd26 ct26), sl26⟩)
    (c26 : PySem.W.codeIn K cd26 "_law_any_wrap" = true)
    (k26 : PySem.W.keepIn K (.ref f26) = true)
    (a27 : PySem.W.nsIn K mainGlobals "_law_any_term" = some (some (.ref f27)))
    (l27 : K.lookup f27 = some ⟨oc27, od27, .func (PySem.W.fnOf "_law_any_term" "_law_any_term" (defArgs s_law_any_term) (defBody s_law_any_term) (defScope s_law_any_term) .none kV27 dc27 pm27 an27 cd27 ct27), sl27⟩)
    (c27 : PySem.W.codeIn K cd27 "_law_any_term" = true)
    (k27 : PySem.W.keepIn K (.ref f27) = true)
    (a28 : PySem.W.nsIn K mainGlobals "_law_bend" = some (some (.ref f28)))
    (l28 : K.lookup f28 = some ⟨oc28, od28, .func (PySem.W.fnOf "_law_bend" "_law_bend" (defArgs s_law_bend) (defBody s_law_bend) (defScope s_law_bend) .none kV28 dc28 pm28 an28 cd28 ct28), sl28⟩)
    (c28 : PySem.W.codeIn K cd28 "_law_bend" = true)
    (k28 : PySem.W.keepIn K (.ref f28) = true)
    (a29 : PySem.W.nsIn K mainGlobals "_law_met" = some (some (.ref f29)))
    (l29 : K.lookup f29 = some ⟨oc29, od29, .func (PySem.W.fnOf "_law_met" "_law_met" (defArgs s_law_met) (defBody s_law_met) (defScope s_law_met) .none kV29 dc29 pm29 an29 cd29 ct29), sl29⟩)
    (c29 : PySem.W.codeIn K cd29 "_law_met" = true)
    (k29 : PySem.W.keepIn K (.ref f29) = true)
    (a30 : PySem.W.nsIn K mainGlobals "_law_is_body" = some (some (.ref f30)))
    (l30 : K.lookup f30 = some ⟨oc30, od30, .func (PySem.W.fnOf "_law_is_body" "_law_is_body" (defArgs s_law_is_body) (defBody s_law_is_body) (defScope s_law_is_body) .none kV30 dc30 pm30 an30 cd30 ct30), sl30⟩)
    (c30 : PySem.W.codeIn K cd30 "_law_is_body" = true)
    (k30 : PySem.W.keepIn K (.ref f30) = true)
    (a31 : PySem.W.nsIn K mainGlobals "_law_near" = some (some (.ref f31)))
    (l31 : K.lookup f31 = some ⟨oc31, od31, .func (PySem.W.fnOf "_law_near" "_law_near" (defArgs s_law_near) (defBody s_law_near) (defScope s_law_near) .none kV31 dc31 pm31 an31 cd31 ct31), sl31⟩)
    (c31 : PySem.W.codeIn K cd31 "_law_near" = true)
    (k31 : PySem.W.keepIn K (.ref f31) = true)
    (a32 : PySem.W.nsIn K mainGlobals "_law_right" = some (some (.ref f32)))
    (l32 : K.lookup f32 = some ⟨oc32, od32, .func (PySem.W.fnOf "_law_right" "_law_right" (defArgs s_law_right) (defBody s_law_right) (defScope s_law_right) .none kV32 dc32 pm32 an32 (.ref cR) ct32), sl32⟩)
    (c32 : PySem.W.codeIn K (.ref cR) "_law_right" = true)
    (k32 : PySem.W.keepIn K (.ref f32) = true)
    (a33 : PySem.W.nsIn K mainGlobals "law" = some (some (.ref f33)))
    (l33 : K.lookup f33 = some ⟨oc33, od33, .func (PySem.W.fnOf "law" "law" (defArgs slaw) (defBody slaw) (defScope slaw) .none kV33 dc33 pm33 an33 cd33 ct33), sl33⟩)
    (c33 : PySem.W.codeIn K cd33 "law" = true)
    (k33 : PySem.W.keepIn K (.ref f33) = true)
    (a34 : PySem.W.findIn K (.ref C) "__init__" = some (some (.ref f34)))
    (i34 : PySem.W.isFn K (.ref f34) = true)
    (l34 : K.lookup f34 = some ⟨oc34, od34, .func (PySem.W.fnOf "__init__" "Procedure.__init__" (defArgs sProcedure__init__) (defBody sProcedure__init__) (defScope sProcedure__init__) .none kV34 dc34 pm34 an34 cd34 ct34), sl34⟩)
    (c34 : PySem.W.codeIn K cd34 "Procedure.__init__" = true)
    (k34 : PySem.W.keepIn K (.ref f34) = true)
    (pa35 : PySem.W.findIn K (.ref C) "body" = some (some (.ref p_Procedurebody)))
    (pg35 : PySem.W.specialIn K (.ref p_Procedurebody) "__get__" = some (some (.builtin "property.__get__")))
    (pt35 : PySem.W.takesIn K (.ref p_Procedurebody) = some true)
    (pr35 : PySem.W.recIn K p_Procedurebody "property" = some (.ref f35 :: rp_Procedurebody))
    (l35 : K.lookup f35 = some ⟨oc35, od35, .func (PySem.W.fnOf "body" "Procedure.body" (defArgs sProcedurebody) (defBody sProcedurebody) (defScope sProcedurebody) .none kV35 dc35 pm35 an35 cd35 ct35), sl35⟩)
    (c35 : PySem.W.codeIn K cd35 "Procedure.body" = true)
    (k35 : PySem.W.keepIn K (.ref f35) = true)
    (a36 : PySem.W.findIn K (.ref C) "__len__" = some (some (.ref f36)))
    (i36 : PySem.W.isFn K (.ref f36) = true)
    (l36 : K.lookup f36 = some ⟨oc36, od36, .func (PySem.W.fnOf "__len__" "Procedure.__len__" (defArgs sProcedure__len__) (defBody sProcedure__len__) (defScope sProcedure__len__) .none kV36 dc36 pm36 an36 cd36 ct36), sl36⟩)
    (c36 : PySem.W.codeIn K cd36 "Procedure.__len__" = true)
    (k36 : PySem.W.keepIn K (.ref f36) = true)
    (z_isinstance : PySem.W.nsIn K mainGlobals "isinstance" = some none)
    (z_str : PySem.W.nsIn K mainGlobals "str" = some none)
    (z_tuple : PySem.W.nsIn K mainGlobals "tuple" = some none)
    (z_list : PySem.W.nsIn K mainGlobals "list" = some none)
    (z_bool : PySem.W.nsIn K mainGlobals "bool" = some none)
    (z_len : PySem.W.nsIn K mainGlobals "len" = some none)
    (z_all : PySem.W.nsIn K mainGlobals "all" = some none)
    (z_int : PySem.W.nsIn K mainGlobals "int" = some none)
    (z_abs : PySem.W.nsIn K mainGlobals "abs" = some none)
    (z_max : PySem.W.nsIn K mainGlobals "max" = some none)
    (z_min : PySem.W.nsIn K mainGlobals "min" = some none)
    (z_range : PySem.W.nsIn K mainGlobals "range" = some none)
    (z_zip : PySem.W.nsIn K mainGlobals "zip" = some none)
    (z_sorted : PySem.W.nsIn K mainGlobals "sorted" = some none)
    (z_set : PySem.W.nsIn K mainGlobals "set" = some none)
    (z_repr : PySem.W.nsIn K mainGlobals "repr" = some none)
    (y_MAX_LETTERS : PySem.W.nsIn K mainGlobals "MAX_LETTERS" = some (some (.int 8 t_MAX_LETTERS)))
    (y_MAX_MODES : PySem.W.nsIn K mainGlobals "MAX_MODES" = some (some (.int 3 t_MAX_MODES)))
    (y_MAX_PARAMETERS : PySem.W.nsIn K mainGlobals "MAX_PARAMETERS" = some (some (.int 3 t_MAX_PARAMETERS)))
    (y_MAX_DEPTH : PySem.W.nsIn K mainGlobals "MAX_DEPTH" = some (some (.int 6 t_MAX_DEPTH)))
    (y_MAX_TERMS : PySem.W.nsIn K mainGlobals "MAX_TERMS" = some (some (.int 40 t_MAX_TERMS)))
    (y_KINDS : PySem.W.nsIn K mainGlobals "KINDS" = some (some (.ref aK)))
    (x_KINDS : K.lookup aK = some ⟨.type "tuple", d_KINDS, .seq #[.str "block" t_KINDS0, .str "wrap" t_KINDS1] n_KINDS, z_KINDS⟩)
    (y_TERM_TAGS : PySem.W.nsIn K mainGlobals "TERM_TAGS" = some (some (.ref aT)))
    (x_TERM_TAGS : K.lookup aT = some ⟨.type "tuple", d_TERM_TAGS, .seq #[.str "do" t_TERM_TAGS0, .str "seq" t_TERM_TAGS1, .str "or" t_TERM_TAGS2, .str "run" t_TERM_TAGS3, .str "call" t_TERM_TAGS4, .str "wrap" t_TERM_TAGS5] n_TERM_TAGS, z_TERM_TAGS⟩)
    (y_WRAP_TAGS : PySem.W.nsIn K mainGlobals "WRAP_TAGS" = some (some (.ref aW)))
    (x_WRAP_TAGS : K.lookup aW = some ⟨.type "tuple", d_WRAP_TAGS, .seq #[.str "own" t_WRAP_TAGS0, .str "with" t_WRAP_TAGS1] n_WRAP_TAGS, z_WRAP_TAGS⟩)
    (aC : PySem.W.nsIn K mainGlobals "Procedure" = some (some (.ref C)))
    (qpgC : PySem.W.plainGet K C Str.empty = true)
    (qhdC : PySem.W.hasDictIn K C = true)
    (qpoC : PySem.W.plainOver K C = true)
    (qsaC : PySem.W.findIn K (.ref C) "__setattr__" = some (some (.builtin "object.__setattr__")))
    (qmkC : PySem.W.makesIn K C = true)
    (qkcC : PySem.W.keepIn K (.ref C) = true)
    (nC_named : PySem.W.findIn K (.ref C) "_named" = some none)
    (nC_parameters : PySem.W.findIn K (.ref C) "_parameters" = some none)
    (nC_body : PySem.W.findIn K (.ref C) "_body" = some none)
    (nC_parts : PySem.W.findIn K (.ref C) "_parts" = some none)
    (nC_kinds : PySem.W.findIn K (.ref C) "_kinds" = some none)
    (nC_words : PySem.W.findIn K (.ref C) "_words" = some none)
    (nC_uses : PySem.W.findIn K (.ref C) "_uses" = some none)
    (qhaC : PySem.W.findIn K (.ref C) "__class__" = some (some (.builtin "object.__class__")))
    (qhmC : PySem.W.mroIn K C (.type "object") = some true)
    (qhn : PySem.W.specialIn K (.builtin "object.__class__") "__get__" = some (some (.builtin "getset_descriptor.__get__")))
    (qht : PySem.W.takesIn K (.builtin "object.__class__") = some true)
    (aI : PySem.W.nsIn K mainGlobals "InvalidProgram" = some (some (.ref CI)))
    (kI : PySem.W.keepIn K (.ref CI) = true)
    (xI : PySem.W.excIn K CI [.type "ValueError", .type "Exception", .type "BaseException", .type "object"] "ValueError.__new__" = true)
    (bI : PySem.W.subIn K (.ref CI) (.type "BaseException") = some true)
    (tI : PySem.W.typeIn K (.ref CI) = some (.type "type"))
    (iI : PySem.W.isClsIn K CI = true)
    (sI : PySem.W.subIn K (.ref CI) (.ref CI) = some true)
    (dR : PySem.W.codeHdIn K cR PR = true)
    (nR : K.lookup PR = none)
    (hR : h.get? PR = some { cls := .none, data := .fields #[] })
    : LawAtS l w K CX0 23 63 "_law_script" mg fa h := by
  have e := hfa.symm.trans (PySem.W.mg_of X G a33)
  cases e
  have T : Nm K mg := ⟨PySem.W.mg_none_of X G z_isinstance, PySem.W.mg_none_of X G z_str, PySem.W.mg_none_of X G z_tuple, PySem.W.mg_none_of X G z_list, PySem.W.mg_none_of X G z_bool, PySem.W.mg_none_of X G z_len, PySem.W.mg_none_of X G z_all, PySem.W.mg_none_of X G z_int, PySem.W.mg_none_of X G z_abs, PySem.W.mg_none_of X G z_max, PySem.W.mg_none_of X G z_min, PySem.W.mg_none_of X G z_range, PySem.W.mg_none_of X G z_zip, PySem.W.mg_none_of X G z_sorted, PySem.W.mg_none_of X G z_set, ⟨_, PySem.W.mg_of X G y_MAX_LETTERS⟩, ⟨_, PySem.W.mg_of X G y_MAX_MODES⟩, ⟨_, PySem.W.mg_of X G y_MAX_PARAMETERS⟩, ⟨_, PySem.W.mg_of X G y_MAX_DEPTH⟩, ⟨_, PySem.W.mg_of X G y_MAX_TERMS⟩, ⟨aK, PySem.W.mg_of X G y_KINDS, fun H => .inr ⟨_, _, _, x_KINDS, rfl, rfl, (show 2 ≤ sizeLine by decide), .cons ⟨_, rfl⟩ (.cons ⟨_, rfl⟩ (.nil))⟩⟩, ⟨aT, PySem.W.mg_of X G y_TERM_TAGS, fun H => .inr ⟨_, _, _, x_TERM_TAGS, rfl, rfl, (show 6 ≤ sizeLine by decide), .cons ⟨_, rfl⟩ (.cons ⟨_, rfl⟩ (.cons ⟨_, rfl⟩ (.cons ⟨_, rfl⟩ (.cons ⟨_, rfl⟩ (.cons ⟨_, rfl⟩ (.nil))))))⟩⟩, ⟨aW, PySem.W.mg_of X G y_WRAP_TAGS, fun H => .inr ⟨_, _, _, x_WRAP_TAGS, rfl, rfl, (show 2 ≤ sizeLine by decide), .cons ⟨_, rfl⟩ (.cons ⟨_, rfl⟩ (.nil))⟩⟩⟩
  have PC : PrC K mg C := ⟨⟨qpgC, qhdC, qpoC, qsaC⟩, PySem.W.mg_of X G aC, nC_named, nC_parameters, nC_body, nC_parts, nC_kinds, nC_words, nC_uses, qhaC, qhn, qht, qhmC, kit_self⟩
  have F1 := fun_mk (st := sis_integer_in) l1 c1 k1
  have b1 := F1.binds (ps := ["value", "least", "greatest"]) fun _ _ _ _ _ _ us hl => match us, hl with | [_, _, _], _ => rfl
  have F2 := fun_mk (st := sis_name) l2 c2 k2
  have b2 := F2.binds (ps := ["value"]) fun _ _ _ _ _ _ us hl => match us, hl with | [_], _ => rfl
  have F3 := fun_mk (st := skind_of) l3 c3 k3
  have b3 := F3.binds (ps := ["value"]) fun _ _ _ _ _ _ us hl => match us, hl with | [_], _ => rfl
  have F4 := fun_mk (st := sparts_in) l4 c4 k4
  have b4 := F4.binds (ps := ["part"]) fun _ _ _ _ _ _ us hl => match us, hl with | [_], _ => rfl
  have F5 := fun_mk (st := skinds_in) l5 c5 k5
  have b5 := F5.binds (ps := ["part"]) fun _ _ _ _ _ _ us hl => match us, hl with | [_], _ => rfl
  have F6 := fun_mk (st := sall_parts) l6 c6 k6
  have b6 := F6.binds (ps := ["part"]) fun _ _ _ _ _ _ us hl => match us, hl with | [_], _ => rfl
  have F7 := fun_mk (st := sis_deed_table) l7 c7 k7
  have b7 := F7.binds (ps := ["value"]) fun _ _ _ _ _ _ us hl => match us, hl with | [_], _ => rfl
  have F8 := fun_mk (st := shas_form) l8 c8 k8
  have b8 := F8.binds (ps := ["part", "parameters"]) fun _ _ _ _ _ _ us hl => match us, hl with | [_, _], _ => rfl
  have F9 := fun_mk (st := sis_parameter) l9 c9 k9
  have b9 := F9.binds (ps := ["value"]) fun _ _ _ _ _ _ us hl => match us, hl with | [_], _ => rfl
  have F10 := fun_mk (st := sare_parameters) l10 c10 k10
  have b10 := F10.binds (ps := ["value"]) fun _ _ _ _ _ _ us hl => match us, hl with | [_], _ => rfl
  have F11 := fun_mk (st := sis_term) l11 c11 k11
  have b11 := F11.binds (ps := ["value", "parameters"]) fun _ _ _ _ _ _ us hl => match us, hl with | [_, _], _ => rfl
  have F12 := fun_mk (st := s_law_numbers) l12 c12 k12
  have b12 := F12.binds (ps := ["_law_script", "_law_at"]) fun _ _ _ _ _ _ us hl => match us, hl with | [_, _], _ => rfl
  have F13 := fun_mk (st := s_law_cast) l13 c13 k13
  have b13 := F13.binds (ps := ["_law_die", "_law_total"]) fun _ _ _ _ _ _ us hl => match us, hl with | [_, _], _ => rfl
  have F14 := fun_mk (st := s_law_pick) l14 c14 k14
  have b14 := F14.binds (ps := ["_law_die", "_law_items"]) fun _ _ _ _ _ _ us hl => match us, hl with | [_, _], _ => rfl
  have F15 := fun_mk (st := s_law_shuffle) l15 c15 k15
  have b15 := F15.binds (ps := ["_law_die", "_law_items"]) fun _ _ _ _ _ _ us hl => match us, hl with | [_, _], _ => rfl
  have F16 := fun_mk (st := s_law_bent_tuple) l16 c16 k16
  have b16 := F16.binds (ps := ["_law_die", "_law_items", "_law_odd"]) fun _ _ _ _ _ _ us hl => match us, hl with | [_, _, _], _ => rfl
  have F17 := fun_mk (st := s_law_is_word) l17 c17 k17
  have b17 := F17.binds (ps := ["_law_value"]) fun _ _ _ _ _ _ us hl => match us, hl with | [_], _ => rfl
  have F18 := fun_mk (st := s_law_is_number) l18 c18 k18
  have b18 := F18.binds (ps := ["_law_value", "_law_low", "_law_high"]) fun _ _ _ _ _ _ us hl => match us, hl with | [_, _, _], _ => rfl
  have F19 := fun_mk (st := s_law_odd_one) l19 c19 k19
  have b19 := F19.binds (ps := ["_law_die"]) fun _ _ _ _ _ _ us hl => match us, hl with | [_], _ => rfl
  have F20 := fun_mk (st := s_law_own_names) l20 c20 k20
  have b20 := F20.binds (ps := ["_law_own", "_law_kind"]) fun _ _ _ _ _ _ us hl => match us, hl with | [_, _], _ => rfl
  have F21 := fun_mk (st := s_law_is_piece) l21 c21 k21
  have b21 := F21.binds (ps := ["_law_value", "_law_own", "_law_deep", "_law_is_wrap"]) fun _ _ _ _ _ _ us hl => match us, hl with | [_, _, _, _], _ => rfl
  have F22 := fun_mk (st := s_law_all_in) l22 c22 k22
  have b22 := F22.binds (ps := ["_law_piece"]) fun _ _ _ _ _ _ us hl => match us, hl with | [_], _ => rfl
  have F23 := fun_mk (st := s_law_are_parameters) l23 c23 k23
  have b23 := F23.binds (ps := ["_law_value"]) fun _ _ _ _ _ _ us hl => match us, hl with | [_], _ => rfl
  have F24 := fun_mk (st := s_law_any_deed) l24 c24 k24
  have b24 := F24.binds (ps := ["_law_die", "_law_modes"]) fun _ _ _ _ _ _ us hl => match us, hl with | [_, _], _ => rfl
  have F25 := fun_mk (st := s_law_any_given) l25 c25 k25
  have b25 := F25.binds (ps := ["_law_die", "_law_modes", "_law_table", "_law_own", "_law_kinds", "_law_deep"]) fun _ _ _ _ _ _ us hl => match us, hl with | [_, _, _, _, _, _], _ => rfl
  have F26 := fun_mk (st := s_law_any_wrap) l26 c26 k26
  have b26 := F26.binds (ps := ["_law_die", "_law_modes", "_law_table", "_law_own", "_law_deep"]) fun _ _ _ _ _ _ us hl => match us, hl with | [_, _, _, _, _], _ => rfl
  have F27 := fun_mk (st := s_law_any_term) l27 c27 k27
  have b27 := F27.binds (ps := ["_law_die", "_law_modes", "_law_table", "_law_own", "_law_deep"]) fun _ _ _ _ _ _ us hl => match us, hl with | [_, _, _, _, _], _ => rfl
  have F28 := fun_mk (st := s_law_bend) l28 c28 k28
  have b28 := F28.binds (ps := ["_law_die", "_law_piece", "_law_odd"]) fun _ _ _ _ _ _ us hl => match us, hl with | [_, _, _], _ => rfl
  have F29 := fun_mk (st := s_law_met) l29 c29 k29
  have b29 := F29.binds (ps := ["_law_call"]) fun _ _ _ _ _ _ us hl => match us, hl with | [_], _ => rfl
  have F30 := fun_mk (st := s_law_is_body) l30 c30 k30
  have b30 := F30.binds (ps := ["_law_value", "_law_own"]) fun _ _ _ _ _ _ us hl => match us, hl with | [_, _], _ => rfl
  have F31 := fun_mk (st := s_law_near) l31 c31 k31
  have b31 := F31.binds (ps := ["_law_die", "_law_body"]) fun _ _ _ _ _ _ us hl => match us, hl with | [_, _], _ => rfl
  have F32 : FunC K "_law_right" "_law_right" s_law_right _ _ cR := ⟨⟨_, _, _, _, _, _, _, _, rfl, l32, c32⟩⟩
  have b32 : Binds K (PySem.W.fnOf "_law_right" "_law_right" (defArgs s_law_right) (defBody s_law_right) (defScope s_law_right) .none kV32 dc32 pm32 an32 (.ref cR) ct32) ["_law_die"] [] := .all fun us hl => match us, hl with | [_], _ => rfl
  have F33 := fun_mk (st := slaw) l33 c33 k33
  have b33 := F33.binds (ps := ["_law_script"]) fun _ _ _ _ _ _ us hl => match us, hl with | [_], _ => rfl
  have F34 := fun_mk (st := sProcedure__init__) l34 c34 k34
  have b34 := F34.binds (ps := ["self", "name", "parameters", "body"]) fun _ _ _ _ _ _ us hl => match us, hl with | [_, _, _, _], _ => rfl
  have F35 := fun_mk (st := sProcedurebody) l35 c35 k35
  have b35 := F35.binds (ps := ["self"]) fun _ _ _ _ _ _ us hl => match us, hl with | [_], _ => rfl
  have F36 := fun_mk (st := sProcedure__len__) l36 c36 k36
  have b36 := F36.binds (ps := ["self"]) fun _ _ _ _ _ _ us hl => match us, hl with | [_], _ => rfl
  let TS : List (Addr × Str) := [(PR, lamQ "_law_right")]
  refine ⟨PySem.W.fnOf "law" "law" (defArgs slaw) (defBody slaw) (defScope slaw) .none kV33 dc33 pm33 an33 cd33 ct33, [(cR, PR)], spLawT K TS, ?_, ?_, ?_, fun s v => .of_eq rfl, fun H a ns hl _ hH hS => ⟨a, ns, rfl, hS, hl, ?_, fun _ => rfl⟩, fun base _ _ TBs => ?_⟩
  · intro p hp
    rw [List.mem_singleton.mp hp]
    exact hR
  · intro p hp
    rw [List.mem_singleton.mp hp]
    exact nR
  · intro p hp
    rw [List.mem_singleton.mp hp]
    exact PySem.W.codeHd_of_K X dR
  · intro p hp
    rw [List.mem_singleton.mp hp]
    exact TabS.nil (hH (cR, PR) List.mem_cons_self)
  have TBR := TBs (cR, PR) List.mem_cons_self
  have huR : ∀ p ∈ TS, p.1 = PR → p.2 = lamQ "_law_right" := fun p hp e => by rw [List.mem_singleton.mp hp]
  have BD : Bad K mg CI := ⟨PySem.W.mg_of X G aI, kI, xI, bI, tI, exm_own bI iI tI sI⟩
  have MG : MetG K mg CI := ⟨⟨_, _, _, _, _, _, _, _, _, _, PySem.W.mg_of X G a29, k29, l29, c29, b29⟩⟩
  have C0_parts_in : Cal l.prog w K mg base 1 "parts_in" ["part"] (spParts K) := ⟨_, _, ok_parts_in F4 T, PySem.W.mg_of X G a4, k4, b4⟩
  have C_all_parts := no_all_parts (P := l.prog) (w := w) (base := base) F6 T C0_parts_in (PySem.W.mg_of X G a6) k6 b6 7
  have C_is_integer_in : Cal l.prog w K mg base 2 "is_integer_in" ["value", "least", "greatest"] (spIntA K) := ⟨_, _, okA_is_integer_in F1 T, PySem.W.mg_of X G a1, k1, b1⟩
  have C_is_name : Cal l.prog w K mg base 1 "is_name" ["value"] (spNameA K) := ⟨_, _, okA_is_name F2 T, PySem.W.mg_of X G a2, k2, b2⟩
  have C_kind_of : Cal l.prog w K mg base 2 "kind_of" ["value"] (spKindA K) := ⟨_, _, okA_kind_of F3 T, PySem.W.mg_of X G a3, k3, b3⟩
  have C_parts_in : Cal l.prog w K mg base 1 "parts_in" ["part"] (spPartsA K) := ⟨_, _, okA_parts_in F4 T, PySem.W.mg_of X G a4, k4, b4⟩
  have C_kinds_in : Cal l.prog w K mg base 3 "kinds_in" ["part"] (spKindsA K) := ⟨_, _, okA_kinds_in F5 T C_parts_in, PySem.W.mg_of X G a5, k5, b5⟩
  have C_is_deed_table : Cal l.prog w K mg base 3 "is_deed_table" ["value"] (spTabA K) := ⟨_, _, okA_is_deed_table F7 T C_is_integer_in, PySem.W.mg_of X G a7, k7, b7⟩
  have C_has_form : Cal l.prog w K mg base 4 "has_form" ["part", "parameters"] (spFormA K) := ⟨_, _, okA_has_form F8 T C_is_name C_is_deed_table, PySem.W.mg_of X G a8, k8, b8⟩
  have C_is_parameter : Cal l.prog w K mg base 3 "is_parameter" ["value"] (spParA K) := ⟨_, _, okA_is_parameter F9 T C_is_name, PySem.W.mg_of X G a9, k9, b9⟩
  have C_are_parameters : Cal l.prog w K mg base 4 "are_parameters" ["value"] (spParsA K) := ⟨_, _, okA_are_parameters F10 T C_is_parameter, PySem.W.mg_of X G a10, k10, b10⟩
  have C_is_term : Cal l.prog w K mg base 6 "is_term" ["value", "parameters"] (spTermN K) := ⟨_, _, okA_is_term F11 T C_are_parameters C_kind_of C_has_form C_parts_in C_kinds_in, PySem.W.mg_of X G a11, k11, b11⟩
  have GT : CalX l.prog w K mg base 6 "is_term" ["value", "parameters"] (spTermA K CI) := ⟨⟨_, _, okR_is_term F11 T BD C_are_parameters C_kind_of C_has_form C_parts_in C_kinds_in, PySem.W.mg_of X G a11, k11, b11⟩⟩
  have PB : PrB l.prog w K mg base C CI := ⟨PC, ⟨_, _, okA_Procedure__init__ F34 T BD PC C_is_name C_is_term C_all_parts, b34, ⟨qmkC, a34, i34, qkcC⟩⟩, ⟨_, _, ok_Procedure__len__ F36 T PC, b36, a36, i36⟩⟩
  have Rbody : PropB l.prog w K mg base C "body" "_body" := ⟨⟨p_Procedurebody, _, _, ⟨pa35, pg35, pt35, ⟨_, pr35⟩⟩, ok_Procedurebody F35 T PC, b35⟩⟩
  have C__law_numbers : Cal l.prog w K mg base 1 "_law_numbers" ["_law_script", "_law_at"] (spNumbers K) := ⟨_, _, ok_l_numbers F12 T, PySem.W.mg_of X G a12, k12, b12⟩
  have C__law_cast : Cal l.prog w K mg base 1 "_law_cast" ["_law_die", "_law_total"] (spCast) := ⟨_, _, ok_l_cast F13 T, PySem.W.mg_of X G a13, k13, b13⟩
  have C__law_pick : Cal l.prog w K mg base 2 "_law_pick" ["_law_die", "_law_items"] (spPick K) := ⟨_, _, ok_l_pick F14 T C__law_cast, PySem.W.mg_of X G a14, k14, b14⟩
  have C__law_shuffle : Cal l.prog w K mg base 2 "_law_shuffle" ["_law_die", "_law_items"] (spShuffle K) := ⟨_, _, ok_l_shuffle F15 T C__law_cast, PySem.W.mg_of X G a15, k15, b15⟩
  have C__law_bent_tuple : Cal l.prog w K mg base 3 "_law_bent_tuple" ["_law_die", "_law_items", "_law_odd"] (spBentT K) := ⟨_, _, ok_l_bent_tuple F16 T C__law_cast C__law_pick, PySem.W.mg_of X G a16, k16, b16⟩
  have C__law_is_word : Cal l.prog w K mg base 2 "_law_is_word" ["_law_value"] (spNameA K) := ⟨_, _, ok_l_is_word F17 T, PySem.W.mg_of X G a17, k17, b17⟩
  have C__law_is_number : Cal l.prog w K mg base 2 "_law_is_number" ["_law_value", "_law_low", "_law_high"] (spIntA K) := ⟨_, _, ok_l_is_number F18 T, PySem.W.mg_of X G a18, k18, b18⟩
  have C__law_odd_one : Cal l.prog w K mg base 3 "_law_odd_one" ["_law_die"] (spOddA K) := ⟨_, _, ok_l_odd_one F19 T C__law_pick, PySem.W.mg_of X G a19, k19, b19⟩
  have C__law_own_names : Cal l.prog w K mg base 1 "_law_own_names" ["_law_own", "_law_kind"] (spOwn K) := ⟨_, _, ok_l_own_names F20 T, PySem.W.mg_of X G a20, k20, b20⟩
  have C__law_is_piece := (no_pieces (P := l.prog) (w := w) (base := base) F21 T C__law_own_names C__law_is_word C__law_is_number (PySem.W.mg_of X G a21) k21 b21 6).up (k := 12) (by decide)
  have C__law_all_in := no_all_in (P := l.prog) (w := w) (base := base) F22 T (PySem.W.mg_of X G a22) k22 b22 6
  have C__law_are_parameters : Cal l.prog w K mg base 3 "_law_are_parameters" ["_law_value"] (spParsA K) := ⟨_, _, ok_l_are_parameters F23 T C__law_is_word, PySem.W.mg_of X G a23, k23, b23⟩
  have C__law_any_deed : Cal l.prog w K mg base 3 "_law_any_deed" ["_law_die", "_law_modes"] (spDeed K) := ⟨_, _, ok_l_any_deed F24 T C__law_pick, PySem.W.mg_of X G a24, k24, b24⟩
  have TT := no_terms (P := l.prog) (w := w) (base := base) F27 F26 F25 T (PySem.W.mg_of X G a27) (PySem.W.mg_of X G a26) (PySem.W.mg_of X G a25) k27 k26 k25 b27 b26 b25 C__law_own_names C__law_cast C__law_pick C__law_any_deed
  have TU : Cal l.prog w K mg base 14 "_law_any_term" ["_law_die", "_law_modes", "_law_table", "_law_own", "_law_deep"] (fun vs H Q E => ∃ n, (2 ≤ n ∧ n ≤ 5) ∧ spTermD K n vs H Q E) := ⟨_, _, cal_union (x := "") (S := fun n => 2 ≤ n ∧ n ≤ 5) fun n hn => (TT n).1.mono (by omega), PySem.W.mg_of X G a27, k27, b27⟩
  have C__law_bend := (no_bends (P := l.prog) (w := w) (base := base) F28 T C__law_cast C__law_pick (PySem.W.mg_of X G a28) k28 b28 9).up (k := 14) (by decide)
  have C__law_is_body : Cal l.prog w K mg base 13 "_law_is_body" ["_law_value", "_law_own"] (spBodyA K) := ⟨_, _, ok_l_is_body F30 T C__law_is_piece C__law_all_in, PySem.W.mg_of X G a30, k30, b30⟩
  have C__law_near : Cal l.prog w K mg base 20 "_law_near" ["_law_die", "_law_body"] (spNearA K) := ⟨_, _, ok_l_near F31 T C__law_cast C__law_pick C__law_odd_one C__law_bend, PySem.W.mg_of X G a31, k31, b31⟩
  have C__law_right : Cal l.prog w K mg base 22 "_law_right" ["_law_die"] (spRightB TS) := ⟨_, _, ok_l_right F32 T (PySem.W.mg_none_of X G z_repr) TBR List.mem_cons_self huR MG BD PB GT Rbody C_is_term C__law_shuffle C__law_cast C__law_pick TU C__law_near C__law_odd_one C__law_is_body C__law_all_in C__law_bent_tuple C__law_are_parameters, PySem.W.mg_of X G a32, k32, b32⟩
  exact ok_law F33 T C__law_numbers C__law_right C_is_term
end FS

set_option Elab.async false
set_option linter.all false
set_option maxRecDepth 100000
open PySem PySem.W PyProof.Rows
set_option maxHeartbeats 0 in
theorem PySem.Challenge.cw_blockshanded_k02_whole_terms_by_form_holds : PySem.Challenge.rw_blockshanded_k02_whole_terms_by_form.Holds := by
  w_on; o_law; k_head; (case hw => w_witness2)
  k_fill
  refine LamX.walk_ofTs (l := PySem.Challenge.rw_blockshanded_k02_whole_terms_by_form) (n := 63) (k := 23) (x := "_law_script") (CX := fun _ => L2.CX0) rfl (by decide) rfl ⟨rfl, by decide, by decide⟩ (fun w h Y => km_in_of Y) ?F (fun _ _ _ _ _ h => h)
  case F =>
    intro w mg fa h Y KX G hmg
    have tabs := km_tabs_of Y
    refine' FS.all_mk (PR := 332) KX G hmg ?a1 ?l1 ?c1 ?k1 ?a2 ?l2 ?c2 ?k2 ?a3 ?l3 ?c3 ?k3 ?a4 ?l4 ?c4 ?k4 ?a5 ?l5 ?c5 ?k5 ?a6 ?l6 ?c6 ?k6 ?a7 ?l7 ?c7 ?k7 ?a8 ?l8 ?c8 ?k8 ?a9 ?l9 ?c9 ?k9 ?a10 ?l10 ?c10 ?k10 ?a11 ?l11 ?c11 ?k11 ?a12 ?l12 ?c12 ?k12 ?a13 ?l13 ?c13 ?k13 ?a14 ?l14 ?c14 ?k14 ?a15 ?l15 ?c15 ?k15 ?a16 ?l16 ?c16 ?k16 ?a17 ?l17 ?c17 ?k17 ?a18 ?l18 ?c18 ?k18 ?a19 ?l19 ?c19 ?k19 ?a20 ?l20 ?c20 ?k20 ?a21 ?l21 ?c21 ?k21 ?a22 ?l22 ?c22 ?k22 ?a23 ?l23 ?c23 ?k23 ?a24 ?l24 ?c24 ?k24 ?a25 ?l25 ?c25 ?k25 ?a26 ?l26 ?c26 ?k26 ?a27 ?l27 ?c27 ?k27 ?a28 ?l28 ?c28 ?k28 ?a29 ?l29 ?c29 ?k29 ?a30 ?l30 ?c30 ?k30 ?a31 ?l31 ?c31 ?k31 ?a32 ?l32 ?c32 ?k32 ?a33 ?l33 ?c33 ?k33 ?a34 ?i34 ?l34 ?c34 ?k34 ?pa35 ?pg35 ?pt35 ?pr35 ?l35 ?c35 ?k35 ?a36 ?i36 ?l36 ?c36 ?k36 ?z_isinstance ?z_str ?z_tuple ?z_list ?z_bool ?z_len ?z_all ?z_int ?z_abs ?z_max ?z_min ?z_range ?z_zip ?z_sorted ?z_set ?z_repr ?y_MAX_LETTERS ?y_MAX_MODES ?y_MAX_PARAMETERS ?y_MAX_DEPTH ?y_MAX_TERMS ?y_KINDS ?x_KINDS ?y_TERM_TAGS ?x_TERM_TAGS ?y_WRAP_TAGS ?x_WRAP_TAGS ?aC ?qpgC ?qhdC ?qpoC ?qsaC ?qmkC ?qkcC ?nC_named ?nC_parameters ?nC_body ?nC_parts ?nC_kinds ?nC_words ?nC_uses ?qhaC ?qhmC ?qhn ?qht ?aI ?kI ?xI ?bI ?tI ?iI ?sI ?dR ?nR ?hR
    (case aC => k_is)
    (case aI => k_is)
    (case a1 => k_is)
    (case l1 => k_is)
    (case c1 => k_is)
    (case k1 => k_is)
    (case a2 => k_is)
    (case l2 => k_is)
    (case c2 => k_is)
    (case k2 => k_is)
    (case a3 => k_is)
    (case l3 => k_is)
    (case c3 => k_is)
    (case k3 => k_is)
    (case a4 => k_is)
    (case l4 => k_is)
    (case c4 => k_is)
    (case k4 => k_is)
    (case a5 => k_is)
    (case l5 => k_is)
    (case c5 => k_is)
    (case k5 => k_is)
    (case a6 => k_is)
    (case l6 => k_is)
    (case c6 => k_is)
    (case k6 => k_is)
    (case a7 => k_is)
    (case l7 => k_is)
    (case c7 => k_is)
    (case k7 => k_is)
    (case a8 => k_is)
    (case l8 => k_is)
    (case c8 => k_is)
    (case k8 => k_is)
    (case a9 => k_is)
    (case l9 => k_is)
    (case c9 => k_is)
    (case k9 => k_is)
    (case a10 => k_is)
    (case l10 => k_is)
    (case c10 => k_is)
    (case k10 => k_is)
    (case a11 => k_is)
    (case l11 => k_is)
    (case c11 => k_is)
    (case k11 => k_is)
    (case a12 => k_is)
    (case l12 => k_is)
    (case c12 => k_is)
    (case k12 => k_is)
    (case a13 => k_is)
    (case l13 => k_is)
    (case c13 => k_is)
    (case k13 => k_is)
    (case a14 => k_is)
    (case l14 => k_is)
    (case c14 => k_is)
    (case k14 => k_is)
    (case a15 => k_is)
    (case l15 => k_is)
    (case c15 => k_is)
    (case k15 => k_is)
    (case a16 => k_is)
    (case l16 => k_is)
    (case c16 => k_is)
    (case k16 => k_is)
    (case a17 => k_is)
    (case l17 => k_is)
    (case c17 => k_is)
    (case k17 => k_is)
    (case a18 => k_is)
    (case l18 => k_is)
    (case c18 => k_is)
    (case k18 => k_is)
    (case a19 => k_is)
    (case l19 => k_is)
    (case c19 => k_is)
    (case k19 => k_is)
    (case a20 => k_is)
    (case l20 => k_is)
    (case c20 => k_is)
    (case k20 => k_is)
    (case a21 => k_is)
    (case l21 => k_is)
    (case c21 => k_is)
    (case k21 => k_is)
    (case a22 => k_is)
    (case l22 => k_is)
    (case c22 => k_is)
    (case k22 => k_is)
    (case a23 => k_is)
    (case l23 => k_is)
    (case c23 => k_is)
    (case k23 => k_is)
    (case a24 => k_is)
    (case l24 => k_is)
    (case c24 => k_is)
    (case k24 => k_is)
    (case a25 => k_is)
    (case l25 => k_is)
    (case c25 => k_is)
    (case k25 => k_is)
    (case a26 => k_is)
    (case l26 => k_is)
    (case c26 => k_is)
    (case k26 => k_is)
    (case a27 => k_is)
    (case l27 => k_is)
    (case c27 => k_is)
    (case k27 => k_is)
    (case a28 => k_is)
    (case l28 => k_is)
    (case c28 => k_is)
    (case k28 => k_is)
    (case a29 => k_is)
    (case l29 => k_is)
    (case c29 => k_is)
    (case k29 => k_is)
    (case a30 => k_is)
    (case l30 => k_is)
    (case c30 => k_is)
    (case k30 => k_is)
    (case a31 => k_is)
    (case l31 => k_is)
    (case c31 => k_is)
    (case k31 => k_is)
    (case a32 => k_is)
    (case l32 => k_is)
    (case c32 => k_is)
    (case k32 => k_is)
    (case a33 => k_is)
    (case l33 => k_is)
    (case c33 => k_is)
    (case k33 => k_is)
    (case a34 => k_is)
    (case i34 => k_is)
    (case l34 => k_is)
    (case c34 => k_is)
    (case k34 => k_is)
    (case pa35 => k_is)
    (case pg35 => k_is)
    (case pt35 => k_is)
    (case pr35 => k_is)
    (case l35 => k_is)
    (case c35 => k_is)
    (case k35 => k_is)
    (case a36 => k_is)
    (case i36 => k_is)
    (case l36 => k_is)
    (case c36 => k_is)
    (case k36 => k_is)
    (case z_isinstance => k_is)
    (case z_str => k_is)
    (case z_tuple => k_is)
    (case z_list => k_is)
    (case z_bool => k_is)
    (case z_len => k_is)
    (case z_all => k_is)
    (case z_int => k_is)
    (case z_abs => k_is)
    (case z_max => k_is)
    (case z_min => k_is)
    (case z_range => k_is)
    (case z_zip => k_is)
    (case z_sorted => k_is)
    (case z_set => k_is)
    (case z_repr => k_is)
    (case y_MAX_LETTERS => k_is)
    (case y_MAX_MODES => k_is)
    (case y_MAX_PARAMETERS => k_is)
    (case y_MAX_DEPTH => k_is)
    (case y_MAX_TERMS => k_is)
    (case y_KINDS => k_is)
    (case x_KINDS => k_is)
    (case y_TERM_TAGS => k_is)
    (case x_TERM_TAGS => k_is)
    (case y_WRAP_TAGS => k_is)
    (case x_WRAP_TAGS => k_is)
    (case qpgC => k_is)
    (case qhdC => k_is)
    (case qpoC => k_is)
    (case qsaC => k_is)
    (case qmkC => k_is)
    (case qkcC => k_is)
    (case nC_named => k_is)
    (case nC_parameters => k_is)
    (case nC_body => k_is)
    (case nC_parts => k_is)
    (case nC_kinds => k_is)
    (case nC_words => k_is)
    (case nC_uses => k_is)
    (case qhaC => k_is)
    (case qhmC => k_is)
    (case qhn => k_is)
    (case qht => k_is)
    (case kI => k_is)
    (case bI => k_is)
    (case tI => k_is)
    (case iI => k_is)
    (case sI => k_is)
    (case dR => kernel_rfl)
    (case nR => kernel_rfl)
    (case hR => exact tabs _ (by simp))
    (case xI => kernel_rfl)

