import PyProof.Rows.All
import Wide.All
import OpenK.AllK
import Wide.FinOn
import HandS.ForMost
import HandS.Set
import HandS.SetBool
import HandS.Strs
import PyProof.Rows.SortShellAny
import HandS.Deep
import HandS.IsInst
import HandS.TupMul
import HandS.TupAny
import HandS.Walk
import HandS.Zip
import HandS.OwnEq
import HandS.Property
import KE.KCallOwn
import PyProof.InstNe
import HandS.FStr
import PySem.Challenge.RW_blockshanded_k06_whole_changes_of_progra
import HandS.Dict
import HandS.More
import HandS.Small
import HandS.Conv
import HandS.TupSets
import PyProof.P3Eq
import HandS.DictComp
import HandS.Star
import HandS.ClsMeth
import HandS.WordsDict
import HandS.WordsExc
import HandS.Lambda
import PyProof.FactsAll.dict_1
import PyProof.FactsAll.subtypes_4
import KE.KRevSl
import HandS.EndTab
import HandS.TryMany
set_option Elab.async false
set_option linter.all false
set_option maxRecDepth 100000
set_option maxHeartbeats 4000000
/-! sets of texts: their members in the order in which they came in; a set comprehension; sorted of such a set -/
namespace FS
open PySem PySem.Spec PyProof.Rows L2
/-- the text of a member -/
def txt : Int × Value → Str
  | (_, .str x _) => x
  | _ => Str.empty
def Mem1 (w : World) (m : Int × Value) : Prop := ∃ x tk, m = (hashStr w x, Value.str x tk)
/-- at a stands the set of the texts xs -/
structure Tab (w : World) (xs : List Str) (ms : Array (Int × Value)) (t : SetTable) : Prop where
  mem : ∀ m ∈ ms.toList, Mem1 w m
  perm : (ms.toList.map txt).Perm xs
  nd : xs.Nodup
  few : ms.size < scanBound
  fit : t.fits ms.size = true
  ris : Ris t.place.toList
  ord : w.params.followText "set-order" = true ∨ t.led = true
def SetS (w : World) (h : Heap) (a : Addr) (xs : List Str) : Prop :=
  ∃ o ms ep t, h.get? a = some o ∧ o.ExactSet ∧ o.data = .set ms ep t ∧ Tab w xs ms t
def addS (xs : List Str) (x : Str) : List Str := if x ∈ xs then xs else xs ++ [x]
section
variable {P : Program} {w : World}
theorem Mem1.is {m : Int × Value} (g : Mem1 w m) (x : Str) : (strKind P w).is x m.2 = true ↔ txt m = x := by
  obtain ⟨y, tk, rfl⟩ := g
  constructor
  · intro h
    exact (strKind P w).inj _ _ _ (strKind_is P w y tk) h
  · intro h
    rw [← show y = x from h]
    exact strKind_is P w y tk
theorem Tab.elems {xs : List Str} {ms : Array (Int × Value)} {t : SetTable} (T : Tab w xs ms t) : ElemsOf (strKind P w) ms.toList := fun m hm => by
  obtain ⟨y, tk, rfl⟩ := T.mem m hm
  exact ⟨⟨y, strKind_is P w y tk, rfl⟩, rfl⟩
theorem Tab.has {xs : List Str} {ms : Array (Int × Value)} {t : SetTable} (T : Tab w xs ms t) (x : Str) : x ∈ xs ↔ ∃ m ∈ ms.toList, (strKind P w).is x m.2 = true := by
  rw [← T.perm.mem_iff, List.mem_map]
  exact ⟨fun ⟨m, hm, e⟩ => ⟨m, hm, ((T.mem m hm).is x).mpr e⟩, fun ⟨m, hm, e⟩ => ⟨m, hm, ((T.mem m hm).is x).mp e⟩⟩
theorem Tab.size {xs : List Str} {ms : Array (Int × Value)} {t : SetTable} (T : Tab w xs ms t) : ms.size = xs.length := by
  have e := T.perm.length_eq
  rw [List.length_map, Array.length_toList] at e
  exact e
/-- the same members laid otherwise -/
theorem Tab.laid {xs : List Str} {ms ms' : Array (Int × Value)} {t t' : SetTable} (T : Tab w xs ms t) (p : ms'.toList.Perm ms.toList) (f : t'.fits ms'.size = true) (r : Ris t'.place.toList) (l : t'.led = t.led) : Tab w xs ms' t' where
  mem := fun m hm => T.mem m (p.mem_iff.mp hm)
  perm := (p.map txt).trans T.perm
  nd := T.nd
  few := by
    have e := p.length_eq
    rw [Array.length_toList, Array.length_toList] at e
    rw [e]
    exact T.few
  fit := f
  ris := r
  ord := T.ord.imp id fun z => l.trans z
end
section
variable {P : Program} {w : World} {A : Around} {E : Value → Shared → Prop} {s : Shared} {a : Addr} {xs : List Str}
theorem SetS.of (R : SetS w s.heap a xs) : s.heap.SetOf (strKind P w) a (fun x => decide (x ∈ xs)) xs.length := by
  obtain ⟨o, ms, ep, t, ho, hx, hd, T⟩ := R
  exact ⟨o, ms, ep, t, ho, hx, hd, T.elems, fun k => decide_eq_true_iff.trans (T.has k), T.few, T.fit, T.size⟩
/-- the table stored, made greater where it is too full -/
theorem stored {give : Bool → Sem Unit} (hg : ∀ (b : Bool) (s1 : Shared) (Q1 : Unit → Shared → Prop), Q1 () s1 → wpAny (model P w) A (give b) Q1 E s1) {o : Obj} {ms ms1 : Array (Int × Value)} {ep : Nat} {t t1 : SetTable}
    (ho : s.heap.get? a = some o) (hx : o.ExactSet) (hd : o.data = .set ms ep t) (T : Tab w xs ms1 t1) {was : Bool} {R : Option Bool → Shared → Prop} (hR : ∀ h', Heap.SameBut a s.heap h' → SetS w h' a xs → R (some true) { s with heap := h' }) :
    wpAny (model P w) A (do
      storeSet a ms1 t1
      if (!was && t1.tooFull) = true then do
        give (relayAll t1 ms1 (SetTable.grown ms1.size)).2.2
        storeSet a (relayAll t1 ms1 (SetTable.grown ms1.size)).1 (relayAll t1 ms1 (SetTable.grown ms1.size)).2.1
        pure (some true)
      else pure (some true)) R E s := by
  have h1 := store_at (es' := ms1) (t' := t1) ho hd
  have b1 := Heap.SameBut.update s.heap a (Obj.putSet ms1 t1)
  refine wpAny_bind (wpAny_storeSet_of ho hd ?_ (fits_of_scanBound T.few))
  by_cases c : (!was && t1.tooFull) = true
  · rw [if_pos c]
    have T2 : Tab w xs (relayAll t1 ms1 (SetTable.grown ms1.size)).1 (relayAll t1 ms1 (SetTable.grown ms1.size)).2.1 := by
      have pm := relayAll_perm t1 ms1 (SetTable.grown ms1.size)
      have sz : (relayAll t1 ms1 (SetTable.grown ms1.size)).1.size = ms1.size := by rw [← Array.length_toList, pm.length_eq, Array.length_toList]
      exact T.laid pm (by have f := relayAll_fits t1 ms1 (SetTable.grown ms1.size); first | exact f | (rw [sz]; exact f)) (relayAll_ris t1 ms1 _ ) (relayAll_led t1 ms1 _)
    generalize relayAll t1 ms1 (SetTable.grown ms1.size) = Z at T2 ⊢
    refine wpAny_bind (hg _ _ _ (wpAny_bind (wpAny_storeSet_of h1 rfl (wpAny_pure (hR _ (b1.trans (Heap.SameBut.update _ a _)) ⟨_, _, _, _, store_at h1 rfl, hx, rfl, T2⟩)) (fits_of_scanBound T2.few))))
  · rw [if_neg c]
    exact wpAny_pure (hR _ b1 ⟨_, _, _, _, h1, hx, rfl, T⟩)
end
end FS

set_option Elab.async false
set_option linter.all false
set_option maxRecDepth 100000
set_option maxHeartbeats 4000000
namespace FS
open PySem PySem.Spec PyProof.Rows L2
section
variable {P : Program} {w : World} {A : Around} {E : Value → Shared → Prop} {s : Shared} {a : Addr} {xs : List Str}
theorem put1 {x : Str} {tk : Tok} {Q : Bool → Shared → Prop} (R : SetS w s.heap a xs) (room : xs.length + 1 < scanBound)
    (hQ : ∀ h', Heap.SameBut a s.heap h' → SetS w h' a (addS xs x) → ∀ b, Q b { s with heap := h' }) : wpAny (model P w) A (setAddHashed a (.str x tk) ((strKind P w).hash x)) Q E s := by
  obtain ⟨o, ms, ep, t, ho, hx, hd, T⟩ := R
  have key := strKind_is P w x tk
  have el : ElemsOf (strKind P w) ms.toList := T.elems
  have sc : (Value.str x tk).scannable = true := rfl
  have quietly : ∀ (b : Bool) {s1 : Shared} {Q1 : Unit → Shared → Prop}, Q1 () s1 → wpAny (model P w) A (match b with | true => rule "set.scan.the-table-gave-way" | false => pure ()) Q1 E s1 := fun b _ _ q => by
    cases b
    · exact wpAny_pure q
    · exact wpAny_rule q
  unfold setAddHashed setAddHashedIn
  refine wpAny_holding (wpAny_bind (wpAny_setState_of ho hd T.fit ?_))
  dsimp only
  rw [byScan_of sc T.few el]
  simp only [↓reduceIte]
  unfold setAddByScan
  refine wpAny_bind (wpAny_bind (wpAny_rule (wpAny_bind (wpAny_setScan_of key ho hd T.fit el ?_))))
  cases hf : List.findIdx? (fun e => (strKind P w).is x e.2) ms.toList with
  | some j =>
    obtain ⟨hj, pj, _⟩ := List.findIdx?_eq_some_iff_getElem.mp hf
    have hm : x ∈ xs := (T.has (P := P) x).mpr ⟨_, List.getElem_mem hj, pj⟩
    refine wpAny_pure (wpAny_pure (hQ s.heap (Heap.SameBut.refl a s.heap) ?_ _))
    unfold addS
    rw [if_pos hm]
    exact ⟨o, ms, ep, t, ho, hx, hd, T⟩
  | none =>
    have hm : x ∉ xs := fun z => by
      obtain ⟨m, h1, h2⟩ := (T.has (P := P) x).mp z
      have h3 := List.findIdx?_eq_none_iff.mp hf m h1
      rw [h2] at h3
      cases h3
    dsimp only
    have T1 : Tab w (addS xs x) (layNew t ms ((strKind P w).hash x) (.str x tk)).1 (layNew t ms ((strKind P w).hash x) (.str x tk)).2.1 := by
      have pm := layNew_perm t ms ((strKind P w).hash x) (.str x tk)
      rw [Array.toList_push] at pm
      have pc := pm.trans (List.perm_append_singleton _ _)
      have e : addS xs x = xs ++ [x] := by
        unfold addS
        rw [if_neg hm]
      have pk : ((layNew t ms ((strKind P w).hash x) (.str x tk)).1.toList.map txt).Perm (xs ++ [x]) := ((pc.map txt).trans (List.Perm.cons x T.perm)).trans (List.perm_append_singleton x xs).symm
      have sz : (layNew t ms ((strKind P w).hash x) (.str x tk)).1.size = xs.length + 1 := by
        rw [← Array.length_toList, ← List.length_map (f := txt), pk.length_eq, List.length_append]
        rfl
      rw [e]
      refine ⟨fun m h => ?_, pk, List.nodup_append.mpr ⟨T.nd, (by simp), fun y hy z hz => ?_⟩, by rw [sz]; exact room, layNew_fits t ms _ _, layNew_ris t ms _ _ T.ris, T.ord.imp id fun z => (layNew_led t ms _ _).trans z⟩
      · rcases List.mem_cons.mp (pc.mem_iff.mp h) with z | z
        · exact ⟨x, tk, z⟩
        · exact T.mem m z
      · rw [List.mem_singleton.mp hz]
        intro e2
        exact hm (e2 ▸ hy)
    generalize layNew t ms ((strKind P w).hash x) (.str x tk) = Z at T1 ⊢
    obtain ⟨ms1, t1, was, gave⟩ := Z
    dsimp only at T1 ⊢
    refine wpAny_bind (quietly _ ?_)
    split
    · refine wpAny_bind ?_
      rw [hashByValue_scannable 8 sc]
      refine wpAny_pure ?_
      refine stored (fun b _ _ q => quietly b q) ho hx hd (xs := addS xs x) ?_ fun h' sb r => ?_
      · first | exact T1 | (split <;> first | exact T1 | exact ⟨T1.mem, T1.perm, T1.nd, T1.few, SetTable.fits_plain_off T1.fit, T1.ris, T1.ord⟩)
      · dsimp only
        exact wpAny_pure (hQ h' sb r _)
    · refine wpAny_bind (wpAny_pure ?_)
      simp only [↓reduceIte]
      refine stored (fun b _ _ q => quietly b q) ho hx hd T1 fun h' sb r => ?_
      dsimp only
      exact wpAny_pure (hQ h' sb r _)
theorem put {x : Str} {tk : Tok} {Q : Value → Shared → Prop} (R : SetS w s.heap a xs) (room : xs.length + 1 < scanBound)
    (hQ : ∀ h' tk', Heap.SameBut a s.heap h' → SetS w h' a (addS xs x) → Q .none { s with heap := h', toks := tk' }) : wpAny (model P w) A (call (.builtin "set.add") [.ref a, .str x tk]) Q E s := by
  refine wpAny_call_entry F.slot_set_add (R.of (P := P)).typeIs F.entry_set_add ?_ (F.args_set_add_2 _ _)
  unfold Builtin.«set.add» Builtin.Frozenset.oneOther
  simp only [List.isEmpty_nil, bind_assoc]
  unfold Builtin.Frozenset.addrOf setAdd
  refine wpAny_bind (wpAny_pure (wpAny_bind (wpAny_pure (wpAny_bind (wpAny_holding (wpAny_bind ((strKind P w).pyHash (strKind_is P w x tk) ?_)))))))
  refine put1 (s := { s with toks := s.toks + 1 }) R room fun h' sb r b => ?_
  show wpAny _ _ (ret Value.none) _ _ _
  exact wpAny_pure ⟨_, rfl, hQ h' _ sb r⟩
theorem SetS.new {h : Heap} (w : World) : SetS w (h.push { cls := .type "set", dict := none, data := .set #[] 0 (.fresh 0 0 (!w.params.followText "set-order")) }) h.objs.size [] := by
  refine ⟨_, #[], 0, _, Heap.get?_push_size _ rfl, ⟨rfl, rfl, rfl⟩, rfl, ⟨(fun m hm => by cases hm), List.Perm.nil, List.nodup_nil, by decide, rfl, List.Pairwise.nil, ?_⟩⟩
  show w.params.followText "set-order" = true ∨ (!w.params.followText "set-order") = true
  cases w.params.followText "set-order"
  · exact .inr rfl
  · exact .inl rfl
end
/-- the set of the texts xs, as what is tracked -/
def SO (w : World) (a : Addr) (xs : List Str) : HO := .ext fun h => SetS w h a xs
theorem SO.mk {P : Program} {w : World} {H : Hp} {h : Heap} {a : Addr} {xs : List Str} (R : SetS w h a xs) : ObjOk P w H h a (SO w a xs) := by
  obtain ⟨o, ms, ep, t, ho, r⟩ := id R
  exact ⟨R, ⟨o, ho⟩, fun h1 h2 ⟨o1, m1, e1, t1, g1, r1⟩ k => ⟨o1, m1, e1, t1, k o1 g1, r1⟩⟩
section
variable {X : Cx} {pins : List (Addr × Obj)} {σ : L2.St} {H : Hp} {s : Shared}
theorem SO.at {a : Addr} {xs : List Str} (I : Inv X pins σ H s) (ha : H a = some (SO X.w a xs)) : SetS X.w s.heap a xs := (I.hok a _ ha).1
theorem SO.put {E : Value → Shared → Prop} {A : Around} {D : Addr} {xs : List Str} {x : Str} {tk : Tok} {Q : Value → Shared → Prop} (I : Inv X pins σ H s) (hD : H D = some (SO X.w D xs)) (room : xs.length + 1 < scanBound)
    (h : ∀ s', Inv X pins σ (upd H D (SO X.w D (addS xs x))) s' → Q .none s') : wpAny (model X.prog X.w) A (call (.builtin "set.add") [.ref D, .str x tk]) Q E s := by
  refine FS.put (SO.at I hD) room fun h' tk' sb r => h _ (I.write (e := D) (t' := tk') (by rw [hD]; trivial) (.inl rfl) (fun b u hb hu => (sb.2 b hb).trans hu) ?_ (SO.mk r))
  obtain ⟨o, _, _, _, ho, _⟩ := r
  exact ⟨o, ho⟩
end
end FS

set_option Elab.async false
set_option linter.all false
set_option maxRecDepth 100000
set_option maxHeartbeats 4000000
namespace FS
open PySem PySem.Spec PyProof.Rows L2
/-! ### {elt for target in iter if ..}, elt a text -/
section
variable {X : Cx}
def tSet (w : World) (wi : TI) (g : TG) (tt : TT) (te : TE) (vs : List Nat) : TE := fun σ H Q => wi σ H fun J H1 => ∀ D, H1 D = none →
  ∃ W : Nat → Nat → Hp → Prop, (∃ m, W 0 m (upd H1 D (SO w D []))) ∧ ∀ i m H2, W i m H2 → (J.stop i H2 ∧ Q (.ref D) H2) ∨
    (J.go i H2 ∧ ∃ Nx : Hp → Prop, (∀ H', Nx H' → ∃ m', m' < m ∧ W (i + 1) m' H') ∧ ∀ x H3, J.yld i H2 x H3 → g x (wipe σ vs) H3 fun σ2 H4 => wipe σ2 vs = wipe σ vs ∧ tt σ2 H4 fun b H5 =>
      if b = true then te σ2 H5 fun y H6 => ∃ (z : Str) (xs : List Str), y = .str z ∧ H6 D = some (SO w D xs) ∧ xs.length + 1 < scanBound ∧ Nx (upd H6 D (SO w D (addS xs z))) else Nx H5)
theorem pe_set {elt tg iter : Expr} {ifs : List Expr} {scope : Scope} {own : List (PySem.Str × Nat)} {pos : Pos} {wi : TI} {g : TG} {tt : TT} {te : TE} (hc : X.calm = true) (hN : X.N.Nodup) (hi : PI X tg iter wi) (ok : BlkOk X.N X.env.scope scope own)
    (hg : ∀ (s : Shared) (H : Hp) (C : Addr) (cl : List (PySem.Str × Addr)) (fp : List Addr), PG (X.blk s H scope (compEnvC scope cl C X.env) fp) tg g)
    (ht : ∀ (s : Shared) (H : Hp) (C : Addr) (cl : List (PySem.Str × Addr)) (fp : List Addr), PTs (X.blk s H scope (compEnvC scope cl C X.env) fp) ifs tt)
    (he : ∀ (s : Shared) (H : Hp) (C : Addr) (cl : List (PySem.Str × Addr)) (fp : List Addr), PE (X.blk s H scope (compEnvC scope cl C X.env) fp) elt te) (hs : ∀ x, foldedSetIterable iter X.env x = pure x := by intro _; rfl) :
    PE X (.SetComp elt [⟨tg, iter, ifs, 0⟩] scope pos) (tSet X.w wi g tt te (own.map (·.2))) := by
  refine ⟨fun pins s σ H Q I h => ?_⟩
  rw [PpSet.eval_SetComp]
  have hfree : ∀ y ∈ scope.names, y.2 = .free → ∃ c, X.env.cells.lookup y.1 = some c := fun y hy e => by
    rcases ok.free y hy e with k | k
    · exact I.ok.has _ (.inl k)
    · exact I.ok.has _ (.inr k)
  refine wpAny_comprehension_free (use := none) rfl hs (closure_ok hfree) ok.kind (fun y hy e => by rw [ok.uniq y hy, e]) (thn (hi.run pins s σ H _ I h) fun xv s1 hx => thn hx fun itv s2 h2 => ?_)
  obtain ⟨it, fp, tn, J, H2, rfl, I2, T, st2, f2, q⟩ := h2
  refine PpSet.newSet_ok (newEnv_comp ?_)
  obtain ⟨D, eD⟩ : ∃ D, s2.heap.objs.size = D := ⟨_, rfl⟩
  rw [eD]
  have hDn : H2 D = none := I2.hok.fresh (Nat.le_of_eq eD)
  obtain ⟨W, ⟨m0, w0⟩, turn⟩ := q D hDn
  obtain ⟨s3, es3⟩ : ∃ s3 : Shared, { s2 with heap := s2.heap.push { cls := .type "set", dict := none, data := .set #[] 0 (.fresh 0 0 (!X.w.params.followText "set-order")) } } = s3 := ⟨_, rfl⟩
  have kept : ∀ b o, s2.heap.get? b = some o → s3.heap.get? b = some o := fun b o e => by
    rw [← es3]
    exact Heap.get?_push_of_some _ e
  have grown : s3.heap.objs.size = s2.heap.objs.size + 1 := by
    rw [← es3]
    exact Heap.size_push ..
  have I3 : Inv X pins σ (upd H2 D (SO X.w D [])) s3 := by
    rw [← es3]
    refine I2.laid (t' := s2.toks) (fun b o e => Heap.get?_push_of_some _ e) (Nat.le_of_eq eD) (SO.mk ?_)
    rw [← eD]
    exact SetS.new X.w
  rw [es3]
  clear es3
  have below : ∀ b ∈ fp, b < s2.heap.objs.size := fun b hb => by
    obtain ⟨o, e, _⟩ := T.obj _ _ st2 b hb
    exact Heap.lt_size e
  obtain ⟨H3, eH3⟩ : ∃ H3, upd H2 D (SO X.w D []) = H3 := ⟨_, rfl⟩
  have f3 : ∀ b ∈ fp, FpOk X pins H3 b ∧ b < s3.heap.objs.size := fun b hb => by
    have lt := below b hb
    have ne : b ≠ D := fun z => Nat.lt_irrefl _ (by rw [z, ← eD] at lt; exact lt)
    refine ⟨⟨?_, (f2 b hb).2⟩, by rw [grown]; exact Nat.lt_succ_of_lt lt⟩
    rw [← eH3, upd_ne ne]
    exact (f2 b hb).1
  rw [eH3] at I3 w0
  have st3 : tn 0 s3.heap := T.keep _ _ _ st2 fun b _ o e => kept b o e
  have I4 := block_start I3 ok hN f3
  have pg := hg s3 H3 s3.heap.objs.size (cellsFrom (s3.heap.objs.size + 1) scope.names (cloFrom X.env.cells scope.names [])) fp
  have pt := ht s3 H3 s3.heap.objs.size (cellsFrom (s3.heap.objs.size + 1) scope.names (cloFrom X.env.cells scope.names [])) fp
  have pe := he s3 H3 s3.heap.objs.size (cellsFrom (s3.heap.objs.size + 1) scope.names (cloFrom X.env.cells scope.names [])) fp
  obtain ⟨ce, ece⟩ : ∃ ce, compEnvC scope (cellsFrom (s3.heap.objs.size + 1) scope.names (cloFrom X.env.cells scope.names [])) s3.heap.objs.size X.env = ce := ⟨_, rfl⟩
  obtain ⟨s4, es4⟩ : ∃ s4 : Shared, { s3 with heap := pushCells (s3.heap.push { cls := .type "dict", data := .dict #[] }) scope.names } = s4 := ⟨_, rfl⟩
  have locals : ce.locals = s3.heap.objs.size := by
    rw [← ece]
    rfl
  have st4 : tn 0 s4.heap := T.keep _ _ _ st3 fun b _ o e => by
    rw [← es4]
    exact pushCells_keeps _ _ _ _ (Heap.get?_push_of_some _ e)
  rw [ece] at I4 pg pt pe
  rw [es4] at I4
  have none3 : ∀ b ∈ fp, H3 b = none := fun b hb => (f3 b hb).1.1
  have still : ∀ {σ' : L2.St} {H' : Hp} {s' : Shared}, Inv (X.blk s3 H3 scope ce fp) [] σ' H' s' → (∀ b ∈ fp, H' b = none) → ∀ b ∈ fp, FpOk (X.blk s3 H3 scope ce fp) [] H' b := fun {σ' H' s'} I' hn b hb =>
    ⟨hn b hb, (I'.ok.exf b hb).1, I'.ok.exfs b hb, .inl hb, fun x c e => (I'.ok.exf b hb).2 x c e, fun p hp => absurd (show p ∈ ([] : List (Addr × Obj)) ++ [] from hp) (by simp)⟩
  show codeAny _ _ (.compStart (.SetComp elt [⟨tg, iter, ifs, 0⟩] scope pos) 0 (.ref it) (.ref D) (compEnvC scope (cellsFrom (s3.heap.objs.size + 1) scope.names (cloFrom X.env.cells scope.names [])) s3.heap.objs.size X.env)) _ { s3 with heap := pushCells (s3.heap.push { cls := .type "dict", data := .dict #[] }) scope.names }
  rw [ece, es4]
  refine PpSet.codeAny_compStart_set ?_ (T.self X.A 0 _ _ _ st4 ?_)
  all_goals
    refine PpSet.compLoopS_any (fun n s' => ∃ i H', Inv (X.blk s3 H3 scope ce fp) [] (wipe σ (own.map (·.2))) H' s' ∧ tn i s'.heap ∧ (∀ b ∈ fp, H' b = none) ∧ W i n H') ?_ m0 ⟨0, H3, I4, st4, none3, w0⟩
    rintro n s5 ⟨i, H5, I5, st5, n5, w5⟩
    rcases turn i n H5 w5 with ⟨stop, qq⟩ | ⟨go, Nx, hNx, step⟩
    · refine thnF (T.done (X.blk s3 H3 scope ce fp) rfl rfl rfl hc i [] s5 _ H5 (fun _ _ => False) I5 (still I5 n5) st5 stop) fun r s6 ⟨hr, I6⟩ => ?_
      subst hr
      have I7 : Inv X pins σ H5 s6 := I3.call' (ch := fp) I6.os I6.base I6.hok I6.bare fun b hb => ⟨(f3 b hb).1.2.2.2.1, (f3 b hb).1.2.1, (f3 b hb).1.2.2.2.2.1, (f3 b hb).1.2.2.2.2.2⟩
      have nC : H5 s3.heap.objs.size = none := by
        have z : H5 ce.locals = none := I6.free
        rw [locals] at z
        exact z
      obtain ⟨m, hn, _⟩ := I6.loc
      have hn : s6.heap.Ns ce.locals m := hn
      rw [locals] at hn
      obtain ⟨g0, g1, g2, g3, g4, g5⟩ := I3.fpOk (Nat.le_refl _) nC
      exact ⟨m, hn, fun h'' sb => ⟨.ref D, H5, I7.turned (t' := s6.toks) (fun b o hb e => (sb.2 b hb).trans e) g0 g1 g3 g4 g5, rfl, qq⟩⟩
    · refine thnF (T.item (X.blk s3 H3 scope ce fp) rfl rfl rfl hc i [] s5 _ H5 (fun _ _ => False) I5 (still I5 n5) st5 go) fun r s6 ⟨u, hr, h6⟩ => ?_
      subst hr
      refine thnF h6 fun _ s7 ⟨x, H7, I7, r7, y7, st7, n7⟩ => ?_
      refine thnF (pg.run _ s7 _ H7 x u _ (I7.pinned (still I7 n7) (T.obj _ _ st7)) r7 (step x H7 y7)) fun _ s8 ⟨σ8, H8, I8, hw8, q8⟩ => ?_
      refine thnF (pt.run _ s8 σ8 H8 _ I8 q8) fun b s9 ⟨H9, I9, q9⟩ => ?_
      have fin : ∀ {s' : Shared} {H' : Hp}, Inv (X.blk s3 H3 scope ce fp) ([] ++ pinsAt fp s7.heap) σ8 H' s' → Nx H' → ∃ m, m < n ∧ ∃ i H', Inv (X.blk s3 H3 scope ce fp) [] (wipe σ (own.map (·.2))) H' s' ∧ tn i s'.heap ∧ (∀ b ∈ fp, H' b = none) ∧ W i m H' := fun {s' H'} I' nx => by
        obtain ⟨m', hm, w'⟩ := hNx H' nx
        have pinned : ∀ b ∈ fp, ∀ o, s7.heap.get? b = some o → s'.heap.get? b = some o ∧ H' b = none := fun b hb o e =>
          let z := I'.pin (b, o) (List.mem_append_right _ (List.mem_append_right _ (mem_pinsAt hb e)))
          ⟨z.1, z.2.1⟩
        refine ⟨m', hm, i + 1, H', (I'.unpinned (pins := [])).weak (by rw [← hw8, wipe_length]) (fun j v e => ?_), T.keep _ _ _ st7 fun b hb o e => (pinned b hb o e).1, fun b hb => ?_, w'⟩
        · rw [← hw8] at e
          exact (wipe_some e).1
        · obtain ⟨o, e, _⟩ := T.obj _ _ st7 b hb
          exact (pinned b hb o e).2
      cases b with
      | false =>
        rw [if_neg Bool.false_ne_true] at q9 ⊢
        exact fin I9 q9
      | true =>
        rw [if_pos rfl] at q9 ⊢
        refine thnF (pe.run _ s9 σ8 H9 _ I9 q9) fun z s10 ⟨yv, H10, I10, r10, zt, zs, ey, hD10, hz10, nx⟩ => ?_
        subst ey
        obtain ⟨tk, rfl⟩ := (show ∃ tk, z = Value.str zt tk from r10)
        exact SO.put (X := X.blk s3 H3 scope ce fp) I10 hD10 hz10 fun s11 I11 => fin I11 nx
end
end FS

set_option Elab.async false
set_option linter.all false
set_option maxRecDepth 100000
set_option maxHeartbeats 4000000
namespace FS
open PySem PySem.Spec PyProof.Rows L2
theorem strs_members {w : World} : ∀ (ms : List (Int × Value)) (vs : List Value), (∀ m ∈ ms, Mem1 w m) → vs.Perm (ms.map (·.2)) → ∃ ys : List Str, StrsAre vs ys ∧ ys.Perm (ms.map txt) := fun ms vs h p => by
  have all : ∀ v ∈ vs, ∃ x t, v = Value.str x t := fun v hv => by
    obtain ⟨m, hm, e⟩ := List.mem_map.mp (p.mem_iff.mp hv)
    obtain ⟨x, tk, rfl⟩ := h m hm
    exact ⟨x, tk, e.symm⟩
  refine ⟨vs.map strOf, strsAre_map vs all, (p.map strOf).trans (List.Perm.of_eq ?_)⟩
  rw [List.map_map]
  refine List.map_congr_left fun m hm => ?_
  obtain ⟨x, tk, rfl⟩ := h m hm
  rfl
section
variable {P : Program} {w : World} {A : Around} {E : Value → Shared → Prop} {s : Shared} {a : Addr} {xs : List Str}
theorem ranked {Q : Value → Shared → Prop} (R : SetS w s.heap a xs) (hh : A.handled = none) (hz : xs.length ≤ 4096)
    (hQ : ∀ s' p (out : Array Value) (c : Nat) (ys : List Str), (∀ b o, s.heap.get? b = some o → s'.heap.get? b = some o) → s'.gens = s.gens → s'.os = s.os → s.heap.objs.size ≤ p →
      s'.heap.get? p = some (seqObj "list" out c) → StrsAre out.toList ys → ys.Perm xs → sortedS ys = true → Q (.ref p) s') : wpAny (model P w) A (call (.builtin "sorted") [.ref a]) Q E s := by
  obtain ⟨o, ms, ep, t, ho, hx, hd, T⟩ := R
  refine Calls.call_function_entry kind_sorted plain_sorted entry_sorted (args_sorted1 _) ?_
  unfold Builtin.«sorted»
  refine wpAny_bind (m := checkCount "sorted" 1 1 _) (wpAny_pure (wpAny_bind (collect_set (A := A.in1) hh ⟨o, ho, hx.1, hd⟩ T.fit T.few T.ris T.ord fun s1 vs k1 z1 g1 o1 pm => ?_)))
  obtain ⟨zs, hS, pz⟩ := strs_members ms.toList vs T.mem pm
  have len : vs.length = xs.length := by
    rw [pm.length_eq, List.length_map, Array.length_toList]
    exact T.size
  have le : vs.length ≤ sizeLine := by
    rw [sizeLine_eq]
    omega
  refine wpAny_bind (wpAny_newList ?_ le)
  have hL : (s1.heap.push (seqObj "list" vs.toArray 0)).get? s1.heap.objs.size = some (seqObj "list" vs.toArray 0) := Heap.get?_push_size _ rfl
  refine wpAny_bind (wpAny_holding (wpAny_call_entry slot_list_sort ⟨_, hL, rfl⟩ entry_list_sort (list_sort_treeKAny strKind_oneLt hL hS.keysOf (fun v1 v2 rest e => keyKind_strs (by rw [← e]; exact hS)) le fun st' hp hs => ?_) (args_list_sort _)))
  obtain ⟨ys, h1, h2, h3⟩ := sorted_out_str hS hp hs
  obtain ⟨c, hc⟩ := sortedHeap_at (vs := vs) (out := (arrOf st').map (·.2)) hL
  refine ⟨.none, rfl, wpAny_pure ⟨.ref s1.heap.objs.size, rfl, hQ _ s1.heap.objs.size _ c ys (fun b u e => ?_) g1 o1 z1 hc h1 (h2.trans (pz.trans T.perm)) h3⟩⟩
  have q := k1 b u e
  have lt := Heap.lt_size q
  show (sortedHeap (s1.heap.push (seqObj "list" vs.toArray 0)) s1.heap.objs.size vs _).get? b = some u
  rw [sortedHeap_old (Nat.ne_of_lt lt) (by rw [size_push']; exact Nat.lt_succ_of_lt lt)]
  exact Heap.get?_push_of_some _ q
end
section
variable {X : Cx}
/-- sorted(a set of texts) -/
theorem cr_ranked (hc : X.calm = true) : CallR X (.builtin "sorted") (fun vs H Q => ∃ (a : Addr) (xs : List Str), vs = [V.ref a] ∧ H a = some (SO X.w a xs) ∧ xs.length ≤ 4096 ∧
    ∀ (ys : List Str) (p : Addr), ys.Perm xs → sortedS ys = true → H p = none → Q (.ref p) (upd H p (.lst (ys.map V.str)))) := by
  intro pins s σ H vs us Q I r h
  obtain ⟨a, xs, rfl, ha, hz, q⟩ := h
  rw [Vals.ref1 r]
  refine ranked (SO.at I ha) (I.ok.hd hc) hz fun s' p out c ys k g o hp hg hi pm hs => ?_
  have le : (ys.map V.str).length ≤ sizeLine := by
    rw [List.length_map, pm.length_eq, sizeLine_eq]
    omega
  have hn : H p = none := I.hok.fresh hp
  have J : Inv X pins σ (upd H p (.lst (ys.map V.str))) { s with heap := s'.heap, gens := s'.gens, drawn := s'.drawn, toks := s'.toks } :=
    I.call (ch := []) (Un.laid k hp hn) (I.hok.laid k hp ⟨le, out.toList, c, vals_of_strs hi, hg⟩) (by rw [g]; exact I.bare) (fun _ z => nomatch z)
  have e : s' = { s with heap := s'.heap, gens := s'.gens, drawn := s'.drawn, toks := s'.toks } := by
    obtain ⟨_, _, _, _, _⟩ := s'
    obtain ⟨_, _, _, _, _⟩ := s
    cases o
    rfl
  rw [e]
  exact ⟨.ref p, _, J, rfl, q ys p pm hs hn⟩
/-- len(a set of texts) -/
theorem cr_many : CallR X (.builtin "len") (fun vs H Q => ∃ (a : Addr) (xs : List Str), vs = [V.ref a] ∧ H a = some (SO X.w a xs) ∧ Q (.int xs.length) H) := by
  intro pins s σ H vs us Q I r h
  obtain ⟨a, xs, rfl, ha, q⟩ := h
  rw [Vals.ref1 r]
  obtain ⟨o, ms, ep, t, ho, hx, hd, T⟩ := SO.at I ha
  have e := T.size
  refine call_len_set ho hx hd T.fit (by have := T.few; have l : scanBound ≤ 2 ^ 62 := by decide
                                         omega) ⟨.int xs.length, H, I.tok _, ⟨_, by rw [e]⟩, q⟩
end
end FS

set_option Elab.async false
set_option linter.all false
set_option maxRecDepth 100000
set_option maxHeartbeats 4000000
namespace FS
open PySem PySem.Spec PyProof.Rows L2
/-! ### rules -/
section
variable {X : Cx}
def rInT (K : PySem.W.Frag) (neg : Bool) : R2 := fun x y H Q => ∃ d ds, Dp K H x d ∧ Dp K H y (.tuple ds) ∧ SeqAt.shaped d = true ∧ SeqAt.shaped (.tuple ds) = true ∧ Q (.bl (if neg then !(ds.any fun z => PyData.eqv z d) else ds.any fun z => PyData.eqv z d)) H
theorem op_inT (hu : X.A.units + 65 < cLine) : OpR X (compareOp .In) (rInT X.K false) := by
  intro pins s σ H x y v u Q I rx ry h
  obtain ⟨d, ds, hd, he, sd, se, q⟩ := h
  obtain ⟨as, r1⟩ := Dp.reads I d x v hd rx
  obtain ⟨bs, r2⟩ := Dp.reads I (.tuple ds) y u he ry
  exact SeqAt.in_tuple_reads r2 r1 (SeqAt.canLay_of_shaped se) (SeqAt.canLay_of_shaped sd) (room_in_shaped sd hu) ⟨.bl _, H, I, rfl, q⟩
theorem op_notInT (hu : X.A.units + 65 < cLine) : OpR X (compareOp .NotIn) (rInT X.K true) := by
  intro pins s σ H x y v u Q I rx ry h
  obtain ⟨d, ds, hd, he, sd, se, q⟩ := h
  obtain ⟨as, r1⟩ := Dp.reads I d x v hd rx
  obtain ⟨bs, r2⟩ := Dp.reads I (.tuple ds) y u he ry
  exact SeqAt.notIn_tuple_reads r2 r1 (SeqAt.canLay_of_shaped se) (SeqAt.canLay_of_shaped sd) (room_in_shaped sd hu) ⟨.bl _, H, I, rfl, q⟩
theorem mulTup0 (l : Addr) (items : Array Value) (n : Nat) (dd : Option Addr) (sl : Array (Option Value)) (u : Tok) (hi : items.isEmpty = false) :
    Meets (Builtin.«tuple.__mul__» ⟨[.ref l, .int 0 u], []⟩) (fun _ R s => s.heap.get? l = some { cls := .type "tuple", dict := dd, data := .seq items n, slots := sl } ∧
      R (.ok (.ret (Value.ref s.heap.objs.size))) { s with heap := s.heap.push { cls := Value.type "tuple", data := Data.seq #[] }, toks := s.toks }) :=
  .of_wp fun prog w A R s h => by
    obtain ⟨hp, g, d, tk, os⟩ := s
    obtain ⟨hl, h⟩ := h
    have f1 := AutoSeq1.idx_int
    wp_walk using wpAny_loadPart' hl
    repeat (first
      | (refine wpAny_ite_false (by decide) ?_; wp_walk using wpAny_loadPart' hl)
      | (refine wpAny_ite_false (decide_eq_false (by rw [hi]; decide)) ?_; wp_walk using wpAny_loadPart' hl)
      | (refine wpAny_ite_true (by decide) ?_; wp_walk using wpAny_loadPart' hl))
    exact ⟨_, rfl, h⟩
theorem mulTup1 (l : Addr) (items : Array Value) (n : Nat) (dd : Option Addr) (sl : Array (Option Value)) (u : Tok) (hi : items.isEmpty = false) :
    Meets (Builtin.«tuple.__mul__» ⟨[.ref l, .int 1 u], []⟩) (fun _ R s => s.heap.get? l = some { cls := .type "tuple", dict := dd, data := .seq items n, slots := sl } ∧ R (.ok (.ret (Value.ref l))) s) :=
  .of_wp fun prog w A R s h => by
    obtain ⟨hp, g, d, tk, os⟩ := s
    obtain ⟨hl, h⟩ := h
    have f1 := AutoSeq1.idx_int
    wp_walk using wpAny_loadPart' hl
    repeat (first
      | (refine wpAny_ite_false (by decide) ?_; wp_walk using wpAny_loadPart' hl)
      | (refine wpAny_ite_true (by rw [hi]; decide) ?_; wp_walk using wpAny_loadPart' hl)
      | (refine wpAny_ite_true (by decide) ?_; wp_walk using wpAny_loadPart' hl))
    exact ⟨_, rfl, h⟩
/-- tuple * int, any count from 0 on -/
def rRepA (K : PySem.W.Frag) : R2 := fun x y H Q => ∃ (l : Addr) (k : Nat) (xs : List V), x = .ref l ∧ y = .int (k : Int) ∧ SqT K H l xs ∧ xs ≠ [] ∧ k ≤ 1000 ∧ xs.length ≤ 1000 ∧ ∀ p H', Same H H' → SqT K H' p (List.replicate k xs).flatten → Q (.ref p) H'
theorem same_upd {H : Hp} {p : Addr} {o : HO} (h : H p = none) : Same H (upd H p o) := fun b x e => by
  rw [upd_ne (ne_of_none e h)]
  exact e
theorem op_repA : OpR X (binaryOp .Mult) (rRepA X.K) := by
  intro pins s σ H x y v u Q I rx ry h
  obtain ⟨l, k, xs, rfl, rfl, hT, hne, hk, hz, q⟩ := h
  by_cases h2 : 2 ≤ k
  · exact op_repT pins s σ H (.ref l) (.int k) v u Q I rx ry ⟨l, k, xs, rfl, rfl, hT, hne, by omega, by omega, hz, fun p np => q p _ (same_upd np) (.inl (.inl (by
      rw [upd_same]
      rfl)))⟩
  · cases rx
    obtain ⟨t, rfl⟩ := ry
    obtain ⟨its, r, ⟨⟨cls, dd, data, sl⟩, ho, hc, n, hd⟩, hs⟩ := I.tuple hT
    simp only at hc hd
    subst hc hd
    have hi : its.toArray.isEmpty = false := by
      cases its with
      | nil =>
        cases r
        exact absurd rfl hne
      | cons a b => rfl
    have k01 : k = 0 ∨ k = 1 := by omega
    rcases k01 with rfl | rfl
    · refine wpAny_binaryOp_repeat_ref (T := "tuple") (U := "int") (by decide) ⟨_, ho, rfl⟩ (fun s' => typeIs_int s' _ t) noFill_tuple_mul F.fills_int_mul F.slot_int_rmul repeat_tuple F.slot_int_index.lookup
        (call_meets F.slot_int_rmul (typeIs_int s _ t) F.entry_int_rmul (F.args_int_rmul_2 _ _) (int_rmul_tuple _ t l its.toArray n dd sl)
          ⟨ho, rfl, ⟨_, ho, rfl⟩, call_meets F.slot_tuple_mul ⟨_, ho, rfl⟩ F.entry_tuple_mul (F.args_tuple_mul_2 _ _) (mulTup0 l its.toArray n dd sl t hi) ⟨ho, ?_⟩⟩)
      have np : H s.heap.objs.size = none := I.hok.fresh (Nat.le_refl _)
      exact ⟨.ref _, upd H s.heap.objs.size (.tup []), I.laid (t' := s.toks) (fun b o e => Heap.get?_push_of_some _ e) (Nat.le_refl _) ⟨Nat.zero_le _, [], .nil, _, Heap.get?_push_size _ rfl, rfl, 0, rfl⟩, rfl, q _ _ (same_upd np) (.inl (.inl upd_same))⟩
    · refine wpAny_binaryOp_repeat_ref (T := "tuple") (U := "int") (by decide) ⟨_, ho, rfl⟩ (fun s' => typeIs_int s' _ t) noFill_tuple_mul F.fills_int_mul F.slot_int_rmul repeat_tuple F.slot_int_index.lookup
        (call_meets F.slot_int_rmul (typeIs_int s _ t) F.entry_int_rmul (F.args_int_rmul_2 _ _) (int_rmul_tuple _ t l its.toArray n dd sl)
          ⟨ho, rfl, ⟨_, ho, rfl⟩, call_meets F.slot_tuple_mul ⟨_, ho, rfl⟩ F.entry_tuple_mul (F.args_tuple_mul_2 _ _) (mulTup1 l its.toArray n dd sl t hi) ⟨ho, ?_⟩⟩)
      exact ⟨.ref l, H, I, rfl, q l H (.refl H) (by
        show SqT X.K H l ([xs].flatten)
        rw [List.flatten_singleton]
        exact hT)⟩
end
/-! ### data that stays -/
theorem Same.sqT {K : PySem.W.Frag} {H H' : Hp} {a : Addr} {xs : List V} (e : Same H H') (h : SqT K H a xs) : SqT K H' a xs := by
  rcases h with (h | ⟨o, h⟩) | h
  · exact .inl (.inl (e _ _ h))
  · exact .inl (.inr ⟨o, e _ _ h⟩)
  · exact .inr h
/-- all but lists is as it was -/
def Stay (H H' : Hp) : Prop := ∀ b o, (∀ xs, o ≠ .lst xs) → H b = some o → H' b = some o
theorem Stay.of {H H' : Hp} (e : Same H H') : Stay H H' := fun b o _ h => e b o h
theorem Stay.trans {H H1 H2 : Hp} (a : Stay H H1) (b : Stay H1 H2) : Stay H H2 := fun c o n h => b c o n (a c o n h)
theorem Stay.sqT {K : PySem.W.Frag} {H H' : Hp} {a : Addr} {xs : List V} (e : Stay H H') (h : SqT K H a xs) : SqT K H' a xs := by
  rcases h with (h | ⟨o, h⟩) | h
  · exact .inl (.inl (e _ _ (fun _ z => by cases z) h))
  · exact .inl (.inr ⟨o, e _ _ (fun _ z => by cases z) h⟩)
  · exact .inr h
mutual
/-- data without lists -/
def noL : PyData → Bool
  | .list _ => false
  | .tuple ds => noLs ds
  | _ => true
def noLs : List PyData → Bool
  | [] => true
  | d :: r => noL d && noLs r
end
mutual
theorem Dp.stay {K : PySem.W.Frag} {H H' : Hp} (e : Stay H H') : ∀ {v : V} {d : PyData}, noL d = true → Dp K H v d → Dp K H' v d
  | _, _, _, .non => .non
  | _, _, _, .bl b => .bl b
  | _, _, _, .int i => .int i
  | _, _, _, .str x => .str x
  | _, _, n, .lst _ _ => by cases n
  | _, _, n, .tup h r => .tup (e.sqT h) (DpAll.stay e n r)
theorem DpAll.stay {K : PySem.W.Frag} {H H' : Hp} (e : Stay H H') : ∀ {vs : List V} {ds : List PyData}, noLs ds = true → DpAll K H vs ds → DpAll K H' vs ds
  | _, _, _, .nil => .nil
  | _, _, n, .cons h r => by
    have n2 := Bool.and_eq_true_iff.mp (show (noL _ && noLs _) = true from n)
    exact .cons (Dp.stay e n2.1 h) (DpAll.stay e n2.2 r)
end
theorem DpAll.get {K : PySem.W.Frag} {H : Hp} : ∀ {vs : List V} {ds : List PyData}, DpAll K H vs ds → ∀ {i : Nat} {v : V}, vs[i]? = some v → ∃ d, ds[i]? = some d ∧ Dp K H v d
  | _, _, .nil, i, v, h => by simp at h
  | _, _, .cons h r, 0, v, e => ⟨_, rfl, by
      rw [← Option.some.inj e]
      exact h⟩
  | _, _, .cons h r, i + 1, v, e => DpAll.get r e
theorem DpAll.put {K : PySem.W.Frag} {H : Hp} : ∀ {vs : List V} {ds : List PyData}, DpAll K H vs ds → ∀ {i : Nat} {d : PyData}, ds[i]? = some d → ∃ v, vs[i]? = some v ∧ Dp K H v d
  | _, _, .nil, i, v, h => by simp at h
  | _, _, .cons h r, 0, v, e => ⟨_, rfl, by
      rw [← Option.some.inj e]
      exact h⟩
  | _, _, .cons h r, i + 1, v, e => DpAll.put r e
theorem DpAll.len {K : PySem.W.Frag} {H : Hp} : ∀ {vs : List V} {ds : List PyData}, DpAll K H vs ds → vs.length = ds.length
  | _, _, .nil => rfl
  | _, _, .cons _ r => congrArg (· + 1) (DpAll.len r)
theorem DpAll.app {K : PySem.W.Frag} {H : Hp} : ∀ {vs : List V} {ds : List PyData}, DpAll K H vs ds → ∀ {ws es}, DpAll K H ws es → DpAll K H (vs ++ ws) (ds ++ es)
  | _, _, .nil, _, _, r => r
  | _, _, .cons h r, _, _, r2 => .cons h (DpAll.app r r2)
theorem DpAll.drop {K : PySem.W.Frag} {H : Hp} : ∀ (n : Nat) {vs : List V} {ds : List PyData}, DpAll K H vs ds → DpAll K H (vs.drop n) (ds.drop n)
  | 0, _, _, r => r
  | n + 1, _, _, .nil => .nil
  | n + 1, _, _, .cons _ r => DpAll.drop n r
theorem ty_tup {K : PySem.W.Frag} {H : Hp} {a : Addr} {xs : List V} (h : SqT K H a xs) : TyX K H (.ref a) (.type "tuple") := by
  rcases h with (h | ⟨o, h⟩) | ⟨o, its, n, h, c, _⟩
  · exact .base (.tup h)
  · exact .fTuple h
  · exact .kTuple h c
theorem eqv_tnil (d : PyData) (ds : List PyData) : PyData.eqv (.tuple (d :: ds)) (.tuple []) = false := rfl
end FS

set_option Elab.async false
set_option linter.all false
set_option maxRecDepth 100000
set_option maxHeartbeats 4000000
namespace FS
open PySem PySem.Spec PyProof.Rows L2
/-! ### terms and wraps -/
inductive Hd
  | deed (w : Str) (t : List (Option Nat))
  | seq
  | alt
  | run (x : Str)
  | call (n : Str)
  | wrp
  | own (x : Str)
  | wth (n : Str)
inductive Tm
  | mk (h : Hd) (ks : List Tm)
def Tm.hd : Tm → Hd
  | .mk h _ => h
def Tm.kids : Tm → List Tm
  | .mk _ ks => ks
def entryD : Option Nat → PyData
  | none => .none
  | some n => .int n
def Hd.tag : Hd → Str
  | .deed _ _ => "do"
  | .seq => "seq"
  | .alt => "or"
  | .run _ => "run"
  | .call _ => "call"
  | .wrp => "wrap"
  | .own _ => "own"
  | .wth _ => "with"
def Hd.rest : Hd → List PyData
  | .deed w t => [.str w, .tuple (t.map entryD)]
  | .run x => [.str x]
  | .call n => [.str n]
  | .own x => [.str x]
  | .wth n => [.str n]
  | _ => []
mutual
def Tm.data : Tm → PyData
  | .mk h ks => .tuple (.str h.tag :: (h.rest ++ datas ks))
def datas : List Tm → List PyData
  | [] => []
  | t :: r => t.data :: datas r
end
theorem datas_map : ∀ ks : List Tm, datas ks = ks.map Tm.data
  | [] => rfl
  | t :: r => by
    show t.data :: datas r = t.data :: r.map Tm.data
    rw [datas_map r]
theorem datas_app (a b : List Tm) : datas (a ++ b) = datas a ++ datas b := by
  rw [datas_map, datas_map, datas_map, List.map_append]
theorem datas_len (ks : List Tm) : (datas ks).length = ks.length := by
  rw [datas_map, List.length_map]
mutual
/-- a term and all that are in it, in the order in which they begin -/
def Tm.all : Tm → List Tm
  | .mk h ks => .mk h ks :: alls ks
def alls : List Tm → List Tm
  | [] => []
  | t :: r => t.all ++ alls r
end
theorem all_eq (t : Tm) : t.all = t :: alls t.kids := by
  cases t
  rfl
def Tm.count (t : Tm) : Nat := t.all.length
def counts (ks : List Tm) : Nat := (alls ks).length
theorem count_eq (t : Tm) : t.count = 1 + counts t.kids := by
  unfold Tm.count
  rw [all_eq]
  show counts t.kids + 1 = _
  omega
theorem counts_cons (t : Tm) (r : List Tm) : counts (t :: r) = t.count + counts r := by
  show (t.all ++ alls r).length = _
  rw [List.length_append]
  rfl
theorem counts_app (a b : List Tm) : counts (a ++ b) = counts a + counts b := by
  induction a with
  | nil => simp [counts, alls]
  | cons t r ih =>
    rw [List.cons_append, counts_cons, counts_cons, ih]
    omega
mutual
def Tm.deep : Tm → Nat
  | .mk _ ks => deeps ks + 1
def deeps : List Tm → Nat
  | [] => 0
  | t :: r => max t.deep (deeps r)
end
theorem deeps_mem : ∀ {ks : List Tm} {t : Tm}, t ∈ ks → t.deep ≤ deeps ks
  | u :: r, t, h => by
    show t.deep ≤ max u.deep (deeps r)
    rcases List.mem_cons.mp h with rfl | h
    · omega
    · have := deeps_mem h
      omega
theorem deep_kid {t u : Tm} (h : u ∈ t.kids) : u.deep < t.deep := by
  cases t with
  | mk hd ks =>
    have := deeps_mem (show u ∈ ks from h)
    show u.deep < deeps ks + 1
    omega
def Hd.isW : Hd → Bool
  | .own _ => true
  | .wth _ => true
  | _ => false
def Tm.isW (t : Tm) : Bool := t.hd.isW
def kd (b : Bool) : Str := if b then "wrap" else "block"
/-- a name -/
def sgn (c : Nat) : Bool := !decide (([c] : List Nat) < ("a" : Str).cps.toList) && !decide (("z" : Str).cps.toList < [c])
def wordB (z : Str) : Bool := decide (1 ≤ (z.length : Int) ∧ (z.length : Int) ≤ 8) && z.cps.toList.all sgn
/-- what can stand at the head of a term, with some parameters -/
def Hd.ok (own : List (Str × Bool)) : Hd → Nat → Bool
  | .deed w t, n => wordB w && decide (1 ≤ t.length ∧ t.length ≤ 3) && t.all (fun e => match e with | none => true | some n => decide (n < 3)) && decide (n = 0)
  | .seq, _ => true
  | .alt, n => decide (0 < n)
  | .run x, n => decide ((x, false) ∈ own) && decide (n = 0)
  | .call m, _ => wordB m
  | .wrp, n => decide (n = 2)
  | .own x, n => decide ((x, true) ∈ own) && decide (n = 0)
  | .wth m, _ => wordB m
/-- which kinds the kids may have -/
def Hd.kidsOk : Hd → List Bool → Bool
  | .wrp, ks => decide (ks = [true, false])
  | .call _, _ => true
  | .wth _, _ => true
  | _, ks => ks.all (! ·)
/-- a term (or wrap) that is one by its form -/
inductive Good (own : List (Str × Bool)) : Tm → Prop
  | mk {h : Hd} {ks : List Tm} (ok : h.ok own ks.length = true) (kk : h.kidsOk (ks.map Tm.isW) = true) (kids : ∀ t ∈ ks, Good own t) : Good own (.mk h ks)
/-! ### its data can be looked at -/
theorem sgn_asc {c : Nat} (h : sgn c = true) : c < 128 := by
  unfold sgn at h
  obtain ⟨_, h2⟩ := Bool.and_eq_true_iff.mp h
  have h3 : ¬ (("z" : Str).cps.toList < [c]) := by simpa using h2
  have e : ("z" : Str).cps.toList = [122] := by decide +kernel
  rw [e] at h3
  by_cases l : 122 < c
  · exact absurd (List.Lex.rel l) h3
  · omega
theorem word_ok {z : Str} (h : wordB z = true) : PyData.strOk z = true ∧ z.length ≤ 8 := by
  obtain ⟨h1, h2⟩ := Bool.and_eq_true_iff.mp h
  have h3 := of_decide_eq_true h1
  refine ⟨?_, by omega⟩
  unfold PyData.strOk
  rw [← Array.all_toList]
  refine List.all_eq_true.mpr fun c hc => decide_eq_true ?_
  have := sgn_asc (List.all_eq_true.mp h2 c hc)
  omega
end FS

set_option Elab.async false
set_option linter.all false
set_option maxRecDepth 100000
set_option maxHeartbeats 4000000
namespace FS
open PySem PySem.Spec PyProof.Rows L2
theorem entries_plain : ∀ t : List (Option Nat), noLs (t.map entryD) = true ∧ PyData.canLayAll0 (t.map entryD) = true ∧ PyData.depthAll (t.map entryD) = 0
  | [] => ⟨rfl, rfl, rfl⟩
  | none :: r => entries_plain r
  | some n :: r => by
    obtain ⟨h1, h2, h3⟩ := entries_plain r
    refine ⟨h1, h2, ?_⟩
    show max 0 (PyData.depthAll (r.map entryD)) = 0
    rw [h3]
    rfl
theorem noLs_app : ∀ (a b : List PyData), noLs (a ++ b) = (noLs a && noLs b)
  | [], b => rfl
  | d :: r, b => by
    show (noL d && noLs (r ++ b)) = ((noL d && noLs r) && noLs b)
    rw [noLs_app r b, Bool.and_assoc]
theorem lay_app : ∀ (a b : List PyData), PyData.canLayAll0 (a ++ b) = (PyData.canLayAll0 a && PyData.canLayAll0 b)
  | [], b => rfl
  | d :: r, b => by
    show (PyData.canLay0 d && PyData.canLayAll0 (r ++ b)) = ((PyData.canLay0 d && PyData.canLayAll0 r) && PyData.canLayAll0 b)
    rw [lay_app r b, Bool.and_assoc]
theorem depth_app : ∀ (a b : List PyData), PyData.depthAll (a ++ b) = max (PyData.depthAll a) (PyData.depthAll b)
  | [], b => by
    show _ = max 0 _
    simp
  | d :: r, b => by
    show max (PyData.depth d) (PyData.depthAll (r ++ b)) = max (max (PyData.depth d) (PyData.depthAll r)) (PyData.depthAll b)
    rw [depth_app r b]
    omega
theorem rest_plain (h : Hd) : noLs h.rest = true ∧ PyData.depthAll h.rest ≤ 1 := by
  cases h with
  | deed w t =>
    obtain ⟨h1, _, h3⟩ := entries_plain t
    refine ⟨?_, ?_⟩
    · show (true && ((noLs (t.map entryD)) && true)) = true
      rw [h1]
      rfl
    · show max 0 (max (PyData.depthAll (t.map entryD) + 1) 0) ≤ 1
      rw [h3]
      decide
  | seq => exact ⟨rfl, Nat.zero_le _⟩
  | alt => exact ⟨rfl, Nat.zero_le _⟩
  | run x => exact ⟨rfl, Nat.zero_le _⟩
  | call n => exact ⟨rfl, Nat.zero_le _⟩
  | wrp => exact ⟨rfl, Nat.zero_le _⟩
  | own x => exact ⟨rfl, Nat.zero_le _⟩
  | wth n => exact ⟨rfl, Nat.zero_le _⟩
mutual
theorem Tm.noL : ∀ t : Tm, FS.noL t.data = true
  | .mk h ks => by
    show (true && noLs (h.rest ++ datas ks)) = true
    rw [noLs_app, (rest_plain h).1, noL_datas ks]
    rfl
theorem noL_datas : ∀ ks : List Tm, noLs (datas ks) = true
  | [] => rfl
  | t :: r => by
    show (FS.noL t.data && noLs (datas r)) = true
    rw [Tm.noL t, noL_datas r]
    rfl
end
mutual
theorem Tm.depth : ∀ t : Tm, t.data.depth ≤ t.deep + 1
  | .mk h ks => by
    show max 0 (PyData.depthAll (h.rest ++ datas ks)) + 1 ≤ (deeps ks + 1) + 1
    rw [depth_app]
    have h1 := (rest_plain h).2
    have h2 := depth_datas ks
    omega
theorem depth_datas : ∀ ks : List Tm, PyData.depthAll (datas ks) ≤ deeps ks + 1
  | [] => Nat.zero_le _
  | t :: r => by
    show max t.data.depth (PyData.depthAll (datas r)) ≤ max t.deep (deeps r) + 1
    have h1 := Tm.depth t
    have h2 := depth_datas r
    omega
end
/-- what parameters must be -/
structure ParOk (own : List (Str × Bool)) : Prop where
  few : own.length ≤ 3
  nms : ∀ p ∈ own, wordB p.1 = true
  nd : (own.map (·.1)).Nodup
theorem tag_ok (h : Hd) : PyData.strOk h.tag = true := by
  cases h with
  | deed w t => exact (show PyData.strOk "do" = true by decide +kernel)
  | seq => exact (show PyData.strOk "seq" = true by decide +kernel)
  | alt => exact (show PyData.strOk "or" = true by decide +kernel)
  | run x => exact (show PyData.strOk "run" = true by decide +kernel)
  | call n => exact (show PyData.strOk "call" = true by decide +kernel)
  | wrp => exact (show PyData.strOk "wrap" = true by decide +kernel)
  | own x => exact (show PyData.strOk "own" = true by decide +kernel)
  | wth n => exact (show PyData.strOk "with" = true by decide +kernel)
theorem rest_lay {own : List (Str × Bool)} {h : Hd} {n : Nat} (po : ∀ p ∈ own, wordB p.1 = true) (ok : h.ok own n = true) : PyData.canLayAll0 h.rest = true := by
  cases h with
  | deed w t =>
    have h1 := (Bool.and_eq_true_iff.mp (Bool.and_eq_true_iff.mp (Bool.and_eq_true_iff.mp ok).1).1).1
    show (PyData.strOk w && (PyData.canLayAll0 (t.map entryD) && true)) = true
    rw [(word_ok h1).1, (entries_plain t).2.1]
    rfl
  | run x =>
    have h1 := of_decide_eq_true (Bool.and_eq_true_iff.mp ok).1
    show (PyData.strOk x && true) = true
    rw [(word_ok (po _ h1)).1]
    rfl
  | own x =>
    have h1 := of_decide_eq_true (Bool.and_eq_true_iff.mp ok).1
    show (PyData.strOk x && true) = true
    rw [(word_ok (po _ h1)).1]
    rfl
  | call n =>
    show (PyData.strOk n && true) = true
    rw [(word_ok (show wordB n = true from ok)).1]
    rfl
  | wth n =>
    show (PyData.strOk n && true) = true
    rw [(word_ok (show wordB n = true from ok)).1]
    rfl
  | seq => rfl
  | alt => rfl
  | wrp => rfl
theorem lay_all : ∀ ds : List PyData, (∀ d ∈ ds, d.canLay0 = true) → PyData.canLayAll0 ds = true
  | [], _ => rfl
  | d :: r, h => by
    show (PyData.canLay0 d && PyData.canLayAll0 r) = true
    rw [h d List.mem_cons_self, lay_all r fun x hx => h x (List.mem_cons_of_mem _ hx)]
    rfl
theorem Good.lay {own : List (Str × Bool)} (po : ∀ p ∈ own, wordB p.1 = true) {t : Tm} (g : Good own t) : t.data.canLay0 = true := by
  induction g with
  | @mk h ks ok kk kids ih =>
    show (PyData.strOk h.tag && PyData.canLayAll0 (h.rest ++ datas ks)) = true
    rw [tag_ok, lay_app, rest_lay po ok, datas_map]
    rw [lay_all (ks.map Tm.data) fun d hd => by
      obtain ⟨t, ht, rfl⟩ := List.mem_map.mp hd
      exact ih t ht]
    rfl
theorem Good.shaped {own : List (Str × Bool)} (po : ∀ p ∈ own, wordB p.1 = true) {t : Tm} (g : Good own t) (hd : t.deep ≤ 60) : SeqAt.shaped t.data = true := by
  unfold SeqAt.shaped
  rw [g.lay po, decide_eq_true (by have := t.depth; omega)]
  rfl
theorem Good.kid {own : List (Str × Bool)} {t u : Tm} (g : Good own t) (h : u ∈ t.kids) : Good own u := by
  cases g with
  | mk ok kk kids => exact kids u h
/-- the parameters as data -/
def parD (p : Str × Bool) : PyData := .tuple [.str p.1, .str (kd p.2)]
def parsD (own : List (Str × Bool)) : PyData := .tuple (own.map parD)
theorem kd_inj {a b : Bool} (h : kd a = kd b) : a = b := by
  cases a <;> cases b <;> first | rfl | exact absurd h (by decide +kernel)
theorem eqv_pair (a b c d : Str) : PyData.eqv (.tuple [.str a, .str b]) (.tuple [.str c, .str d]) = (a == c && b == d) := by
  simp [PyData.eqv, PyData.eqvAll]
theorem any_par (own : List (Str × Bool)) (x : Str) (k : Bool) : ((own.map parD).any fun z => PyData.eqv z (parD (x, k))) = decide ((x, k) ∈ own) := by
  induction own with
  | nil => rfl
  | cons p r ih =>
    rw [List.map_cons, List.any_cons, ih]
    have e : PyData.eqv (parD p) (parD (x, k)) = decide (p = (x, k)) := by
      show PyData.eqv (.tuple [.str p.1, .str (kd p.2)]) (.tuple [.str x, .str (kd k)]) = _
      rw [eqv_pair]
      obtain ⟨y, j⟩ := p
      by_cases e : (y, j) = (x, k)
      · cases e
        simp
      · rw [decide_eq_false e]
        refine Bool.eq_false_iff.mpr fun z => e ?_
        obtain ⟨h1, h2⟩ := Bool.and_eq_true_iff.mp z
        rw [show y = x from beq_iff_eq.mp h1, show j = k from kd_inj (beq_iff_eq.mp h2)]
    rw [e]
    by_cases e1 : p = (x, k)
    · simp [e1]
    · have e2 : ¬ (x, k) = p := fun z => e1 z.symm
      simp [e1, e2]
theorem pars_shaped {own : List (Str × Bool)} (po : ParOk own) : SeqAt.shaped (parsD own) = true := by
  have h1 : PyData.canLayAll0 (own.map parD) = true := lay_all _ fun d hd => by
    obtain ⟨p, hp, rfl⟩ := List.mem_map.mp hd
    show (PyData.strOk p.1 && (PyData.strOk (kd p.2) && true)) = true
    rw [(word_ok (po.nms p hp)).1]
    cases p.2 <;> decide +kernel
  have h2 : ∀ l : List (Str × Bool), PyData.depthAll (l.map parD) ≤ 1 := fun l => by
    induction l with
    | nil => exact Nat.zero_le _
    | cons p r ih =>
      show max (max 0 (max 0 0) + 1) (PyData.depthAll (r.map parD)) ≤ 1
      omega
  unfold SeqAt.shaped
  rw [show PyData.canLay0 (parsD own) = true from h1, decide_eq_true (show PyData.depth (parsD own) ≤ 64 by
    show PyData.depthAll (own.map parD) + 1 ≤ 64
    have := h2 own
    omega)]
  rfl
theorem par_shaped {x : Str} (k : Bool) (h : PyData.strOk x = true) : SeqAt.shaped (parD (x, k)) = true := by
  have h1 : PyData.canLay0 (parD (x, k)) = true := by
    show (PyData.strOk x && (PyData.strOk (kd k) && true)) = true
    rw [h]
    cases k <;> decide +kernel
  unfold SeqAt.shaped
  rw [h1]
  rfl
theorem pars_noL (own : List (Str × Bool)) : noL (parsD own) = true := by
  show noLs (own.map parD) = true
  induction own with
  | nil => rfl
  | cons p r ih => exact ih
end FS

set_option Elab.async false
set_option linter.all false
set_option maxRecDepth 100000
set_option maxHeartbeats 4000000
namespace FS
open PySem PySem.Spec PyProof.Rows L2
structure Cal (P : Program) (w : World) (K : PySem.W.Frag) (mg : Str → Option Value) (base : Heap) (k : Nat) (x : Str) (ps : List Str) (sp : Sp) : Prop where
  ex : ∃ (f : Addr) (fd : FuncData), FnOk P w K mg base CX0 k f fd ps sp ∧ mg x = some (.ref f) ∧ PySem.W.keepIn K (.ref f) = true ∧ Binds K fd ps []
theorem pe_own {X : Cx} {x : Str} {k : Nat} {ps : List Str} {sp : Sp} {e : Expr} {es : List Expr} {t : TA} {p pos : Pos} (C : Cal X.prog X.w X.K X.mg X.base k x ps sp) (hr : Room k X.A) (hg : Gl X x) (ha : PA X (e :: es) t) (hdb : (x == ("__debug__" : Str)) = false := by decide)
    (he : starEach (e :: es) X.env = (false, eval e X.env) :: starEach es X.env := by rfl) (hpl : (backTo pos (starEach es X.env)).any (·.1) = false := by rfl) : PE X (.Call (.Name x p) (e :: es) [] pos) (tCall sp [] E0 t) := by
  obtain ⟨f, fd, F, m, kp, b⟩ := C.ex
  exact pe_call F hr hg m kp b .nil pass0 ha hdb he hpl
/-- a constant tuple of the module -/
def TupC (K : PySem.W.Frag) (mg : Str → Option Value) (x : Str) (ys : List Str) : Prop := ∃ a, mg x = some (.ref a) ∧ ∀ H, SqT K H a (ys.map V.str)
/-- what the module's names are -/
structure Nm (K : PySem.W.Frag) (mg : Str → Option Value) : Prop where
  b_isinstance : mg "isinstance" = none
  b_str : mg "str" = none
  b_tuple : mg "tuple" = none
  b_list : mg "list" = none
  b_bool : mg "bool" = none
  b_len : mg "len" = none
  b_all : mg "all" = none
  b_int : mg "int" = none
  b_abs : mg "abs" = none
  b_max : mg "max" = none
  b_min : mg "min" = none
  b_range : mg "range" = none
  b_zip : mg "zip" = none
  b_sorted : mg "sorted" = none
  b_set : mg "set" = none
  g_MAX_LETTERS : ∃ t, mg "MAX_LETTERS" = some (.int 8 t)
  g_MAX_MODES : ∃ t, mg "MAX_MODES" = some (.int 3 t)
  g_MAX_PARAMETERS : ∃ t, mg "MAX_PARAMETERS" = some (.int 3 t)
  g_MAX_DEPTH : ∃ t, mg "MAX_DEPTH" = some (.int 6 t)
  g_MAX_TERMS : ∃ t, mg "MAX_TERMS" = some (.int 40 t)
  g_KINDS : TupC K mg "KINDS" ["block", "wrap"]
  g_TERM_TAGS : TupC K mg "TERM_TAGS" ["do", "seq", "or", "run", "call", "wrap"]
  g_WRAP_TAGS : TupC K mg "WRAP_TAGS" ["own", "with"]
theorem Stay.refl (H : Hp) : Stay H H := fun _ _ _ h => h
/-- v is the term t -/
structure TmAt (K : PySem.W.Frag) (H : Hp) (own : List (Str × Bool)) (v : V) (t : Tm) : Prop where
  dp : Dp K H v t.data
  good : Good own t
  po : ParOk own
  low : t.deep ≤ 60
theorem TmAt.stay {K : PySem.W.Frag} {H H' : Hp} {own : List (Str × Bool)} {v : V} {t : Tm} (a : TmAt K H own v t) (e : Stay H H') : TmAt K H' own v t := ⟨Dp.stay e t.noL a.dp, a.good, a.po, a.low⟩
theorem TmAt.same {K : PySem.W.Frag} {H H' : Hp} {own : List (Str × Bool)} {v : V} {t : Tm} (a : TmAt K H own v t) (e : Same H H') : TmAt K H' own v t := a.stay (.of e)
theorem DpAll.split {K : PySem.W.Frag} {H : Hp} : ∀ {ds es : List PyData} {vs : List V}, DpAll K H vs (ds ++ es) → ∃ us ws, vs = us ++ ws ∧ DpAll K H us ds ∧ DpAll K H ws es
  | [], es, vs, r => ⟨[], vs, rfl, .nil, r⟩
  | d :: ds, es, _, .cons h r => by
    obtain ⟨us, ws, rfl, h1, h2⟩ := DpAll.split r
    exact ⟨_ :: us, ws, rfl, .cons h h1, h2⟩
theorem Dp.tup_inv {K : PySem.W.Frag} {H : Hp} {v : V} {ds : List PyData} (h : Dp K H v (.tuple ds)) : ∃ a xs, v = .ref a ∧ SqT K H a xs ∧ DpAll K H xs ds := by
  cases h with
  | tup s r => exact ⟨_, _, rfl, s, r⟩
theorem Dp.str_inv {K : PySem.W.Frag} {H : Hp} {v : V} {x : Str} (h : Dp K H v (.str x)) : v = .str x := by
  cases h
  rfl
theorem tm_open {K : PySem.W.Frag} {H : Hp} {v : V} {h : Hd} {ks : List Tm} (d : Dp K H v (Tm.mk h ks).data) : ∃ a rs kv, v = .ref a ∧ SqT K H a (V.str h.tag :: (rs ++ kv)) ∧ DpAll K H rs h.rest ∧ DpAll K H kv (datas ks) := by
  obtain ⟨a, xs, rfl, s, r⟩ := Dp.tup_inv (show Dp K H v (.tuple (.str h.tag :: (h.rest ++ datas ks))) from d)
  cases r with
  | cons h1 r =>
    cases Dp.str_inv h1
    obtain ⟨rs, kv, rfl, r1, r2⟩ := DpAll.split r
    exact ⟨a, rs, kv, rfl, s, r1, r2⟩
theorem inV_strs (x : Str) (ys : List Str) : inV (.str x) (ys.map V.str) = decide (x ∈ ys) := by
  unfold inV
  rw [List.any_map]
  induction ys with
  | nil => rfl
  | cons y r ih =>
    rw [List.any_cons, ih]
    have e : ((fun y => eqV y (V.str x)) ∘ V.str) y = decide (y = x) := by
      show eqV (V.str y) (V.str x) = _
      unfold eqV
      by_cases h : y = x <;> simp [h]
    rw [e]
    by_cases h : y = x
    · simp [h]
    · have h2 : ¬ x = y := fun z => h z.symm
      simp [h, h2]
theorem flat_strs (ys : List Str) : (ys.map V.str).all flatV = true := by
  rw [List.all_map]
  exact List.all_eq_true.mpr fun _ _ => rfl
theorem cut_from (xs : List V) (k : Nat) : cutV xs (some (k : Int)) none = xs.drop k := by
  unfold cutV
  rw [HT.sIx_nat, HT.sIx_none]
  by_cases h : k ≤ xs.length
  · rw [Nat.min_eq_left h]
    exact List.take_of_length_le (by rw [List.length_drop]; exact Nat.le_refl _)
  · have h2 : xs.length ≤ k := by omega
    rw [Nat.min_eq_right h2, List.drop_eq_nil_of_le (Nat.le_refl _), List.drop_eq_nil_of_le h2]
    simp
def Hd.leaf : Hd → Bool
  | .deed _ _ => true
  | .run _ => true
  | .own _ => true
  | _ => false
theorem Good.leaf {own : List (Str × Bool)} {h : Hd} {ks : List Tm} (g : Good own (.mk h ks)) (l : h.leaf = true) : ks = [] := by
  cases g with
  | mk ok kk kids =>
    refine List.eq_nil_of_length_eq_zero ?_
    cases h with
    | deed w t => exact of_decide_eq_true (Bool.and_eq_true_iff.mp ok).2
    | run x => exact of_decide_eq_true (Bool.and_eq_true_iff.mp ok).2
    | own x => exact of_decide_eq_true (Bool.and_eq_true_iff.mp ok).2
    | _ => cases l
/-! ### promises of the program's functions -/
def spKind (K : PySem.W.Frag) : Sp := fun vs H Q _ => ∃ (own : List (Str × Bool)) (v : V) (t : Tm), vs = [v] ∧ TmAt K H own v t ∧ ∀ H', Same H H' → Q (.str (kd t.isW)) H'
def spParts (K : PySem.W.Frag) : Sp := fun vs H Q _ => ∃ (own : List (Str × Bool)) (v : V) (t : Tm), vs = [v] ∧ Dp K H v t.data ∧ Good own t ∧ ∀ H' p kv, Same H H' → SqT K H' p kv → DpAll K H' kv (datas t.kids) → Q (.ref p) H'
def Hd.allow : Hd → Nat → List (List Bool)
  | .wrp, _ => [[true], [false]]
  | .call _, n => List.replicate n [false, true]
  | .wth _, n => List.replicate n [false, true]
  | _, n => List.replicate n [false]
def kindsD (bs : List Bool) : PyData := .tuple (bs.map fun b => .str (kd b))
def spKinds (K : PySem.W.Frag) : Sp := fun vs H Q _ => ∃ (own : List (Str × Bool)) (v : V) (t : Tm), vs = [v] ∧ Dp K H v t.data ∧ Good own t ∧ t.kids.length ≤ 100 ∧ ∀ H' p kv, Same H H' → SqT K H' p kv → DpAll K H' kv ((t.hd.allow t.kids.length).map kindsD) → Q (.ref p) H'
def spAll (K : PySem.W.Frag) (n : Nat) : Sp := fun vs H Q _ => ∃ (own : List (Str × Bool)) (v : V) (t : Tm), vs = [v] ∧ Dp K H v t.data ∧ Good own t ∧ t.deep ≤ n ∧ t.count ≤ 10000 ∧ ∀ H' p xs, Same H H' → H p = none → H' p = some (.lst xs) → DpAll K H' xs (datas t.all) → Q (.ref p) H'
def spInt : Sp := fun vs H Q _ => ∃ v, vs = [v] ∧ ((∃ i, v = .int i ∧ Q (.bl true) H) ∨ (v = .non ∧ Q (.bl false) H))
def spIntIn : Sp := fun vs H Q _ => ∃ i a b : Int, vs = [.int i, .int a, .int b] ∧ Q (.bl (decide (a ≤ i) && decide (i ≤ b))) H
def tableB (t : List (Option Nat)) : Bool := decide (1 ≤ t.length ∧ t.length ≤ 3) && t.all (fun e => match e with | none => true | some n => decide (n < 3))
def spTable (K : PySem.W.Frag) : Sp := fun vs H Q _ => ∃ (v : V) (t : List (Option Nat)), vs = [v] ∧ Dp K H v (.tuple (t.map entryD)) ∧ t.length ≤ 100 ∧ ∀ H', Same H H' → Q (.bl (tableB t)) H'
def spName : Sp := fun vs H Q _ => ∃ z : Str, vs = [.str z] ∧ z.length ≤ 1000 ∧ ∀ H', Same H H' → Q (.bl (wordB z)) H'
def spForm (K : PySem.W.Frag) : Sp := fun vs H Q _ => ∃ (own : List (Str × Bool)) (v w : V) (t : Tm), vs = [v, w] ∧ TmAt K H own v t ∧ Dp K H w (parsD own) ∧ ∀ H', Same H H' → Q (.bl true) H'
def spPar (K : PySem.W.Frag) : Sp := fun vs H Q _ => ∃ (v : V) (p : Str × Bool), vs = [v] ∧ Dp K H v (parD p) ∧ wordB p.1 = true ∧ ∀ H', Same H H' → Q (.bl true) H'
def spPars (K : PySem.W.Frag) : Sp := fun vs H Q _ => ∃ (v : V) (own : List (Str × Bool)), vs = [v] ∧ Dp K H v (parsD own) ∧ ParOk own ∧ ∀ H', Same H H' → Q (.bl true) H'
def spTerm (K : PySem.W.Frag) : Sp := fun vs H Q _ => ∃ (own : List (Str × Bool)) (v w : V) (t : Tm), vs = [v, w] ∧ TmAt K H own v t ∧ Dp K H w (parsD own) ∧ t.isW = false ∧ t.count ≤ 40 ∧ t.deep ≤ 6 ∧ ∀ H', Same H H' → Q (.bl true) H'
end FS

set_option Elab.async false
set_option linter.all false
set_option maxRecDepth 100000
set_option maxHeartbeats 4000000
namespace FS
open PySem PySem.Spec PyProof.Rows L2
def Hd.is3 : Hd → Bool
  | .seq => true
  | .alt => true
  | .wrp => true
  | _ => false
def Hd.is2 : Hd → Bool
  | .call _ => true
  | .wth _ => true
  | _ => false
theorem tag3 : ∀ h : Hd, decide (h.tag ∈ [("seq" : Str), "or", "wrap"]) = h.is3
  | .deed _ _ => (show decide (("do" : Str) ∈ [("seq" : Str), "or", "wrap"]) = false by decide +kernel)
  | .seq => (show decide (("seq" : Str) ∈ [("seq" : Str), "or", "wrap"]) = true by decide +kernel)
  | .alt => (show decide (("or" : Str) ∈ [("seq" : Str), "or", "wrap"]) = true by decide +kernel)
  | .run _ => (show decide (("run" : Str) ∈ [("seq" : Str), "or", "wrap"]) = false by decide +kernel)
  | .call _ => (show decide (("call" : Str) ∈ [("seq" : Str), "or", "wrap"]) = false by decide +kernel)
  | .wrp => (show decide (("wrap" : Str) ∈ [("seq" : Str), "or", "wrap"]) = true by decide +kernel)
  | .own _ => (show decide (("own" : Str) ∈ [("seq" : Str), "or", "wrap"]) = false by decide +kernel)
  | .wth _ => (show decide (("with" : Str) ∈ [("seq" : Str), "or", "wrap"]) = false by decide +kernel)
theorem tag2 : ∀ h : Hd, decide (h.tag ∈ [("call" : Str), "with"]) = h.is2
  | .deed _ _ => (show decide (("do" : Str) ∈ [("call" : Str), "with"]) = false by decide +kernel)
  | .seq => (show decide (("seq" : Str) ∈ [("call" : Str), "with"]) = false by decide +kernel)
  | .alt => (show decide (("or" : Str) ∈ [("call" : Str), "with"]) = false by decide +kernel)
  | .run _ => (show decide (("run" : Str) ∈ [("call" : Str), "with"]) = false by decide +kernel)
  | .call _ => (show decide (("call" : Str) ∈ [("call" : Str), "with"]) = true by decide +kernel)
  | .wrp => (show decide (("wrap" : Str) ∈ [("call" : Str), "with"]) = false by decide +kernel)
  | .own _ => (show decide (("own" : Str) ∈ [("call" : Str), "with"]) = false by decide +kernel)
  | .wth _ => (show decide (("with" : Str) ∈ [("call" : Str), "with"]) = true by decide +kernel)
/-- which head a tag is of, as a number -/
def Hd.num : Hd → Nat
  | .deed _ _ => 0
  | .seq => 1
  | .alt => 2
  | .run _ => 3
  | .call _ => 4
  | .wrp => 5
  | .own _ => 6
  | .wth _ => 7
def tags : List Str := ["do", "seq", "or", "run", "call", "wrap", "own", "with"]
theorem tag_num : ∀ h : Hd, h.tag = tags.getD h.num ""
  | .deed _ _ => rfl
  | .seq => rfl
  | .alt => rfl
  | .run _ => rfl
  | .call _ => rfl
  | .wrp => rfl
  | .own _ => rfl
  | .wth _ => rfl
theorem num_lt (h : Hd) : h.num < 8 := by
  cases h <;> (show (_ : Nat) < 8) <;> first | exact (show 0 < 8 by decide) | exact (show 1 < 8 by decide) | exact (show 2 < 8 by decide) | exact (show 3 < 8 by decide) | exact (show 4 < 8 by decide) | exact (show 5 < 8 by decide) | exact (show 6 < 8 by decide) | exact (show 7 < 8 by decide)
theorem tags_inj : ∀ i, i < 8 → ∀ j, j < 8 → ((tags.getD i "" == tags.getD j "") = decide (i = j)) := by decide +kernel
/-- h.tag == a tag -/
theorem tag_eq (h : Hd) {x : Str} {j : Nat} (hx : tags.getD j "" = x := by rfl) (hj : j < 8 := by decide) : (h.tag == x) = decide (h.num = j) := by
  rw [tag_num h, ← hx]
  exact tags_inj _ (num_lt h) _ hj
theorem tag_dec (h : Hd) {x : Str} {j : Nat} (hx : tags.getD j "" = x := by rfl) (hj : j < 8 := by decide) : decide (V.str h.tag = V.str x) = decide (h.num = j) := by
  rw [← tag_eq h hx hj]
  by_cases e : h.tag = x <;> simp [e]
theorem rep_flat {α : Type} (k : Nat) (x : α) : (List.replicate k [x]).flatten = List.replicate k x := by
  induction k with
  | zero => rfl
  | succ k ih =>
    rw [List.replicate_succ, List.flatten_cons, ih]
    rfl
theorem DpAll.rep {K : PySem.W.Frag} {H : Hp} {v : V} {d : PyData} (h : Dp K H v d) : ∀ k, DpAll K H (List.replicate k v) (List.replicate k d)
  | 0 => .nil
  | k + 1 => .cons h (DpAll.rep h k)
theorem Hd.rest0 {K : PySem.W.Frag} {H : Hp} {h : Hd} {rs : List V} (r : DpAll K H rs h.rest) (e : h.is3 = true) : rs = [] := by
  cases h with
  | seq => cases r; rfl
  | alt => cases r; rfl
  | wrp => cases r; rfl
  | _ => cases e
theorem Hd.rest1 {K : PySem.W.Frag} {H : Hp} {h : Hd} {rs : List V} (r : DpAll K H rs h.rest) (e : h.is2 = true) : ∃ x, rs = [.str x] := by
  cases h with
  | call n => cases r with | cons h1 r => cases r; cases Dp.str_inv h1; exact ⟨_, rfl⟩
  | wth n => cases r with | cons h1 r => cases r; cases Dp.str_inv h1; exact ⟨_, rfl⟩
  | _ => cases e
theorem Good.kids0 {own : List (Str × Bool)} {h : Hd} {ks : List Tm} (g : Good own (.mk h ks)) (e3 : h.is3 ≠ true) (e2 : h.is2 ≠ true) : ks = [] := by
  cases h with
  | deed w t => exact g.leaf rfl
  | run x => exact g.leaf rfl
  | own x => exact g.leaf rfl
  | seq => exact absurd rfl e3
  | alt => exact absurd rfl e3
  | wrp => exact absurd rfl e3
  | call n => exact absurd rfl e2
  | wth n => exact absurd rfl e2
theorem at0 {x : V} {l : List V} : atI (x :: l) 0 = some x := atI_nat (j := 0) rfl
theorem at1 {x y : V} {l : List V} : atI (x :: y :: l) 1 = some y := atI_nat (j := 1) rfl
theorem at2 {x y z : V} {l : List V} : atI (x :: y :: z :: l) 2 = some z := atI_nat (j := 2) rfl
/-- part[k:] -/
theorem cut_tup {K : PySem.W.Frag} {H : Hp} {a : Addr} {xs : List V} {k : Nat} {Q : V → Hp → Prop} (sq : SqT K H a xs) (hk : 0 < k) (hne : xs ≠ []) (q : ∀ H' p, Same H H' → SqT K H' p (xs.drop k) → Q (.ref p) H') :
    rSlA K (.ref a) (some (k : Int)) none H Q := by
  have h0 : HT.sIx xs.length 0 (some (k : Int)) ≠ 0 := by
    rw [HT.sIx_nat]
    have : 0 < xs.length := List.length_pos_iff.mpr hne
    omega
  refine ⟨a, xs, rfl, sq, fun z => absurd z.1 h0, fun _ p np => q _ p (same_upd np) (.inl (.inl ?_))⟩
  rw [upd_same, cut_from]
end FS

set_option Elab.async false
set_option linter.all false
set_option maxRecDepth 100000
set_option maxHeartbeats 4000000
namespace FS
open PySem PySem.Spec PyProof.Rows L2
theorem getE {α : Type} {l : Array α} {i : Nat} {c : α} (h : l[i]? = some c) : l.toList[i]? = some c := by
  rw [Array.getElem?_toList]
  exact h
theorem take_one {α β : Type} {l : List α} {i : Nat} {c : α} (f : α → β) (h : l[i]? = some c) : ((l.take (i + 1)).map f) = (l.take i).map f ++ [f c] := by
  rw [List.take_add_one, h, List.map_append]
  rfl
theorem all_map (l : List Nat) : (l.map sgn).all id = l.all sgn := by
  rw [List.all_map]
  rfl
theorem small1000 {n : Nat} (h : n < 1000) : n < sizeLine := Nat.lt_trans h (by decide)
theorem small16 {n : Nat} (h : n < 16000) : n < sizeLine := Nat.lt_trans h (by decide)
theorem u65 {k : Nat} {A : Around} (r : L2.Room k A) : A.units + 65 < cLine := by
  have := r.un
  omega
theorem Stay.set {H : Hp} {p : Addr} {xs ys : List V} (e : H p = some (.lst xs)) : Stay H (upd H p (.lst ys)) := fun b o n h => by
  rw [upd_ne (fun z => n xs (by
    subst z
    rw [h] at e
    exact Option.some.inj e))]
  exact h
/-- what is new may change -/
theorem Same.set {H H1 : Hp} {p : Addr} {o : HO} (s : Same H H1) (n : H p = none) : Same H (upd H1 p o) := fun b x e => by
  rw [upd_ne (ne_of_none e n)]
  exact s b x e
theorem ix_tupK {X : Cx} {K : PySem.W.Frag} (h : X.K = K) : IxR X (rIxT K) := by
  subst h
  exact ix_tup
theorem addS_new {xs : List Str} {z : Str} (h : z ∉ xs) : addS xs z = xs ++ [z] := if_neg h
theorem take_new {α : Type} {l : List α} {i : Nat} {x : α} (f : α → Str) (nd : (l.map f).Nodup) (h : l[i]? = some x) : f x ∉ (l.take i).map f := fun m => by
  have h2 : (l.map f)[i]? = some (f x) := by rw [List.getElem?_map, h]; rfl
  have e : l.map f = (l.take i).map f ++ (f x :: (l.drop (i + 1)).map f) := by
    have h3 : l = l.take i ++ (x :: l.drop (i + 1)) := by
      have lt := (List.getElem?_eq_some_iff.mp h).1
      have e4 := (List.getElem?_eq_some_iff.mp h).2
      rw [← e4, List.getElem_cons_drop, List.take_append_drop]
    conv => lhs; rw [h3]
    rw [List.map_append, List.map_cons]
  rw [e] at nd
  exact (List.nodup_append.mp nd).2.2 _ m _ List.mem_cons_self rfl
/-- the set of texts, turn by turn -/
theorem set_list {w : World} {K : PySem.W.Frag} {a : Addr} {xs : List V} {g : TG} {tt : TT} {te : TE} {vs : List Nat} {σ : L2.St} {H1 : Hp} {D : Addr} {Qd : Hp → Prop} (Pv : Nat → Hp → Prop) (h0 : Pv 0 (upd H1 D (SO w D []))) (hl : ∀ i H, i ≤ xs.length → Pv i H → SqL K H a xs)
    (hs : ∀ i x H, xs[i]? = some x → Pv i H → g x (wipe σ vs) H fun σ2 H2 => wipe σ2 vs = wipe σ vs ∧ tt σ2 H2 fun b H3 =>
      if b = true then te σ2 H3 fun y H4 => ∃ (z : Str) (zs : List Str), y = .str z ∧ H4 D = some (SO w D zs) ∧ zs.length + 1 < scanBound ∧ Pv (i + 1) (upd H4 D (SO w D (addS zs z))) else Pv (i + 1) H3) (hd : ∀ H, Pv xs.length H → Qd H) :
    ∃ W : Nat → Nat → Hp → Prop, (∃ m, W 0 m (upd H1 D (SO w D []))) ∧ ∀ i m H, W i m H →
      ((Itl K a).stop i H ∧ Qd H) ∨ ((Itl K a).go i H ∧ ∃ Nx : Hp → Prop, (∀ H', Nx H' → ∃ m', m' < m ∧ W (i + 1) m' H') ∧ ∀ x H', (Itl K a).yld i H x H' → g x (wipe σ vs) H' fun σ2 H2 => wipe σ2 vs = wipe σ vs ∧ tt σ2 H2 fun b H3 =>
        if b = true then te σ2 H3 fun y H4 => ∃ (z : Str) (zs : List Str), y = .str z ∧ H4 D = some (SO w D zs) ∧ zs.length + 1 < scanBound ∧ Nx (upd H4 D (SO w D (addS zs z))) else Nx H3) := by
  refine ⟨fun i m H => m = xs.length - i ∧ i ≤ xs.length ∧ Pv i H, ⟨xs.length, by simp, Nat.zero_le _, h0⟩, ?_⟩
  rintro i m H ⟨rfl, hi, p⟩
  have q := hl i H hi p
  by_cases hlt : i < xs.length
  · refine .inr ⟨⟨xs, xs[i], q, by simp [hlt]⟩, Pv (i + 1), fun H' p' => ⟨xs.length - (i + 1), by omega, rfl, hlt, p'⟩, fun x H' y => ?_⟩
    obtain ⟨e, y⟩ := y
    subst e
    exact hs i x _ (y xs q) p
  · have e : i = xs.length := by omega
    subst e
    exact .inl ⟨⟨xs, q, Nat.le_refl _⟩, hd H p⟩
theorem set_tup {w : World} {K : PySem.W.Frag} {a : Addr} {xs : List V} {g : TG} {tt : TT} {te : TE} {vs : List Nat} {σ : L2.St} {H1 : Hp} {D : Addr} {Qd : Hp → Prop} (Pv : Nat → Hp → Prop) (h0 : Pv 0 (upd H1 D (SO w D []))) (hl : ∀ i H, i ≤ xs.length → Pv i H → SqT K H a xs)
    (hs : ∀ i x H, xs[i]? = some x → Pv i H → g x (wipe σ vs) H fun σ2 H2 => wipe σ2 vs = wipe σ vs ∧ tt σ2 H2 fun b H3 =>
      if b = true then te σ2 H3 fun y H4 => ∃ (z : Str) (zs : List Str), y = .str z ∧ H4 D = some (SO w D zs) ∧ zs.length + 1 < scanBound ∧ Pv (i + 1) (upd H4 D (SO w D (addS zs z))) else Pv (i + 1) H3) (hd : ∀ H, Pv xs.length H → Qd H) :
    ∃ W : Nat → Nat → Hp → Prop, (∃ m, W 0 m (upd H1 D (SO w D []))) ∧ ∀ i m H, W i m H →
      ((Itt K a).stop i H ∧ Qd H) ∨ ((Itt K a).go i H ∧ ∃ Nx : Hp → Prop, (∀ H', Nx H' → ∃ m', m' < m ∧ W (i + 1) m' H') ∧ ∀ x H', (Itt K a).yld i H x H' → g x (wipe σ vs) H' fun σ2 H2 => wipe σ2 vs = wipe σ vs ∧ tt σ2 H2 fun b H3 =>
        if b = true then te σ2 H3 fun y H4 => ∃ (z : Str) (zs : List Str), y = .str z ∧ H4 D = some (SO w D zs) ∧ zs.length + 1 < scanBound ∧ Nx (upd H4 D (SO w D (addS zs z))) else Nx H3) := by
  refine ⟨fun i m H => m = xs.length - i ∧ i ≤ xs.length ∧ Pv i H, ⟨xs.length, by simp, Nat.zero_le _, h0⟩, ?_⟩
  rintro i m H ⟨rfl, hi, p⟩
  have q := hl i H hi p
  by_cases hlt : i < xs.length
  · refine .inr ⟨⟨xs, xs[i], q, by simp [hlt]⟩, Pv (i + 1), fun H' p' => ⟨xs.length - (i + 1), by omega, rfl, hlt, p'⟩, fun x H' y => ?_⟩
    obtain ⟨e, y⟩ := y
    subst e
    exact hs i x _ (y xs q) p
  · have e : i = xs.length := by omega
    subst e
    exact .inl ⟨⟨xs, q, Nat.le_refl _⟩, hd H p⟩
end FS

set_option Elab.async false
set_option linter.all false
set_option maxRecDepth 100000
set_option maxHeartbeats 4000000
namespace FS
open PySem PySem.Spec PyProof.Rows L2
theorem alls_app (a b : List Tm) : alls (a ++ b) = alls a ++ alls b := by
  induction a with
  | nil => rfl
  | cons t r ih =>
    show t.all ++ alls (r ++ b) = (t.all ++ alls r) ++ alls b
    rw [ih, List.append_assoc]
theorem alls_one (t : Tm) : alls [t] = t.all := by
  show t.all ++ [] = _
  rw [List.append_nil]
theorem take_more {α : Type} {l : List α} {i : Nat} {x : α} (h : l[i]? = some x) : l.take (i + 1) = l.take i ++ [x] := by
  rw [List.take_add_one, h]
  rfl
theorem counts_take (ks : List Tm) (i : Nat) : counts (ks.take i) ≤ counts ks := by
  have h := counts_app (ks.take i) (ks.drop i)
  rw [List.take_append_drop] at h
  omega
theorem DpAll.kid {K : PySem.W.Frag} {H : Hp} {kv : List V} {ks : List Tm} (r : DpAll K H kv (datas ks)) {i : Nat} {x : V} (h : kv[i]? = some x) : ∃ u, ks[i]? = some u ∧ Dp K H x u.data := by
  obtain ⟨d, hd, dx⟩ := DpAll.get r h
  rw [datas_map, List.getElem?_map] at hd
  obtain ⟨u, hu, rfl⟩ := Option.map_eq_some_iff.mp hd
  exact ⟨u, hu, dx⟩
structure Tr where
  t : Tm
  k : List Bool
  d : Nat
def Tr.data (r : Tr) : PyData := .tuple [r.t.data, kindsD r.k, .int (r.d : Int)]
theorem kinds_noL (k : List Bool) : noL (kindsD k) = true := by
  show noLs (k.map _) = true
  induction k with
  | nil => rfl
  | cons b r ih => exact ih
theorem trs_noL : ∀ rs : List Tr, noLs (rs.map Tr.data) = true
  | [] => rfl
  | r :: s => by
    show ((noL r.t.data && (noL (kindsD r.k) && true)) && noLs (s.map Tr.data)) = true
    rw [Tm.noL, kinds_noL, trs_noL s]
    rfl
structure TrOk (own : List (Str × Bool)) (r : Tr) : Prop where
  good : Good own r.t
  kind : r.t.isW ∈ r.k
  deep : r.d + r.t.deep ≤ 7
theorem kinds_open {K : PySem.W.Frag} {H : Hp} {v : V} {k : List Bool} (h : Dp K H v (kindsD k)) : ∃ a, v = .ref a ∧ SqT K H a ((k.map kd).map V.str) := by
  obtain ⟨a, xs, rfl, sq, r⟩ := Dp.tup_inv h
  refine ⟨a, rfl, ?_⟩
  have e : ∀ (k : List Bool) (xs : List V), DpAll K H xs (k.map fun b => .str (kd b)) → xs = (k.map kd).map V.str := fun k => by
    induction k with
    | nil =>
      intro xs r
      cases r
      rfl
    | cons b l ih =>
      intro xs r
      cases r with
      | cons h1 r =>
        cases Dp.str_inv h1
        rw [ih _ r]
        rfl
  rw [← e k xs r]
  exact sq
theorem allow_len (h : Hd) (n : Nat) (w2 : h = .wrp → n = 2) : (h.allow n).length = n := by
  cases h <;> first | (exact (List.length_replicate)) | (rw [w2 rfl]; rfl)
theorem kid_allow {own : List (Str × Bool)} {h : Hd} {ks : List Tm} (g : Good own (.mk h ks)) {i : Nat} {u : Tm} {al : List Bool} (hu : ks[i]? = some u) (ha : (h.allow ks.length)[i]? = some al) : u.isW ∈ al := by
  cases g with
  | mk ok kk kids =>
    have m := List.mem_of_getElem? hu
    have two : ∀ b : Bool, b ∈ [false, true] := by decide
    have blk : ks.all (fun t => !t.isW) = true → al = [false] → u.isW ∈ al := fun h1 h2 => by
      subst h2
      have := List.all_eq_true.mp h1 u m
      cases e : u.isW with
      | false => exact List.mem_cons_self
      | true => rw [e] at this; cases this
    have rep : ∀ x : List Bool, (List.replicate ks.length x)[i]? = some al → al = x := fun x h => List.eq_of_mem_replicate (List.mem_of_getElem? h)
    have am : ∀ l : List Tm, (l.map Tm.isW).all (! ·) = true → l.all (fun t => !t.isW) = true := fun l h => by
      rw [List.all_map] at h
      exact h
    cases h with
    | deed w t => exact blk (am _ kk) (rep _ ha)
    | seq => exact blk (am _ kk) (rep _ ha)
    | alt => exact blk (am _ kk) (rep _ ha)
    | run x => exact blk (am _ kk) (rep _ ha)
    | call n => rw [rep _ ha]; exact two _
    | wrp =>
      have e : ks.map Tm.isW = [true, false] := of_decide_eq_true kk
      have h2 : (ks.map Tm.isW)[i]? = some u.isW := by rw [List.getElem?_map, hu]; rfl
      rw [e] at h2
      have h3 : ([[true], [false]] : List (List Bool))[i]? = some al := ha
      match i, h2, h3 with
      | 0, h2, h3 => rw [← Option.some.inj h3, ← Option.some.inj h2]; exact List.mem_cons_self
      | 1, h2, h3 => rw [← Option.some.inj h3, ← Option.some.inj h2]; exact List.mem_cons_self
      | n + 2, h2, _ => simp at h2
    | own x => exact blk (am _ kk) (rep _ ha)
    | wth n => rw [rep _ ha]; exact two _
theorem Good.wrp2 {own : List (Str × Bool)} {ks : List Tm} (g : Good own (.mk .wrp ks)) : ks.length = 2 := by
  cases g with
  | mk ok kk kids => exact of_decide_eq_true ok
/-- the kids as what is put on the pile -/
def kidTr (t : Tm) (d : Nat) (i : Nat) : List Tr := (List.range i).map fun j => ⟨t.kids.getD j (.mk .seq []), (t.hd.allow t.kids.length).getD j [], d + 1⟩
theorem count_pos (t : Tm) : 0 < t.count := by
  rw [count_eq]
  omega
theorem len_counts (l : List Tm) : l.length ≤ counts l := by
  induction l with
  | nil => exact Nat.le_refl _
  | cons u l ih =>
    rw [counts_cons]
    have := count_pos u
    simp only [List.length_cons]
    omega
theorem trs_counts (l : List Tr) : l.length ≤ counts (l.map Tr.t) := by
  have h := len_counts (l.map Tr.t)
  rw [List.length_map] at h
  exact h
end FS

set_option Elab.async false
set_option linter.all false
set_option maxRecDepth 100000
set_option maxHeartbeats 4000000
/-! own classes: ==, !=, len, str by their own defs -/
namespace FS
open PySem PySem.Spec PyProof.Rows L2
section
variable {X : Cx} {pins : List (Addr × Obj)} {σ : L2.St} {H : Hp} {s : Shared} {n : Nat} {A : Around} {CX : CXT} {C f : Addr} {fd : FuncData} {ps : List Str} {sp : Sp} {E : XK}
theorem looks_ty {x : V} {u t : Value} (I : Inv X pins σ H s) (rx : RelV x u) (ty : TyX X.K H x t) : PySem.W.Looks (model X.prog X.w) s.heap (typeOf u) t := by
  obtain ⟨P, k, p, _⟩ := kit_of I rx ty
  exact k.ty _ _ I.kIn p
theorem run_at {vs : List V} {us : List Value} {Q : VK} (sb : Sub X n A) (I : Inv X pins σ H s) (F : FnOk X.prog X.w X.K X.mg X.base CX n f fd ps sp) (hb : Binds X.K fd ps []) (hx : Passes CX X E) (r : Vals vs us) (h : sp vs H Q E) :
    wpAny (model X.prog X.w) A (call (.ref f) us) (fun u s' => ∃ v H', Inv X pins σ H' s' ∧ RelV v u ∧ Q v H') X.xe s := by
  have e0 : Env0 X.prog X.w X.K X.mg X.base A X.stack s H := by
    have e := I.env0
    exact ⟨by rw [sb.fr]; exact e.frames, e.mod, e.bs, e.bsz, e.funs, e.frf, e.hok, e.bare⟩
  have hl := F.len _ _ _ _ h
  refine wpAny_call (codeAny_mono (F.run A X.stack s H ⟨us, []⟩ us vs Q E sb.room e0 (by
    have := hb s us I.kIn (by rw [List.append_nil, ← r.length]; exact hl)
    simpa using this) r h) fun r s' hq => ?_)
  cases r with
  | error e => exact hx pins σ H s e s' I hq
  | ok fl =>
    cases fl with
    | ret w =>
      obtain ⟨z, H', I', rz, q⟩ := I.after hq
      exact ⟨z, H', I', rz, q⟩
    | next => exact False.elim hq
    | brk => exact False.elim hq
    | cont => exact False.elim hq
/-- x == y by the text's own == -/
def rEqO (K : PySem.W.Frag) (C : Addr) (sp : Sp) (E : XK) (neg : Bool) : R2 := fun x y H Q => ∃ a dx fs tb, x = .ref a ∧ H a = some (.ins C dx fs) ∧ TyX K H y tb ∧ PySem.W.notFirst K C tb = true ∧ sp [.ref a, y] H (fun v H' => ∃ b, v = .bl b ∧ Q (.bl (if neg then !b else b)) H') E
theorem op_eqOwn (hr : Room n X.A) (F : FnOk X.prog X.w X.K X.mg X.base CX n f fd ps sp) (hs : PySem.W.findIn X.K (.ref C) "__eq__" = some (some (.ref f))) (hf : PySem.W.isFn X.K (.ref f) = true) (hb : Binds X.K fd ps []) (hx : Passes CX X E) :
    OpR X (compareOp .Eq) (rEqO X.K C sp E false) := by
  intro pins s σ H x y v u Q I rx ry hq
  obtain ⟨a, dx, fs, tb, rfl, ha, ty, nf, q⟩ := hq
  cases rx
  obtain ⟨mA, J, _⟩ := ins_get I.hok ha
  obtain ⟨od, J, _⟩ := J.look
  obtain ⟨m, hF⟩ := I.fr
  show wpAny (model X.prog X.w) X.A (richCompare .Eq (.ref a) u) (EP X pins σ Q) X.xe s
  refine PySem.W.cmp_K (op := .Eq) (tb := tb) hr.units0 hF I.ok.mod.kin J (looks_ty I ry ty) nf hs hf ?_
  refine wpAny_mono (run_at ⟨hr, rfl⟩ I F hb hx (.cons (show RelV (V.ref a) (Value.ref a) from rfl) (.cons ry .nil)) q) (fun w s' h => ?_) fun _ _ z => z
  obtain ⟨z, H', I', rz, b, rfl, q2⟩ := h
  cases rz
  exact ⟨.bl b, H', I', rfl, q2⟩
theorem obj_ne {x : Addr} {b : Value} {ox : Obj} {od : Option Obj} {Q : Fin → Shared → Prop} (hu : A.units < cLine) (I : PySem.W.InstAt s.heap x ox C od) (K : PySem.W.Frag) (X0 : K.In s.heap)
    (hs : PySem.W.findIn K (.ref C) "__eq__" = some (some (.ref f))) (hf : PySem.W.isFn K (.ref f) = true) {E : Value → Shared → Prop} {prog : Program} {w : World}
    (h : wpAny (model prog w) A (call (.ref f) [.ref x, b]) (fun v s' => ∃ r, v = .bool r ∧ Q (.done (.ret (.bool (!r)))) s') E s) : wpAny (model prog w) A (Builtin.«object.__ne__» ⟨[.ref x, b], []⟩) Q E s := by
  unfold Builtin.«object.__ne__»
  refine wpAny_bind (m := slotArgs "__ne__" 1 _) (wpAny_pure ?_)
  refine wpAny_bind (m := cRoomFor _ _) (wpAny_cRoomFor hu ?_)
  refine wpAny_bind (m := callSpecialIfBound? (.ref x) (Str.ofString "__eq__") [b]) (PySem.W.ifBound_K X0 I hs hf (wpAny_mono h (fun v s' hv => ?_) fun _ _ y => y))
  obtain ⟨r, rfl, q⟩ := hv
  exact wpAny_bind (wpAny_truthy_bool (wpAny_pure q))
theorem ifBound_B {M : Model} {x : Addr} {ox : Obj} {od : Option Obj} {K : PySem.W.Frag} {name : Str} {id : String} {args : List Value} {Q : Option Value → Shared → Prop} {E : Value → Shared → Prop} (X0 : K.In s.heap) (I : PySem.W.InstAt s.heap x ox C od) (hs : PySem.W.findIn K (.ref C) name = some (some (.builtin id)))
    (hb : ∀ self, bindSpecial (.builtin id) self = pure (.builtin id, [self])) (h : wpAny M A (call (.builtin id) (.ref x :: args)) (fun v => Q (some v)) E s) : wpAny M A (callSpecialIfBound? (.ref x) name args) Q E s := by
  simp only [callSpecialIfBound?, bindSpecialIfBound?]
  refine wpAny_holding (wpAny_bind (wpAny_bind (wpAny_bind (I.type.here ((PySem.W.looks_findIn X0 hs).here ?_)))))
  refine wpAny_bind (wpAny_askSetting (wpAny_ite ?_))
  have fin : wpAny M A (call (.builtin id) ([.ref x] ++ args) >>= fun v => pure (some v)) Q E s := wpAny_bind (wpAny_mono h (fun v s' h' => wpAny_pure h') fun _ _ h' => h')
  split
  · exact wpAny_bind ((PySem.W.Looks.of_pure (hb _)).here (wpAny_pure (by exact fin)))
  · exact wpAny_tryCatch (wpAny_bind ((PySem.W.Looks.of_pure (hb _)).here (wpAny_pure (by exact fin))))
theorem op_neOwn (hr : Room (n + 1) X.A) (F : FnOk X.prog X.w X.K X.mg X.base CX n f fd ps sp) (hs : PySem.W.findIn X.K (.ref C) "__eq__" = some (some (.ref f))) (hf : PySem.W.isFn X.K (.ref f) = true) (hb : Binds X.K fd ps []) (hx : Passes CX X E)
    (hn : PySem.W.findIn X.K (.ref C) "__ne__" = some (some (.builtin "object.__ne__"))) (hm : PySem.W.mroIn X.K C (.type "object") = some true) : OpR X (compareOp .NotEq) (rEqO X.K C sp E true) := by
  intro pins s σ H x y v u Q I rx ry hq
  obtain ⟨a, dx, fs, tb, rfl, ha, ty, nf, q⟩ := hq
  cases rx
  obtain ⟨mA, J, _⟩ := ins_get I.hok ha
  obtain ⟨od, J, _⟩ := J.look
  have X0 := I.kIn
  have lt := looks_ty I ry ty
  have one : wpAny (model X.prog X.w) X.A (tryCompare (.ref a) (cmpInfo .NotEq).2.1 u) (fun r s' => ∃ v, r = some v ∧ EP X pins σ Q v s') X.xe s := by
    unfold tryCompare
    refine wpAny_bind (ifBound_B X0 J hn PySem.F.slot_object_ne.bind ?_)
    refine wpAny_call (codeAny_call_builtin PySem.F.slot_object_ne.plain PySem.F.cmpEntry_ne (PySem.W.check_slot (i := "object.__ne__") (owner := "object") (n := "__ne__") PySem.F.cmpKind_ne PySem.F.cmpSplit_ne (J.type.andThen (PySem.W.looks_mroIn X0 hm)) (PySem.F.cmpArgs_ne _ _) ?_))
    refine obj_ne hr.in1.units0 J X.K X0 hs hf ?_
    refine wpAny_mono (run_at ⟨hr.in1, rfl⟩ I F hb hx (.cons (show RelV (V.ref a) (Value.ref a) from rfl) (.cons ry .nil)) q) (fun w s' h => ?_) fun _ _ z => z
    obtain ⟨z, H', I', rz, b, rfl, q2⟩ := h
    cases rz
    exact ⟨b, rfl, wpAny_pure ⟨_, rfl, .bl (!b), H', I', rfl, q2⟩⟩
  show wpAny (model X.prog X.w) X.A (richCompare .NotEq (.ref a) u) (EP X pins σ Q) X.xe s
  unfold richCompare
  simp only [oneThing_ref]
  refine wpAny_holding (wpAny_bind (wpAny_cRoomFor hr.units0 ?_))
  refine wpAny_bind (J.type.here (wpAny_bind (lt.here ?_)))
  split
  · rename_i q
    have e : PySem.W.subIn X.K tb (.ref C) = some false := by
      rcases Bool.or_eq_true_iff.mp nf with e | e
      · rw [beq_iff_eq.mp e] at q; simp at q
      · exact beq_iff_eq.mp e
    refine wpAny_bind ((PySem.W.looks_subIn X0 e).here ?_)
    simp only [Bool.false_eq_true, if_false]
    refine wpAny_bind (wpAny_mono one (fun r s' z => ?_) fun _ _ e => e)
    obtain ⟨v, rfl, hq⟩ := z
    exact wpAny_pure hq
  · refine wpAny_bind (wpAny_pure ?_)
    simp only [Bool.false_eq_true, if_false]
    refine wpAny_bind (wpAny_mono one (fun r s' z => ?_) fun _ _ e => e)
    obtain ⟨v, rfl, hq⟩ := z
    exact wpAny_pure hq
/-- len(x) by the text's own __len__ -/
theorem cr_lenOwn (hr : Room (n + 1) X.A) (F : FnOk X.prog X.w X.K X.mg X.base CX n f fd ps sp) (hs : PySem.W.findIn X.K (.ref C) "__len__" = some (some (.ref f))) (hf : PySem.W.isFn X.K (.ref f) = true) (hb : Binds X.K fd ps []) (hx : Passes CX X E) :
    CallR X (.builtin "len") (fun xs H Q => ∃ a dx fs, xs = [.ref a] ∧ H a = some (.ins C dx fs) ∧ sp [.ref a] H (fun v H' => ∃ m : Nat, v = .int m ∧ m ≤ 100000 ∧ Q (.int m) H') E) := by
  intro pins s σ H vs us Q I r h
  obtain ⟨a, dx, fs, rfl, ha, q⟩ := h
  rw [Vals.ref1 r]
  obtain ⟨mA, J, _⟩ := ins_get I.hok ha
  obtain ⟨od, J, _⟩ := J.look
  obtain ⟨m, hF⟩ := I.fr
  refine PySem.W.len_K hF I.ok.mod.kin J hs hf ?_
  refine wpAny_mono (run_at ⟨hr.in1, rfl⟩ I F hb hx (.cons (show RelV (V.ref a) (Value.ref a) from rfl) .nil) q) (fun w s' h => ?_) fun _ _ z => z
  obtain ⟨z, H', I', rz, m, rfl, hm, q2⟩ := h
  obtain ⟨t, rfl⟩ := rz
  exact ⟨⟨by omega, by omega⟩, .int m, H', I'.tok _, ⟨_, rfl⟩, q2⟩
/-- str(x) by the text's own __str__ -/
theorem cr_strOwn (hr : Room (n + 2) X.A) (F : FnOk X.prog X.w X.K X.mg X.base CX n f fd ps sp) (hs : PySem.W.findIn X.K (.ref C) "__str__" = some (some (.ref f))) (hf : PySem.W.isFn X.K (.ref f) = true) (hb : Binds X.K fd ps []) (hx : Passes CX X E) :
    CallR X (.type "str") (fun xs H Q => ∃ a dx fs, xs = [.ref a] ∧ H a = some (.ins C dx fs) ∧ sp [.ref a] H (fun v H' => ∃ z, v = .str z ∧ Q (.str z) H') E) := by
  intro pins s σ H vs us Q I r h
  obtain ⟨a, dx, fs, rfl, ha, q⟩ := h
  rw [Vals.ref1 r]
  obtain ⟨mA, J, _⟩ := ins_get I.hok ha
  obtain ⟨od, J, _⟩ := J.look
  refine PySem.W.kso_call hr.in1.in1.units0 I.kIn J hs hf ?_
  refine wpAny_mono (run_at ⟨hr.in1.in1, rfl⟩ I F hb hx (.cons (show RelV (V.ref a) (Value.ref a) from rfl) .nil) q) (fun w s' h => ?_) fun _ _ z => z
  obtain ⟨z, H', I', rz, z, rfl, q2⟩ := h
  obtain ⟨t, rfl⟩ := rz
  exact ⟨.str z, H', I', ⟨_, rfl⟩, q2⟩
end
end FS

set_option Elab.async false
set_option linter.all false
set_option maxRecDepth 100000
set_option maxHeartbeats 4000000
namespace FS
open PySem PySem.Spec PyProof.Rows L2
/-! ### tuples stand -/
def isT : HO → Bool
  | .tup _ => true
  | .frz _ (.tup _) => true
  | _ => false
def TK (H H' : Hp) : Prop := ∀ b o, isT o = true → H b = some o → H' b = some o
theorem TK.refl (H : Hp) : TK H H := fun _ _ _ h => h
theorem TK.trans {H H1 H2 : Hp} (a : TK H H1) (b : TK H1 H2) : TK H H2 := fun c o n h => b c o n (a c o n h)
theorem TK.of {H H' : Hp} (e : Same H H') : TK H H' := fun b o _ h => e b o h
theorem TK.stay {H H' : Hp} (e : Stay H H') : TK H H' := fun b o n h => e b o (fun xs z => by
  subst z
  cases n) h
theorem TK.set {H : Hp} {p : Addr} {o o' : HO} (e : H p = some o) (n : isT o = false) : TK H (upd H p o') := fun b u t h => by
  rw [upd_ne (fun z => by
    subst z
    rw [e] at h
    cases Option.some.inj h
    rw [n] at t
    cases t)]
  exact h
theorem TK.sqT {K : PySem.W.Frag} {H H' : Hp} {a : Addr} {xs : List V} (e : TK H H') (h : SqT K H a xs) : SqT K H' a xs := by
  rcases h with (h | ⟨o, h⟩) | h
  · exact .inl (.inl (e _ _ rfl h))
  · exact .inl (.inr ⟨o, e _ _ rfl h⟩)
  · exact .inr h
mutual
theorem Dp.tk {K : PySem.W.Frag} {H H' : Hp} (e : TK H H') : ∀ {v : V} {d : PyData}, noL d = true → Dp K H v d → Dp K H' v d
  | _, _, _, .non => .non
  | _, _, _, .bl b => .bl b
  | _, _, _, .int i => .int i
  | _, _, _, .str x => .str x
  | _, _, n, .lst _ _ => by cases n
  | _, _, n, .tup h r => .tup (e.sqT h) (DpAll.tk e n r)
theorem DpAll.tk {K : PySem.W.Frag} {H H' : Hp} (e : TK H H') : ∀ {vs : List V} {ds : List PyData}, noLs ds = true → DpAll K H vs ds → DpAll K H' vs ds
  | _, _, _, .nil => .nil
  | _, _, n, .cons h r => by
    have n2 := Bool.and_eq_true_iff.mp (show (noL _ && noLs _) = true from n)
    exact .cons (Dp.tk e n2.1 h) (DpAll.tk e n2.2 r)
end
/-- all but p is as it was -/
def Kp (p : Addr) (H H' : Hp) : Prop := ∀ b o, b ≠ p → H b = some o → H' b = some o
theorem Kp.refl (p : Addr) (H : Hp) : Kp p H H := fun _ _ _ h => h
theorem Kp.trans {p : Addr} {H H1 H2 : Hp} (a : Kp p H H1) (b : Kp p H1 H2) : Kp p H H2 := fun c o n h => b c o n (a c o n h)
theorem Kp.of {p : Addr} {H H' : Hp} (e : Same H H') : Kp p H H' := fun b o _ h => e b o h
theorem Kp.set {p : Addr} {H : Hp} {o : HO} : Kp p H (upd H p o) := fun b o n h => by
  rw [upd_ne n]
  exact h
theorem Kp.tk {p : Addr} {H H' : Hp} {o : HO} (k : Kp p H H') (e : H p = some o) (n : isT o = false) : TK H H' := fun b u t h => k b u (fun z => by
  subst z
  rw [e] at h
  cases Option.some.inj h
  rw [n] at t
  cases t) h
/-! ### texts in order -/
theorem rising_le : ∀ (l : List Str) (p : Str), risingS p l = true → ((p :: l).map fun z => z.cps.toList).Pairwise (· ≤ ·)
  | [], p, _ => List.Pairwise.cons (fun _ h => nomatch h) .nil
  | x :: r, p, h => by
    obtain ⟨h1, h2⟩ := Bool.and_eq_true_iff.mp (show (!ltCps x.cps.toList p.cps.toList && risingS x r) = true from h)
    have ih := rising_le r x h2
    have e : p.cps.toList ≤ x.cps.toList := by
      rw [ltCps_eq] at h1
      exact List.not_lt.mp (by simpa using h1)
    refine List.Pairwise.cons (fun z hz => ?_) ih
    rcases List.mem_cons.mp hz with rfl | hz
    · exact e
    · exact List.le_trans e (List.rel_of_pairwise_cons ih hz)
theorem sorted_le {l : List Str} (h : sortedS l = true) : (l.map fun z => z.cps.toList).Pairwise (· ≤ ·) := by
  cases l with
  | nil => exact .nil
  | cons x r => exact rising_le r x h
theorem cps_inj {x y : Str} (h : x.cps.toList = y.cps.toList) : x = y := by
  cases x with
  | mk a => cases y with
    | mk b =>
      cases Array.toList_inj.mp h
      rfl
theorem sorted_same {l m : List Str} (h1 : sortedS l = true) (h2 : sortedS m = true) (p : l.Perm m) : l = m := by
  have e : (l.map fun z => z.cps.toList) = m.map fun z => z.cps.toList := List.Perm.eq_of_pairwise (fun a b _ _ x y => List.le_antisymm x y) (sorted_le h1) (sorted_le h2) (p.map _)
  have inj : ∀ (l m : List Str), (l.map fun z => z.cps.toList) = (m.map fun z => z.cps.toList) → l = m := fun l => by
    induction l with
    | nil =>
      intro m h
      cases m with
      | nil => rfl
      | cons _ _ => cases h
    | cons x r ih =>
      intro m h
      cases m with
      | nil => cases h
      | cons y s =>
        obtain ⟨h1, h2⟩ := List.cons.inj (show x.cps.toList :: r.map _ = y.cps.toList :: s.map _ from h)
        rw [cps_inj h1, ih s h2]
  exact inj l m e
/-- each text once, in the order in which they come -/
def uniq (l : List Str) : List Str := l.foldl addS []
theorem uniq_more (l : List Str) (x : Str) : uniq (l ++ [x]) = addS (uniq l) x := by
  unfold uniq
  rw [List.foldl_append]
  rfl
theorem addS_nodup {l : List Str} {x : Str} (h : l.Nodup) : (addS l x).Nodup := by
  unfold addS
  by_cases e : x ∈ l
  · rw [if_pos e]
    exact h
  · rw [if_neg e]
    refine List.nodup_append.mpr ⟨h, List.nodup_cons.mpr ⟨(fun h => nomatch h), .nil⟩, fun a ha b hb z => e ?_⟩
    rw [← List.mem_singleton.mp hb, ← z]
    exact ha
theorem addS_mem {l : List Str} {x z : Str} : z ∈ addS l x ↔ z ∈ l ∨ z = x := by
  unfold addS
  by_cases e : x ∈ l
  · rw [if_pos e]
    exact ⟨.inl, fun h => h.elim id fun h => h ▸ e⟩
  · rw [if_neg e, List.mem_append, List.mem_singleton]
theorem uniq_nodup (l : List Str) : (uniq l).Nodup := by
  have h : ∀ (l acc : List Str), acc.Nodup → (l.foldl addS acc).Nodup := fun l => by
    induction l with
    | nil => exact fun acc h => h
    | cons x r ih => exact fun acc h => ih _ (addS_nodup h)
  exact h l [] .nil
theorem uniq_mem {l : List Str} {z : Str} : z ∈ uniq l ↔ z ∈ l := by
  have h : ∀ (l acc : List Str), z ∈ l.foldl addS acc ↔ z ∈ acc ∨ z ∈ l := fun l => by
    induction l with
    | nil => intro acc; simp
    | cons x r ih =>
      intro acc
      rw [List.foldl_cons, ih, addS_mem, List.mem_cons]
      constructor
      · rintro ((h | h) | h)
        · exact .inl h
        · exact .inr (.inl h)
        · exact .inr (.inr h)
      · rintro (h | h | h)
        · exact .inl (.inl h)
        · exact .inl (.inr h)
        · exact .inr h
  rw [show uniq l = l.foldl addS [] from rfl, h]
  simp
theorem uniq_len (l : List Str) : (uniq l).length ≤ l.length := by
  have h : ∀ (l acc : List Str), (l.foldl addS acc).length ≤ acc.length + l.length := fun l => by
    induction l with
    | nil => exact fun acc => Nat.le_refl _
    | cons x r ih =>
      intro acc
      have h1 := ih (addS acc x)
      have h2 : (addS acc x).length ≤ acc.length + 1 := by
        unfold addS
        split
        · omega
        · rw [List.length_append]
          exact Nat.le_refl _
      rw [List.foldl_cons, List.length_cons]
      omega
  have := h l []
  simp only [List.length_nil, Nat.zero_add] at this
  exact this
/-- the texts of l, ascending: what sorted of the set of them is -/
def Ranks (l ys : List Str) : Prop := ys.Perm (uniq l) ∧ sortedS ys = true
theorem Ranks.same {l m ys zs : List Str} (a : Ranks l ys) (b : Ranks m zs) (h : ∀ z, z ∈ l ↔ z ∈ m) : ys = zs := by
  refine sorted_same a.2 b.2 (a.1.trans (List.Perm.trans ?_ b.1.symm))
  exact (List.perm_ext_iff_of_nodup (uniq_nodup l) (uniq_nodup m)).mpr fun z => by rw [uniq_mem, uniq_mem, h]
/-! ### what a procedure tells -/
def wordOf (u : Tm) : Option Str := match u.hd with
  | .deed w _ => some w
  | _ => none
def useOf (u : Tm) : Option Str := match u.hd with
  | .call n => some n
  | .wth n => some n
  | _ => none
def strsD (ys : List Str) : PyData := .tuple (ys.map PyData.str)
def kindD (own : List (Str × Bool)) : PyData := .tuple (own.map fun p => .str (kd p.2))
theorem strs_noL (ys : List Str) : noL (strsD ys) = true := by
  show noLs (ys.map PyData.str) = true
  induction ys with
  | nil => rfl
  | cons x r ih => exact ih
theorem kindD_noL (own : List (Str × Bool)) : noL (kindD own) = true := by
  show noLs (own.map _) = true
  induction own with
  | nil => rfl
  | cons x r ih => exact ih
theorem op_inK {X : Cx} {K : PySem.W.Frag} (h : X.K = K) : OpR X (compareOp .In) (rIn K false) := by
  subst h
  exact op_in_seq
theorem dp_strs {K : PySem.W.Frag} {H : Hp} : ∀ ys : List Str, DpAll K H (ys.map V.str) (ys.map PyData.str)
  | [] => .nil
  | x :: r => .cons (.str _) (dp_strs r)
def prF (nm : Str) (pv bv : V) (pa ka wa ua : Addr) : List (Str × V) := [("_named", .str nm), ("_parameters", pv), ("_body", bv), ("_parts", .ref pa), ("_kinds", .ref ka), ("_words", .ref wa), ("_uses", .ref ua)]
/-- the class's facts -/
structure PrC (K : PySem.W.Frag) (mg : Str → Option Value) (C : Addr) : Prop where
  cl : Cls K C
  gC : mg "Procedure" = some (.ref C)
  a1 : NoAttr K C "_named"
  a2 : NoAttr K C "_parameters"
  a3 : NoAttr K C "_body"
  a4 : NoAttr K C "_parts"
  a5 : NoAttr K C "_kinds"
  a6 : NoAttr K C "_words"
  a7 : NoAttr K C "_uses"
  ha : PySem.W.findIn K (.ref C) "__class__" = some (some (.builtin "object.__class__"))
  hn : PySem.W.specialIn K (.builtin "object.__class__") "__get__" = some (some (.builtin "getset_descriptor.__get__"))
  htk : PySem.W.takesIn K (.builtin "object.__class__") = some true
  hm : PySem.W.mroIn K C (.type "object") = some true
  self : PySem.W.kitOne K (.ref C) (.ref C) = some true
/-- the procedure at a -/
structure PAt (K : PySem.W.Frag) (C : Addr) (H : Hp) (a : Addr) (nm : Str) (own : List (Str × Bool)) (t : Tm) : Prop where
  ex : ∃ (dx : Addr) (pv bv : V) (pa ka wa ua : Addr) (xs : List V) (ws us : List Str), H a = some (.ins C dx (prF nm pv bv pa ka wa ua)) ∧ Dp K H pv (parsD own) ∧ Dp K H bv t.data ∧ H pa = some (.lst xs) ∧ DpAll K H xs (datas t.all) ∧
    Dp K H (.ref ka) (kindD own) ∧ Dp K H (.ref wa) (strsD ws) ∧ Dp K H (.ref ua) (strsD us) ∧ Ranks (t.all.filterMap wordOf) ws ∧ Ranks (t.all.filterMap useOf) us
  wd : wordB nm = true
  po : ParOk own
  good : Good own t
  nw : t.isW = false
  few : t.count ≤ 40
  low : t.deep ≤ 6
theorem PAt.same {K : PySem.W.Frag} {C : Addr} {H H' : Hp} {a : Addr} {nm : Str} {own : List (Str × Bool)} {t : Tm} (p : PAt K C H a nm own t) (s : Same H H') : PAt K C H' a nm own t := by
  obtain ⟨⟨dx, pv, bv, pa, ka, wa, ua, xs, ws, us, h1, h2, h3, h4, h5, h6, h7, h8, h9, h10⟩, b, c, d, e, f, g⟩ := p
  have k := TK.of s
  exact ⟨⟨dx, pv, bv, pa, ka, wa, ua, xs, ws, us, s _ _ h1, Dp.tk k (pars_noL own) h2, Dp.tk k t.noL h3, s _ _ h4, DpAll.tk k (noL_datas _) h5, Dp.tk k (kindD_noL _) h6, Dp.tk k (strs_noL _) h7, Dp.tk k (strs_noL _) h8, h9, h10⟩, b, c, d, e, f, g⟩
/-- the procedure at a, whose list of parts is not at D -/
structure PAtD (K : PySem.W.Frag) (C : Addr) (H : Hp) (D a : Addr) (nm : Str) (own : List (Str × Bool)) (t : Tm) : Prop where
  ex : ∃ (dx : Addr) (pv bv : V) (pa ka wa ua : Addr) (xs : List V) (ws us : List Str), H a = some (.ins C dx (prF nm pv bv pa ka wa ua)) ∧ Dp K H pv (parsD own) ∧ Dp K H bv t.data ∧ H pa = some (.lst xs) ∧ DpAll K H xs (datas t.all) ∧
    Dp K H (.ref ka) (kindD own) ∧ Dp K H (.ref wa) (strsD ws) ∧ Dp K H (.ref ua) (strsD us) ∧ Ranks (t.all.filterMap wordOf) ws ∧ Ranks (t.all.filterMap useOf) us ∧ pa ≠ D
  na : a ≠ D
  wd : wordB nm = true
  po : ParOk own
  good : Good own t
  nw : t.isW = false
  few : t.count ≤ 40
  low : t.deep ≤ 6
theorem PAtD.pat {K : PySem.W.Frag} {C : Addr} {H : Hp} {D a : Addr} {nm : Str} {own : List (Str × Bool)} {t : Tm} (p : PAtD K C H D a nm own t) : PAt K C H a nm own t := by
  obtain ⟨⟨dx, pv, bv, pa, ka, wa, ua, xs, ws, us, h1, h2, h3, h4, h5, h6, h7, h8, h9, h10, -⟩, -, b, c, d, e, f, g⟩ := p
  exact ⟨⟨dx, pv, bv, pa, ka, wa, ua, xs, ws, us, h1, h2, h3, h4, h5, h6, h7, h8, h9, h10⟩, b, c, d, e, f, g⟩
theorem PAtD.kp {K : PySem.W.Frag} {C : Addr} {H H' : Hp} {D a : Addr} {nm : Str} {own : List (Str × Bool)} {t : Tm} (p : PAtD K C H D a nm own t) (k0 : Kp D H H') (k : TK H H') : PAtD K C H' D a nm own t := by
  obtain ⟨⟨dx, pv, bv, pa, ka, wa, ua, xs, ws, us, h1, h2, h3, h4, h5, h6, h7, h8, h9, h10, hn⟩, na, b, c, d, e, f, g⟩ := p
  exact ⟨⟨dx, pv, bv, pa, ka, wa, ua, xs, ws, us, k0 _ _ na h1, Dp.tk k (pars_noL own) h2, Dp.tk k t.noL h3, k0 _ _ hn h4, DpAll.tk k (noL_datas _) h5, Dp.tk k (kindD_noL _) h6, Dp.tk k (strs_noL _) h7, Dp.tk k (strs_noL _) h8, h9, h10, hn⟩, na, b, c, d, e, f, g⟩
def spInit (K : PySem.W.Frag) (C : Addr) : Sp := fun vs H Q _ => ∃ (p dx : Addr) (nm : Str) (pv bv : V) (own : List (Str × Bool)) (t : Tm), vs = [.ref p, .str nm, pv, bv] ∧ H p = some (.ins C dx []) ∧ wordB nm = true ∧ Dp K H pv (parsD own) ∧ Dp K H bv t.data ∧ ParOk own ∧ Good own t ∧ t.isW = false ∧ t.count ≤ 40 ∧ t.deep ≤ 6 ∧
  ∀ H', PAt K C H' p nm own t → Kp p H H' → (∀ D o, H D = some o → D ≠ p → PAtD K C H' D p nm own t) → Q .non H'
def spGet (K : PySem.W.Frag) (C : Addr) (g : Str) : Sp := fun vs H Q _ => ∃ (a dx : Addr) (fs : List (Str × V)) (v : V), vs = [.ref a] ∧ H a = some (.ins C dx fs) ∧ fs.lookup g = some v ∧ Q v H
def spLen (K : PySem.W.Frag) (C : Addr) : Sp := fun vs H Q _ => ∃ (a : Addr) (nm : Str) (own : List (Str × Bool)) (t : Tm), vs = [.ref a] ∧ PAt K C H a nm own t ∧ Q (.int (t.count : Int)) H
def spEqT (K : PySem.W.Frag) (C : Addr) : Sp := fun vs H Q _ => ∃ (a : Addr) (y : V) (nm : Str) (own : List (Str × Bool)) (t : Tm), vs = [.ref a, y] ∧ PAt K C H a nm own t ∧
  ((∃ ty, TyX K H y ty ∧ PySem.W.kitOne K ty (.ref C) = some false ∧ Q (.bl false) H) ∨
  (∃ (b : Addr) (nm' : Str) (own' : List (Str × Bool)) (t' : Tm), y = .ref b ∧ PAt K C H b nm' own' t' ∧ Q (.bl (nm == nm' && PyData.eqv (parsD own) (parsD own') && PyData.eqv t.data t'.data)) H))
def telling (nm : Str) (n m : Nat) : Str := (((((Str.empty ++ "procedure ") ++ nm) ++ ", ") ++ toString (n : Int)) ++ " parameters, ") ++ toString (m : Int) ++ " terms"
def spStr (K : PySem.W.Frag) (C : Addr) : Sp := fun vs H Q _ => ∃ (a : Addr) (nm : Str) (own : List (Str × Bool)) (t : Tm), vs = [.ref a] ∧ PAt K C H a nm own t ∧ ∀ z, z = telling nm own.length t.count → Q (.str z) H
end FS

set_option Elab.async false
set_option linter.all false
set_option maxRecDepth 100000
set_option maxHeartbeats 4000000
namespace FS
open PySem PySem.Spec PyProof.Rows L2
theorem fm_some {α : Type} {l : List α} {i : Nat} {x : α} {f : α → Option Str} {z : Str} (h : l[i]? = some x) (e : f x = some z) : (l.take (i + 1)).filterMap f = (l.take i).filterMap f ++ [z] := by
  rw [take_more h, List.filterMap_append, List.filterMap_cons, e]
  rfl
theorem fm_none {α : Type} {l : List α} {i : Nat} {x : α} {f : α → Option Str} (h : l[i]? = some x) (e : f x = none) : (l.take (i + 1)).filterMap f = (l.take i).filterMap f := by
  rw [take_more h, List.filterMap_append, List.filterMap_cons, e]
  exact List.append_nil _
theorem fm_len {α : Type} (l : List α) (i : Nat) (f : α → Option Str) : ((l.take i).filterMap f).length ≤ l.length := Nat.le_trans (List.length_filterMap_le _ _) (by rw [List.length_take]; exact Nat.min_le_right _ _)
theorem datas_at {K : PySem.W.Frag} {H : Hp} {xs : List V} {ts : List Tm} (r : DpAll K H xs (datas ts)) {i : Nat} {x : V} (h : xs[i]? = some x) : ∃ u, ts[i]? = some u ∧ Dp K H x u.data := DpAll.kid r h
/-- a deed's word stands behind its tag -/
theorem deed_open {K : PySem.W.Frag} {H : Hp} {x : V} {u : Tm} (d : Dp K H x u.data) : ∃ a xs, x = .ref a ∧ SqT K H a (V.str u.hd.tag :: xs) ∧
    ((u.hd.num = 0 ∧ ∃ w ys, wordOf u = some w ∧ xs = .str w :: ys) ∨ (u.hd.num ≠ 0 ∧ wordOf u = none)) ∧ ((u.hd.is2 = true ∧ ∃ w ys, useOf u = some w ∧ xs = .str w :: ys) ∨ (u.hd.is2 = false ∧ useOf u = none)) := by
  obtain ⟨h, ks⟩ := u
  obtain ⟨a, rs, kv, rfl, sq, r1, r2⟩ := tm_open d
  refine ⟨a, rs ++ kv, rfl, sq, ?_, ?_⟩
  · cases h with
    | deed w t =>
      cases r1 with
      | cons x1 r =>
        cases Dp.str_inv x1
        exact .inl ⟨rfl, w, _, rfl, rfl⟩
    | seq => exact .inr ⟨(fun z : (1:Nat) = 0 => nomatch z), rfl⟩
    | alt => exact .inr ⟨(fun z : (2:Nat) = 0 => nomatch z), rfl⟩
    | run x => exact .inr ⟨(fun z : (3:Nat) = 0 => nomatch z), rfl⟩
    | call n => exact .inr ⟨(fun z : (4:Nat) = 0 => nomatch z), rfl⟩
    | wrp => exact .inr ⟨(fun z : (5:Nat) = 0 => nomatch z), rfl⟩
    | own x => exact .inr ⟨(fun z : (6:Nat) = 0 => nomatch z), rfl⟩
    | wth n => exact .inr ⟨(fun z : (7:Nat) = 0 => nomatch z), rfl⟩
  · cases h with
    | call n =>
      cases r1 with
      | cons x1 r =>
        cases Dp.str_inv x1
        exact .inl ⟨rfl, n, _, rfl, rfl⟩
    | wth n =>
      cases r1 with
      | cons x1 r =>
        cases Dp.str_inv x1
        exact .inl ⟨rfl, n, _, rfl, rfl⟩
    | deed w t => exact .inr ⟨rfl, rfl⟩
    | seq => exact .inr ⟨rfl, rfl⟩
    | alt => exact .inr ⟨rfl, rfl⟩
    | run x => exact .inr ⟨rfl, rfl⟩
    | wrp => exact .inr ⟨rfl, rfl⟩
    | own x => exact .inr ⟨rfl, rfl⟩
theorem uniq_small {l : List Str} {n : Nat} (h : l.length ≤ n) (hn : n ≤ 200) : (uniq l).length + 1 < scanBound := by
  have := uniq_len l
  have e : scanBound = 4096 := rfl
  omega
theorem putA {f g : Str} {v x : V} {r : List (Str × V)} (h : ¬ g = f) : putF f v ((g, x) :: r) = (g, x) :: putF f v r := if_neg h
theorem pf2 {a v : V} : putF "_parameters" v [("_named", a)] = ([("_named", a), ("_parameters", v)] : List (Str × V)) := by
  rw [putA (by decide +kernel)]
  rfl
theorem pf3 {a b v : V} : putF "_body" v [("_named", a), ("_parameters", b)] = ([("_named", a), ("_parameters", b), ("_body", v)] : List (Str × V)) := by
  rw [putA (by decide +kernel), putA (by decide +kernel)]
  rfl
theorem pf4 {a b c v : V} : putF "_parts" v [("_named", a), ("_parameters", b), ("_body", c)] = ([("_named", a), ("_parameters", b), ("_body", c), ("_parts", v)] : List (Str × V)) := by
  rw [putA (by decide +kernel), putA (by decide +kernel), putA (by decide +kernel)]
  rfl
theorem pf5 {a b c d v : V} : putF "_kinds" v [("_named", a), ("_parameters", b), ("_body", c), ("_parts", d)] = ([("_named", a), ("_parameters", b), ("_body", c), ("_parts", d), ("_kinds", v)] : List (Str × V)) := by
  rw [putA (by decide +kernel), putA (by decide +kernel), putA (by decide +kernel), putA (by decide +kernel)]
  rfl
theorem pf6 {a b c d e v : V} : putF "_words" v [("_named", a), ("_parameters", b), ("_body", c), ("_parts", d), ("_kinds", e)] = ([("_named", a), ("_parameters", b), ("_body", c), ("_parts", d), ("_kinds", e), ("_words", v)] : List (Str × V)) := by
  rw [putA (by decide +kernel), putA (by decide +kernel), putA (by decide +kernel), putA (by decide +kernel), putA (by decide +kernel)]
  rfl
theorem pf7 {a b c d e f v : V} : putF "_uses" v [("_named", a), ("_parameters", b), ("_body", c), ("_parts", d), ("_kinds", e), ("_words", f)] = ([("_named", a), ("_parameters", b), ("_body", c), ("_parts", d), ("_kinds", e), ("_words", f), ("_uses", v)] : List (Str × V)) := by
  rw [putA (by decide +kernel), putA (by decide +kernel), putA (by decide +kernel), putA (by decide +kernel), putA (by decide +kernel), putA (by decide +kernel)]
  rfl
theorem lkH {k : Str} {v : V} {r : List (Str × V)} : List.lookup k ((k, v) :: r) = some v := by
  have e : (k == k) = true := beq_self_eq_true k
  simp only [List.lookup, e]
theorem lkP {k g : Str} {v : V} {r : List (Str × V)} (h : (k == g) = false) : List.lookup k ((g, v) :: r) = List.lookup k r := by
  simp only [List.lookup, h]
theorem lkq4 {a b c d e : V} : ([("_named", a), ("_parameters", b), ("_body", c), ("_parts", d), ("_kinds", e)] : List (Str × V)).lookup ("_parts" : Str) = some d := (lkP (by decide +kernel)).trans ((lkP (by decide +kernel)).trans ((lkP (by decide +kernel)).trans lkH))
theorem lkr4 {a b c d e f : V} : ([("_named", a), ("_parameters", b), ("_body", c), ("_parts", d), ("_kinds", e), ("_words", f)] : List (Str × V)).lookup ("_parts" : Str) = some d := (lkP (by decide +kernel)).trans ((lkP (by decide +kernel)).trans ((lkP (by decide +kernel)).trans lkH))
section
variable {nm : Str} {pv bv : V} {pa ka wa ua : Addr}
theorem lk1 : (prF nm pv bv pa ka wa ua).lookup ("_named" : Str) = some (.str nm) := lkH
theorem lk2 : (prF nm pv bv pa ka wa ua).lookup ("_parameters" : Str) = some pv := (lkP (by decide +kernel)).trans lkH
theorem lk3 : (prF nm pv bv pa ka wa ua).lookup ("_body" : Str) = some bv := (lkP (by decide +kernel)).trans ((lkP (by decide +kernel)).trans lkH)
theorem lk4 : (prF nm pv bv pa ka wa ua).lookup ("_parts" : Str) = some (.ref pa) := (lkP (by decide +kernel)).trans ((lkP (by decide +kernel)).trans ((lkP (by decide +kernel)).trans lkH))
theorem lk5 : (prF nm pv bv pa ka wa ua).lookup ("_kinds" : Str) = some (.ref ka) := (lkP (by decide +kernel)).trans ((lkP (by decide +kernel)).trans ((lkP (by decide +kernel)).trans ((lkP (by decide +kernel)).trans lkH)))
theorem lk6 : (prF nm pv bv pa ka wa ua).lookup ("_words" : Str) = some (.ref wa) := (lkP (by decide +kernel)).trans ((lkP (by decide +kernel)).trans ((lkP (by decide +kernel)).trans ((lkP (by decide +kernel)).trans ((lkP (by decide +kernel)).trans lkH))))
theorem lk7 : (prF nm pv bv pa ka wa ua).lookup ("_uses" : Str) = some (.ref ua) := (lkP (by decide +kernel)).trans ((lkP (by decide +kernel)).trans ((lkP (by decide +kernel)).trans ((lkP (by decide +kernel)).trans ((lkP (by decide +kernel)).trans ((lkP (by decide +kernel)).trans lkH)))))
end
end FS
namespace FS
open PySem PySem.Spec PyProof.Rows L2
theorem len_app (a b : Str) : (a ++ b).length = a.length + b.length := by
  show (a.cps ++ b.cps).size = a.cps.size + b.cps.size
  exact Array.size_append ..
theorem small_log (n : Nat) (h : n < 100) : ((n : Int)).natAbs.log2 < 1920 := by
  have e : ((n : Int)).natAbs = n := rfl
  rw [e]
  exact Nat.lt_of_le_of_lt (Nat.log2_le_self n) (by omega)
end FS

set_option Elab.async false
set_option linter.all false
namespace FS
open PySem PySem.Spec PyProof.Rows L2
def topS (i : Nat) : Stmt := PySem.Challenge.pw_blockshanded_k06_whole_changes_of_progra.main.body.getD i (.Pass ⟨0, 0, 0, 0⟩)
abbrev s_wall : Stmt := topS 0
abbrev sis_integer_in : Stmt := topS 2
abbrev sis_name : Stmt := topS 5
abbrev skind_of : Stmt := topS 11
abbrev skinds_of : Stmt := topS 12
abbrev sparts_in : Stmt := topS 13
abbrev skinds_in : Stmt := topS 14
abbrev sall_parts : Stmt := topS 15
abbrev sis_deed_table : Stmt := topS 16
abbrev shas_form : Stmt := topS 17
abbrev sHandError : Stmt := topS 19
abbrev sInvalidProgram : Stmt := topS 20
abbrev sInvalidOperation : Stmt := topS 21
abbrev sUnknownName : Stmt := topS 22
abbrev sUnknownName__init__ : Stmt := inClass sUnknownName 0
abbrev sis_parameter : Stmt := topS 27
abbrev sare_parameters : Stmt := topS 28
abbrev sis_term : Stmt := topS 29
abbrev sProcedure : Stmt := topS 30
abbrev sProcedure__init__ : Stmt := inClass sProcedure 0
abbrev sProcedurenamed : Stmt := inClass sProcedure 1
abbrev sProcedureparameters : Stmt := inClass sProcedure 2
abbrev sProcedurebody : Stmt := inClass sProcedure 3
abbrev sProcedurekinds : Stmt := inClass sProcedure 4
abbrev sProcedurewords : Stmt := inClass sProcedure 5
abbrev sProcedureuses : Stmt := inClass sProcedure 6
abbrev sProcedure__len__ : Stmt := inClass sProcedure 7
abbrev sProcedure__eq__ : Stmt := inClass sProcedure 8
abbrev sProcedure__str__ : Stmt := inClass sProcedure 9
abbrev skinds_by_name : Stmt := topS 34
abbrev shave_wraps : Stmt := topS 35
abbrev sare_procedures : Stmt := topS 36
abbrev sfits : Stmt := topS 37
abbrev scan_make_program : Stmt := topS 38
abbrev sProgram : Stmt := topS 39
abbrev sProgram__init__ : Stmt := inClass sProgram 0
abbrev sProgramof : Stmt := inClass sProgram 1
abbrev sProgrammodes : Stmt := inClass sProgram 2
abbrev sProgramprocedures : Stmt := inClass sProgram 3
abbrev sProgramnames : Stmt := inClass sProgram 4
abbrev sProgramwords : Stmt := inClass sProgram 5
abbrev sProgramhas_wraps : Stmt := inClass sProgram 6
abbrev sProgramwith_procedure : Stmt := inClass sProgram 7
abbrev sProgramwithout : Stmt := inClass sProgram 8
abbrev sProgram__getitem__ : Stmt := inClass sProgram 9
abbrev sProgram__iter__ : Stmt := inClass sProgram 10
abbrev sProgram__contains__ : Stmt := inClass sProgram 11
abbrev sProgram__len__ : Stmt := inClass sProgram 12
abbrev sProgram__eq__ : Stmt := inClass sProgram 13
abbrev sProgram__str__ : Stmt := inClass sProgram 14
abbrev s_law_numbers : Stmt := topS 41
abbrev s_law_cast : Stmt := topS 42
abbrev s_law_pick : Stmt := topS 43
abbrev s_law_shuffle : Stmt := topS 44
abbrev s_law_is_number : Stmt := topS 45
abbrev s_law_own_names : Stmt := topS 46
abbrev s_law_all_in : Stmt := topS 47
abbrev s_law_any_deed : Stmt := topS 48
abbrev s_law_any_given : Stmt := topS 49
abbrev s_law_any_wrap : Stmt := topS 50
abbrev s_law_any_term : Stmt := topS 51
abbrev s_law_any_body : Stmt := topS 52
abbrev s_law_any_plain : Stmt := topS 53
abbrev s_law_made : Stmt := topS 54
abbrev s_law_is_program : Stmt := topS 55
abbrev s_law_met : Stmt := topS 56
abbrev s_law_changed : Stmt := topS 57
abbrev s_law_right : Stmt := topS 58
abbrev slaw : Stmt := topS 59
end FS

set_option Elab.async false
set_option linter.all false
set_option maxRecDepth 100000
set_option maxHeartbeats 4000000
namespace FS
open PySem PySem.Spec PyProof.Rows L2
section
variable {P : Program} {w : World} {K : PySem.W.Frag} {mg : Str → Option Value} {base : Heap}
abbrev Nkind_of : List Str := ["value"]
theorem sckind_of : FnScope Nkind_of ["value"] (defScope skind_of) := ⟨rfl, rfl, rfl, by decide +kernel, rfl, by decide +kernel, by decide +kernel⟩
theorem ok_kind_of {f : Addr} {fd : FuncData} (F : Fun K "kind_of" "kind_of" skind_of f fd) (T : Nm K mg) : FnOk P w K mg base CX0 1 f fd ["value"] (spKind K) := by
  have nd := sckind_of.nd
  refine F.ok sckind_of (fun vs H Q E h => ?_) (fun cdv A outer s H vs Q E hr h => ?_)
  · obtain ⟨own, v, t, rfl, _⟩ := h
    rfl
  · obtain ⟨own, v, t, rfl, tm, q⟩ := h
    obtain ⟨aT, gT, sT⟩ := T.g_TERM_TAGS
    obtain ⟨aW, gW, sW⟩ := T.g_WRAP_TAGS
    refine ⟨_, (pss_cons (ps_if (PW.pt (pw_or (pt_not (pt_val (pe_callB call_isi (by rfl) T.b_isinstance (by decide +kernel) (pa_cons (pv 0) (pa_cons (pe_bltn (v := .ty "tuple") (by rfl) T.b_tuple (by decide +kernel) rfl) pa_nil))))) (pw_or1 (pt_cmpR (op_eqD hr.units) (pv 0) (pe_tup pa_nil) (nomark _)))))
  (pss_one (ps_ret pe_non))
  pss_nil)
  (pss_cons (ps_if (pt_cmpR op_in_seq (pe_ix ix_tup (pv 0) pe_int (fun _ _ => rfl)) (pe_glob (v := .ref aT) (by rfl) gT rfl) (by rfl))
  (pss_one (ps_ret pe_str))
  pss_nil)
  (pss_cons (ps_if (pt_cmpR op_in_seq (pe_ix ix_tup (pv 0) pe_int (fun _ _ => rfl)) (pe_glob (v := .ref aW) (by rfl) gW rfl) (by rfl))
  (pss_one (ps_ret pe_str))
  pss_nil)
  (pss_one (ps_ret pe_non))))), ?_⟩
    obtain ⟨h, ks⟩ := t
    obtain ⟨a, rs, kv, rfl, sq, r1, r2⟩ := tm_open tm.dp
    refine ⟨_, rfl, _, _, _, _, true, rfl, .ty "tuple", ty_tup sq, kit_ty (by decide +kernel), true, rfl, ?_⟩
    refine iteF ?_
    refine ⟨_, rfl, Nat.zero_le _, fun p np => ?_⟩
    have s1 : Same H (upd H p (.tup [])) := same_upd np
    have sq1 := Same.sqT s1 sq
    refine ⟨_, _, (tm.same s1).dp, .tup (.inl (.inl upd_same)) .nil, tm.good.shaped tm.po.nms tm.low, rfl, _, rfl, ?_⟩
    refine iteF ?_
    have at0 : ∀ {x : V} {l : List V}, atI (x :: l) 0 = some x := atI_nat (j := 0) rfl
    refine ⟨_, rfl, a, _, 0, _, rfl, rfl, sq1, at0, aT, _, rfl, .inr (sT _), rfl, flat_strs _, _, rfl, ?_⟩
    rw [inV_strs]
    cases h with
    | deed w t => exact iteT (q _ s1)
    | seq => exact iteT (q _ s1)
    | alt => exact iteT (q _ s1)
    | run x => exact iteT (q _ s1)
    | call n => exact iteT (q _ s1)
    | wrp => exact iteT (q _ s1)
    | own x =>
      refine iteF ?_
      refine ⟨_, rfl, a, _, 0, _, rfl, rfl, sq1, at0, aW, _, rfl, .inr (sW _), rfl, flat_strs _, _, rfl, ?_⟩
      rw [inV_strs]
      exact iteT (q _ s1)
    | wth n =>
      refine iteF ?_
      refine ⟨_, rfl, a, _, 0, _, rfl, rfl, sq1, at0, aW, _, rfl, .inr (sW _), rfl, flat_strs _, _, rfl, ?_⟩
      rw [inV_strs]
      exact iteT (q _ s1)
end
end FS

set_option Elab.async false
set_option linter.all false
set_option maxRecDepth 100000
set_option maxHeartbeats 4000000
namespace FS
open PySem PySem.Spec PyProof.Rows L2
section
variable {P : Program} {w : World} {K : PySem.W.Frag} {mg : Str → Option Value} {base : Heap}
abbrev Nparts_in : List Str := ["part"]
theorem scparts_in : FnScope Nparts_in ["part"] (defScope sparts_in) := ⟨rfl, rfl, rfl, by decide +kernel, rfl, by decide +kernel, by decide +kernel⟩
theorem ok_parts_in {f : Addr} {fd : FuncData} (F : Fun K "parts_in" "parts_in" sparts_in f fd) (T : Nm K mg) : FnOk P w K mg base CX0 1 f fd ["part"] (spParts K) := by
  have nd := scparts_in.nd
  refine F.ok scparts_in (fun vs H Q E h => ?_) (fun cdv A outer s H vs Q E hr h => ?_)
  · obtain ⟨own, v, t, rfl, _⟩ := h
    rfl
  · obtain ⟨own, v, t, rfl, dp, gd, q⟩ := h
    refine ⟨_, (pss_cons (ps_if (pt_cmpR op_in_seq (pe_ix ix_tup (pv 0) pe_int (fun _ _ => rfl)) (pe_tup (pa_cons pe_str (pa_cons pe_str (pa_cons pe_str pa_nil)))) (by rfl))
  (pss_one (ps_ret (pe_slice sl_tupA (pv 0) (po_some pe_int) po_none)))
  pss_nil)
  (pss_cons (ps_if (pt_cmpR op_in_seq (pe_ix ix_tup (pv 0) pe_int (fun _ _ => rfl)) (pe_tup (pa_cons pe_str (pa_cons pe_str pa_nil))) (by rfl))
  (pss_one (ps_ret (pe_slice sl_tupA (pv 0) (po_some pe_int) po_none)))
  pss_nil)
  (pss_one (ps_ret (pe_tup pa_nil))))), ?_⟩
    obtain ⟨h, ks⟩ := t
    have nl := noL_datas ks
    obtain ⟨a, rs, kv, rfl, sq, r1, r2⟩ := tm_open dp
    refine ⟨_, rfl, a, _, 0, _, rfl, rfl, sq, at0, (by show 3 ≤ sizeLine; decide), fun p np => ?_⟩
    have s1 : Same H (upd H p (.tup ([("seq" : Str), "or", "wrap"].map V.str))) := same_upd np
    refine ⟨p, [("seq" : Str), "or", "wrap"].map V.str, rfl, .inr (.inl (.inl upd_same)), rfl, flat_strs _, _, rfl, ?_⟩
    rw [inV_strs, tag3]
    refine ite2 (fun e3 => ?_) (fun e3 => ?_)
    · cases Hd.rest0 r1 e3
      exact ⟨_, rfl, _, rfl, cut_tup (k := 1) (Same.sqT s1 sq) (by decide) (List.cons_ne_nil _ _) fun H' p' s2 sq2 => q H' p' kv (s1.trans s2) sq2 (DpAll.stay (.of (s1.trans s2)) nl r2)⟩
    · refine ⟨_, rfl, a, _, 0, _, rfl, rfl, Same.sqT s1 sq, at0, (by show 2 ≤ sizeLine; decide), fun p2 np2 => ?_⟩
      have s2 : Same H (upd (upd H p (.tup ([("seq" : Str), "or", "wrap"].map V.str))) p2 (.tup ([("call" : Str), "with"].map V.str))) := s1.trans (same_upd np2)
      refine ⟨p2, [("call" : Str), "with"].map V.str, rfl, .inr (.inl (.inl upd_same)), rfl, flat_strs _, _, rfl, ?_⟩
      rw [inV_strs, tag2]
      refine ite2 (fun e2 => ?_) (fun e2 => ?_)
      · obtain ⟨x, rfl⟩ := Hd.rest1 r1 e2
        exact ⟨_, rfl, _, rfl, cut_tup (k := 2) (Same.sqT s2 sq) (by decide) (List.cons_ne_nil _ _) fun H' p' s3 sq3 => q H' p' kv (s2.trans s3) sq3 (DpAll.stay (.of (s2.trans s3)) nl r2)⟩
      · have e2 : ks = [] := gd.kids0 e3 e2
        subst e2
        exact ⟨Nat.zero_le _, fun p3 np3 => q _ p3 [] (s2.trans (same_upd np3)) (.inl (.inl upd_same)) .nil⟩
end
end FS

set_option Elab.async false
set_option linter.all false
set_option maxRecDepth 100000
set_option maxHeartbeats 4000000
namespace FS
open PySem PySem.Spec PyProof.Rows L2
section
variable {P : Program} {w : World} {K : PySem.W.Frag} {mg : Str → Option Value} {base : Heap}
abbrev Nkinds_in : List Str := ["part"]
theorem sckinds_in : FnScope Nkinds_in ["part"] (defScope skinds_in) := ⟨rfl, rfl, rfl, by decide +kernel, rfl, by decide +kernel, by decide +kernel⟩
theorem ok_kinds_in {f : Addr} {fd : FuncData} (F : Fun K "kinds_in" "kinds_in" skinds_in f fd) (T : Nm K mg) (Cparts_in : Cal P w K mg base 1 "parts_in" ["part"] (spParts K)) : FnOk P w K mg base CX0 3 f fd ["part"] (spKinds K) := by
  have nd := sckinds_in.nd
  refine F.ok sckinds_in (fun vs H Q E h => ?_) (fun cdv A outer s H vs Q E hr h => ?_)
  · obtain ⟨own, v, t, rfl, dp, gd, few, q⟩ := h
    rfl
  · obtain ⟨own, v, t, rfl, dp, gd, few, q⟩ := h
    obtain ⟨aK, gK, sK⟩ := T.g_KINDS
    refine ⟨_, (pss_cons (ps_if (pt_cmpR op_eq (pe_ix ix_tup (pv 0) pe_int (fun _ _ => rfl)) pe_str (nomark _))
  (pss_one (ps_ret (pe_tup (pa_cons (pe_tup (pa_cons pe_str pa_nil)) (pa_cons (pe_tup (pa_cons pe_str pa_nil)) pa_nil)))))
  pss_nil)
  (pss_cons (ps_if (pt_cmpR op_in_seq (pe_ix ix_tup (pv 0) pe_int (fun _ _ => rfl)) (pe_tup (pa_cons pe_str (pa_cons pe_str pa_nil))) (by rfl))
  (pss_one (ps_ret (pe_op op_repA (pe_tup (pa_cons (pe_glob (v := .ref aK) (by rfl) gK rfl) pa_nil)) (pe_callB call_len (by rfl) T.b_len PySem.boot_len (pa_cons (pe_own Cparts_in (hr.mono (by decide)) (by rfl) (pa_cons (pv 0) pa_nil)) pa_nil)))))
  pss_nil)
  (pss_one (ps_ret (pe_op op_repA (pe_tup (pa_cons (pe_tup (pa_cons pe_str pa_nil)) pa_nil)) (pe_callB call_len (by rfl) T.b_len PySem.boot_len (pa_cons (pe_own Cparts_in (hr.mono (by decide)) (by rfl) (pa_cons (pv 0) pa_nil)) pa_nil))))))), ?_⟩

    obtain ⟨h, ks⟩ := t
    obtain ⟨a, rs, kv, rfl, sq, r1, r2⟩ := tm_open dp
    have few2 : ks.length ≤ 100 := few
    have blk : ∀ {H p}, SqT K H p [V.str "block"] → Dp K H (.ref p) (kindsD [false]) := fun s => .tup s (.cons (.str _) .nil)
    have wrp : ∀ {H p}, SqT K H p [V.str "wrap"] → Dp K H (.ref p) (kindsD [true]) := fun s => .tup s (.cons (.str _) .nil)
    have both : ∀ {H}, Dp K H (.ref aK) (kindsD [false, true]) := fun {H} => .tup (sK H) (.cons (.str _) (.cons (.str _) .nil))
    refine ⟨_, rfl, a, _, 0, _, rfl, rfl, sq, at0, rfl, _, rfl, ?_⟩
    rw [tag_dec h (j := 5)]
    refine ite2 (fun e5 => ?_) (fun e5 => ?_)
    · have hw : h = .wrp := by
        have e6 := of_decide_eq_true e5
        cases h <;> first | rfl | (simp [Hd.num] at e6)
      subst hw
      refine ⟨by show 1 ≤ sizeLine; decide, fun p1 n1 => ?_⟩
      refine ⟨by show 1 ≤ sizeLine; decide, fun p2 n2 => ?_⟩
      refine ⟨by show 2 ≤ sizeLine; decide, fun p3 n3 => ?_⟩
      have s1 := same_upd (o := .tup [V.str "wrap"]) n1
      have s2 := same_upd (o := .tup [V.str "block"]) n2
      have s3 := same_upd (o := .tup [V.ref p1, V.ref p2]) n3
      exact q _ p3 _ (s1.trans (s2.trans s3)) (.inl (.inl upd_same)) (.cons (wrp (Same.sqT (s2.trans s3) (.inl (.inl upd_same)))) (.cons (blk (Same.sqT s3 (.inl (.inl upd_same)))) .nil))
    · refine ⟨_, rfl, a, _, 0, _, rfl, rfl, sq, at0, by show 2 ≤ sizeLine; decide, fun p np => ?_⟩
      have s1 : Same H (upd H p (.tup ([("call" : Str), "with"].map V.str))) := same_upd np
      refine ⟨p, [("call" : Str), "with"].map V.str, rfl, .inr (.inl (.inl upd_same)), rfl, flat_strs _, _, rfl, ?_⟩
      rw [inV_strs, tag2]
      have len : ∀ {H xs}, DpAll K H xs (datas ks) → xs.length = ks.length := fun r => by rw [DpAll.len r, datas_len]
      refine ite2 (fun e2 => ?_) (fun e2 => ?_)
      · refine ⟨by show 1 ≤ sizeLine; decide, fun p1 n1 => ?_⟩
        have s2 := s1.trans (same_upd (o := .tup [V.ref aK]) n1)
        refine ⟨_, rfl, own, _, _, rfl, Dp.stay (.of s2) (Tm.noL _) dp, gd, fun H2 p2 kv2 s3 sq2 r3 => ?_⟩
        have hl : ((kv2.length : Nat) : Int) = (ks.length : Int) := by rw [len r3]
        refine ⟨_, _, rfl, .inr ⟨_, sq2, rfl⟩, ?_⟩
        rw [hl]
        refine ⟨p1, ks.length, [V.ref aK], rfl, rfl, Same.sqT s3 (.inl (.inl upd_same)), List.cons_ne_nil _ _, by omega, by show 1 ≤ 1000; decide, fun p4 H4 s4 sq4 => q _ p4 _ (s2.trans (s3.trans s4)) sq4 ?_⟩
        rw [rep_flat]
        cases h <;> first | (show DpAll K H4 _ ((List.replicate ks.length [false, true]).map kindsD); rw [List.map_replicate]; exact DpAll.rep both _) | cases e2
      · refine ⟨by show 1 ≤ sizeLine; decide, fun p0 n0 => ?_⟩
        have s2 := s1.trans (same_upd (o := .tup [V.str "block"]) n0)
        refine ⟨by show 1 ≤ sizeLine; decide, fun p1 n1 => ?_⟩
        have s2b := same_upd (o := .tup [V.ref p0]) n1
        have s3 := s2.trans s2b
        refine ⟨_, rfl, own, _, _, rfl, Dp.stay (.of s3) (Tm.noL _) dp, gd, fun H2 p2 kv2 s4 sq2 r3 => ?_⟩
        have hl : ((kv2.length : Nat) : Int) = (ks.length : Int) := by rw [len r3]
        refine ⟨_, _, rfl, .inr ⟨_, sq2, rfl⟩, ?_⟩
        rw [hl]
        refine ⟨p1, ks.length, [V.ref p0], rfl, rfl, Same.sqT s4 (.inl (.inl upd_same)), List.cons_ne_nil _ _, by omega, by show 1 ≤ 1000; decide, fun p4 H4 s5 sq4 => q _ p4 _ (s3.trans (s4.trans s5)) sq4 ?_⟩
        rw [rep_flat]
        have b := blk (H := H4) (p := p0) (Same.sqT (s2b.trans (s4.trans s5)) (.inl (.inl upd_same)))
        cases h <;> first | exact absurd rfl e2 | exact absurd (decide_eq_true rfl) e5 | (show DpAll K H4 _ ((List.replicate ks.length [false]).map kindsD); rw [List.map_replicate]; exact DpAll.rep b _)
end
end FS

set_option Elab.async false
set_option linter.all false
set_option maxRecDepth 100000
set_option maxHeartbeats 4000000
namespace FS
open PySem PySem.Spec PyProof.Rows L2
section
variable {P : Program} {w : World} {K : PySem.W.Frag} {mg : Str → Option Value} {base : Heap}
abbrev Nall_parts : List Str := ["part", "found", "inner"]
theorem scall_parts : FnScope Nall_parts ["part"] (defScope sall_parts) := ⟨rfl, rfl, rfl, by decide +kernel, rfl, by decide +kernel, by decide +kernel⟩
theorem ok_all_parts {n k : Nat} (hk : 1 ≤ k) {f : Addr} {fd : FuncData} (F : Fun K "all_parts" "all_parts" sall_parts f fd) (T : Nm K mg) (Cparts_in : Cal P w K mg base 1 "parts_in" ["part"] (spParts K)) (Call_parts : Cal P w K mg base k "all_parts" ["part"] (spAll K n)) : FnOk P w K mg base CX0 (k + 1) f fd ["part"] (spAll K (n + 1)) := by
  have nd := scall_parts.nd
  refine F.ok scall_parts (fun vs H Q E h => ?_) (fun cdv A outer s H vs Q E hr h => ?_)
  · obtain ⟨own, v, t, rfl, _⟩ := h
    rfl
  · obtain ⟨own, v, t, rfl, dp, gd, low, few, q⟩ := h
    refine ⟨_, (pss_cons (ps_set (i := 1) nd rfl (Or.inl rfl) (pe_lst (pa_cons (pv 0) pa_nil)))
  (pss_cons (ps_for PassesOwn.never rfl (pi_tup (pe_own Cparts_in (hr.mono hk) (by rfl) (pa_cons (pv 0) pa_nil))) (pg_name (i := 2) nd rfl (Or.inl rfl))
  (pss_one (ps_expr (pe_bm PySem.F.plainAttrs_list PySem.F.slot_list_extend PySem.F.type_list_extend mt_extend (pv 1) (pa_cons (pe_own Call_parts hr (by rfl) (pa_cons (pv 2) pa_nil)) pa_nil)))))
  (pss_one (ps_ret (pv 1))))), ?_⟩
    refine ⟨_, rfl, by show 1 ≤ sizeLine; decide, fun p np => ?_⟩
    have s1 := same_upd (o := .lst [v]) np
    have h1 : upd H p (.lst [v]) p = some (.lst [v]) := upd_same
    generalize upd H p (.lst [v]) = H1 at s1 h1 ⊢
    refine ⟨_, rfl, own, v, t, rfl, Dp.stay (.of s1) t.noL dp, gd, fun H2 p2 kv s2 sq2 r2 => ?_⟩
    have cnt := count_eq t
    refine ⟨p2, rfl, ⟨kv, sq2⟩, for_tup (xs := kv) (fun i σ H' => (∃ y, σ = [some v, some (.ref p), y]) ∧ Same H H' ∧ Stay H2 H' ∧ ∃ xs, H' p = some (.lst xs) ∧ DpAll K H' xs (datas (t :: alls (t.kids.take i)))) ?_ ?_ ?_ ?_⟩
    · exact ⟨⟨_, rfl⟩, s1.trans s2, .refl _, [v], s2 _ _ h1, .cons (Dp.stay (.of (s1.trans s2)) t.noL dp) .nil⟩
    · rintro i σ H' hi ⟨_, _, st, _⟩
      exact st.sqT sq2
    · rintro i x σ H' hx ⟨⟨y, rfl⟩, sm, st, xs, hp, rx⟩
      obtain ⟨u, hu, du⟩ := DpAll.kid r2 hx
      have mu : u ∈ t.kids := List.mem_of_getElem? hu
      have du2 : Dp K H' x u.data := Dp.stay st u.noL du
      have c1 := counts_take t.kids (i + 1)
      rw [take_more hu, counts_app] at c1
      have c2 : counts [u] = u.count := by
        rw [counts_cons]
        rfl
      refine ⟨_, rfl, .inl ⟨rfl, xs, .inl (.inl hp)⟩, _, rfl, own, x, u, rfl, du2, gd.kid mu, by have := deep_kid mu; omega, by omega, fun H3 b zs s3 nb hb rz => ?_⟩
      refine ⟨p, b, xs, zs, rfl, rfl, s3 _ _ hp, hb, ?_, ?_⟩
      · rw [DpAll.len rx, DpAll.len rz, datas_len, datas_len]
        have e1 : (t :: alls (t.kids.take i)).length = counts (t.kids.take i) + 1 := rfl
        have e2 : u.all.length = u.count := rfl
        rw [e1, e2, sizeLine_eq]
        omega
      · have ss := Stay.set (ys := xs ++ zs) (s3 _ _ hp)
        refine ⟨⟨_, rfl⟩, Same.set (sm.trans s3) np, (st.trans (.of s3)).trans ss, xs ++ zs, upd_same, ?_⟩
        rw [take_more hu, alls_app, alls_one, ← List.cons_append, datas_app]
        exact DpAll.app (DpAll.stay ((Stay.of s3).trans ss) (noL_datas _) rx) (DpAll.stay ss (noL_datas _) rz)
    · rintro σ H' ⟨⟨y, rfl⟩, sm, st, xs, hp, rx⟩
      refine ⟨_, rfl, q H' p xs sm np hp ?_⟩
      have l : kv.length = t.kids.length := by rw [DpAll.len r2, datas_len]
      rw [l, List.take_length] at rx
      rw [all_eq]
      exact rx
theorem ok_all_parts0 {f : Addr} {fd : FuncData} (F : Fun K "all_parts" "all_parts" sall_parts f fd) : FnOk P w K mg base CX0 1 f fd ["part"] (spAll K 0) := by
  have no : ∀ {vs H Q E}, spAll K 0 vs H Q E → False := fun {vs H Q E} h => by
    obtain ⟨own, v, t, rfl, dp, gd, low, _⟩ := h
    obtain ⟨hd, ks⟩ := t
    have : deeps ks + 1 ≤ 0 := low
    omega
  exact F.ok scall_parts (fun vs H Q E h => (no h).elim) (fun cdv A outer s H vs Q E hr h => (no h).elim)
theorem no_all_parts {f : Addr} {fd : FuncData} (F : Fun K "all_parts" "all_parts" sall_parts f fd) (T : Nm K mg) (C : Cal P w K mg base 1 "parts_in" ["part"] (spParts K)) (m : mg "all_parts" = some (.ref f)) (kp : PySem.W.keepIn K (.ref f) = true) (b : Binds K fd ["part"] []) :
    ∀ n, Cal P w K mg base (1 + n) "all_parts" ["part"] (spAll K n)
  | 0 => ⟨f, fd, ok_all_parts0 F, m, kp, b⟩
  | n + 1 => ⟨f, fd, ok_all_parts (k := 1 + n) (by omega) F T C (no_all_parts F T C m kp b n), m, kp, b⟩
end
end FS

set_option Elab.async false
set_option linter.all false
set_option maxRecDepth 100000
set_option maxHeartbeats 4000000
namespace FS
open PySem PySem.Spec PyProof.Rows L2
section
variable {P : Program} {w : World} {K : PySem.W.Frag} {mg : Str → Option Value} {base : Heap}
abbrev Nis_name : List Str := ["value", "letter"]
theorem scis_name : FnScope Nis_name ["value"] (defScope sis_name) := ⟨rfl, rfl, rfl, by decide +kernel, rfl, by decide +kernel, by decide +kernel⟩
theorem ok_is_name {f : Addr} {fd : FuncData} (F : Fun K "is_name" "is_name" sis_name f fd) (T : Nm K mg) : FnOk P w K mg base CX0 1 f fd ["value"] (spName) := by
  have nd := scis_name.nd
  refine F.ok scis_name (fun vs H Q E h => ?_) (fun cdv A outer s H vs Q E hr h => ?_)
  · obtain ⟨z, rfl, hl, q⟩ := h
    rfl
  · obtain ⟨z, rfl, hl, q⟩ := h
    obtain ⟨t8, g8⟩ := T.g_MAX_LETTERS
    refine ⟨_, (pss_cons (ps_if (PW.pt (pw_or (pt_not (pt_val (pe_callB call_isi (by rfl) T.b_isinstance (by decide +kernel) (pa_cons (pv 0) (pa_cons (pe_bltn (v := .ty "str") (by rfl) T.b_str (by decide +kernel) rfl) pa_nil))))) (pw_or1 (pt_not (pt_chain op_le op_le pe_int (pe_callB call_len (by rfl) T.b_len PySem.boot_len (pa_cons (pv 0) pa_nil)) (pe_glob (v := .int 8) (by rfl) g8 ⟨_, rfl⟩))))))
  (pss_one (ps_ret pe_bl))
  pss_nil)
  (pss_one (ps_ret (pe_callB (cr_all rfl) (by rfl) T.b_all (by decide +kernel) (pa_cons (pe_lc (own := [("letter", 1)]) (g := gName 1) (tt := tYes) rfl nd (pi_str (pv 0)) (blkOk_by (own := [("letter", 1)]) (N := Nis_name) (sc := defScope sis_name) (by decide +kernel)) (fun _ _ _ _ _ => (pg_name (i := 1) nd rfl (Or.inl rfl))) (fun _ _ _ _ _ => pts_nil) (fun _ _ _ _ _ => (pe_chain op_le_str op_le_str pe_str (pv 1) pe_str))) pa_nil))))), ?_⟩

    refine ⟨_, rfl, _, _, _, _, true, rfl, .ty "str", .base (.str z), kit_ty (show kitB "str" "str" = some true by decide +kernel), true, rfl, ?_⟩
    have hz : z.length ≤ sizeLine := Nat.le_trans hl (by decide)
    have ez : z.length = z.cps.toList.length := by simp [Str.length]
    refine iteF ?_
    refine ⟨_, rfl, _, _, rfl, ⟨hz, rfl⟩, _, _, rfl, rfl, _, rfl, ite2 (fun e1 => ?_) (fun e1 => ?_)⟩
    · refine ⟨_, _, rfl, rfl, _, rfl, ite2 (fun e2 => ?_) (fun e2 => ?_)⟩
      · have n8 : ¬ (z.length : Int) ≤ 8 := by simpa using e2
        have w0 : wordB z = false := by
          show (decide _ && _) = false
          rw [decide_eq_false (fun h => n8 h.2)]
          rfl
        have q1 := q H (.refl H)
        rw [w0] at q1
        exact q1
      · have n8 : (z.length : Int) ≤ 8 := by simpa using e2
        have n1 : 1 ≤ (z.length : Int) := of_decide_eq_true e1
        have w0 : wordB z = z.cps.toList.all sgn := by
          show (decide _ && _) = _
          rw [decide_eq_true ⟨n1, n8⟩]
          rfl
        refine ⟨_, rfl, z, rfl, fun D nD => ?_⟩
        refine lc_it walk_str (fun i H' => Same H H' ∧ H' D = some (.lst (((z.cps.toList.take i).map sgn).map V.bl))) ⟨same_upd nD, upd_same⟩ (fun _ _ _ _ => trivial) (fun i x H1 H2 hi hp hy => ?_) (fun H' hp => ?_)
        · obtain ⟨rfl, c, hc, rfl⟩ := hy
          obtain ⟨sm, eD⟩ := hp
          refine ⟨rfl, ?_⟩
          have fin : ∀ b : Bool, b = sgn c → ∃ acc, H2 D = some (.lst acc) ∧ acc.length < sizeLine ∧ Same H (upd H2 D (.lst (acc ++ [V.bl b]))) ∧ (upd H2 D (.lst (acc ++ [V.bl b]))) D = some (.lst (((z.cps.toList.take (i + 1)).map sgn).map V.bl)) := fun b hb => by
            refine ⟨_, eD, ?_, fun p o e => ?_, ?_⟩
            · rw [List.length_map, List.length_map, List.length_take]
              exact Nat.lt_of_le_of_lt (Nat.min_le_right _ _) (small1000 (by omega))
            · rw [upd_ne (ne_of_none e nD)]
              exact sm _ _ e
            · rw [upd_same, take_one sgn (getE hc), List.map_append, hb]
              rfl
          refine ⟨_, rfl, _, _, rfl, rfl, _, rfl, ite2 (fun e3 => ?_) (fun e3 => ?_)⟩
          · refine ⟨_, _, rfl, rfl, fin _ ?_⟩
            unfold sgn
            rw [e3, Bool.true_and]
          · refine fin _ ?_
            unfold sgn
            rw [Bool.not_eq_true _ |>.mp e3, Bool.false_and]
        · obtain ⟨sm, eD⟩ := hp
          refine ⟨D, _, rfl, .inl (.inl eD), ?_⟩
          have e4 : z.cps.toList.take z.cps.size = z.cps.toList := List.take_of_length_le (by simp)
          rw [e4, all_map, ← w0]
          exact q _ sm
    · have n1 : ¬ 1 ≤ (z.length : Int) := by simpa using e1
      have w0 : wordB z = false := by
        show (decide _ && _) = false
        rw [decide_eq_false (fun h => n1 h.1)]
        rfl
      have q1 := q H (.refl H)
      rw [w0] at q1
      exact ⟨_, rfl, q1⟩
end
end FS

set_option Elab.async false
set_option linter.all false
set_option maxRecDepth 100000
set_option maxHeartbeats 4000000
namespace FS
open PySem PySem.Spec PyProof.Rows L2
section
variable {P : Program} {w : World} {K : PySem.W.Frag} {mg : Str → Option Value} {base : Heap}
abbrev Nis_integer_in : List Str := ["value", "least", "greatest"]
theorem scis_integer_in : FnScope Nis_integer_in ["value", "least", "greatest"] (defScope sis_integer_in) := ⟨rfl, rfl, rfl, by decide +kernel, rfl, by decide +kernel, by decide +kernel⟩
theorem ok_is_integer_in {f : Addr} {fd : FuncData} (F : Fun K "is_integer_in" "is_integer_in" sis_integer_in f fd) (T : Nm K mg) : FnOk P w K mg base CX0 2 f fd ["value", "least", "greatest"] (spIntIn) := by
  have nd := scis_integer_in.nd
  refine F.ok scis_integer_in (fun vs H Q E h => ?_) (fun cdv A outer s H vs Q E hr h => ?_)
  · obtain ⟨i, a, b, rfl, q⟩ := h
    rfl
  · obtain ⟨i, a, b, rfl, q⟩ := h
    skip
    refine ⟨_, (pss_one (ps_ret (pe_and (pe_callB call_isi (by rfl) T.b_isinstance (by decide +kernel) (pa_cons (pv 0) (pa_cons (pe_bltn (v := .ty "int") (by rfl) T.b_int (by decide +kernel) rfl) pa_nil))) (pe_and (pe_not (pe_callB call_isi (by rfl) T.b_isinstance (by decide +kernel) (pa_cons (pv 0) (pa_cons (pe_bltn (v := .ty "bool") (by rfl) T.b_bool (by decide +kernel) rfl) pa_nil)))) (pe_one (pe_chain op_le op_le (pv 1) (pv 0) (pv 2))))))), ?_⟩

    refine ⟨_, rfl, _, _, _, _, true, rfl, .ty "int", .base (.int i), kit_ty (show kitB "int" "int" = some true by decide +kernel), true, rfl, ?_⟩
    refine ⟨_, rfl, _, _, _, _, false, rfl, .ty "bool", .base (.int i), kit_ty (show kitB "int" "bool" = some false by decide +kernel), false, rfl, ?_⟩
    refine ⟨true, rfl, ?_⟩
    refine iteT ?_
    refine ⟨_, rfl, _, rfl, _, _, rfl, rfl, _, rfl, ite2 (fun e1 => ?_) (fun e1 => ?_)⟩
    · refine ⟨_, rfl, _, _, rfl, rfl, ?_⟩
      rw [e1, Bool.true_and] at q
      exact q
    · rw [Bool.not_eq_true _ |>.mp e1, Bool.false_and] at q
      exact q
end
end FS

set_option Elab.async false
set_option linter.all false
set_option maxRecDepth 100000
set_option maxHeartbeats 4000000
namespace FS
open PySem PySem.Spec PyProof.Rows L2
section
variable {P : Program} {w : World} {K : PySem.W.Frag} {mg : Str → Option Value} {base : Heap}
abbrev Nis_deed_table : List Str := ["value", "entry"]
theorem scis_deed_table : FnScope Nis_deed_table ["value"] (defScope sis_deed_table) := ⟨rfl, rfl, rfl, by decide +kernel, rfl, by decide +kernel, by decide +kernel⟩
theorem ok_is_deed_table {f : Addr} {fd : FuncData} (F : Fun K "is_deed_table" "is_deed_table" sis_deed_table f fd) (T : Nm K mg) (Cis_integer_in : Cal P w K mg base 2 "is_integer_in" ["value", "least", "greatest"] spIntIn) : FnOk P w K mg base CX0 3 f fd ["value"] (spTable K) := by
  have nd := scis_deed_table.nd
  refine F.ok scis_deed_table (fun vs H Q E h => ?_) (fun cdv A outer s H vs Q E hr h => ?_)
  · obtain ⟨v, t, rfl, dp, few, q⟩ := h
    rfl
  · obtain ⟨v, t, rfl, dp, few, q⟩ := h
    obtain ⟨t3, g3⟩ := T.g_MAX_MODES
    let eb : Option Nat → Bool := fun e => match e with | none => true | some n => decide (n < 3)
    refine ⟨_, (pss_cons (ps_if (PW.pt (pw_or (pt_not (pt_val (pe_callB call_isi (by rfl) T.b_isinstance (by decide +kernel) (pa_cons (pv 0) (pa_cons (pe_bltn (v := .ty "tuple") (by rfl) T.b_tuple (by decide +kernel) rfl) pa_nil))))) (pw_or1 (pt_not (pt_chain op_le op_le pe_int (pe_callB call_len (by rfl) T.b_len PySem.boot_len (pa_cons (pv 0) pa_nil)) (pe_glob (v := .int 3) (by rfl) g3 ⟨_, rfl⟩))))))
  (pss_one (ps_ret pe_bl))
  pss_nil)
  (pss_one (ps_ret (pe_callB (cr_all rfl) (by rfl) T.b_all (by decide +kernel) (pa_cons (pe_lc (own := [("entry", 1)]) (g := gName 1) (tt := tYes) rfl nd (pi_tup (pv 0)) (blkOk_by (own := [("entry", 1)]) (N := Nis_deed_table) (sc := defScope sis_deed_table) (by decide +kernel)) (fun _ _ _ _ _ => (pg_name (i := 1) nd rfl (Or.inl rfl))) (fun _ _ _ _ _ => pts_nil) (fun _ _ _ _ _ => (pe_or (pe_cmpR op_isN (pv 1) pe_non (nomark _)) (pe_one (pe_own Cis_integer_in (hr.mono (by decide)) (by rfl) (pa_cons (pv 1) (pa_cons pe_int (pa_cons (pe_op op_sub (pe_glob (v := .int 3) (by rfl) g3 ⟨_, rfl⟩) pe_int) pa_nil)))))))) pa_nil))))), ?_⟩

    obtain ⟨a, xs, rfl, sq, r⟩ := Dp.tup_inv dp
    have l : xs.length = t.length := by rw [DpAll.len r, List.length_map]
    have tb : tableB t = (decide (1 ≤ t.length ∧ t.length ≤ 3) && t.all eb) := rfl
    refine ⟨_, rfl, _, _, _, _, true, rfl, .ty "tuple", ty_tup sq, kit_ty (by decide +kernel), true, rfl, ?_⟩
    refine iteF ?_
    refine ⟨_, rfl, _, _, rfl, .inr ⟨_, sq, rfl⟩, _, _, rfl, rfl, _, rfl, ite2 (fun e1 => ?_) (fun e1 => ?_)⟩
    · refine ⟨_, _, rfl, rfl, _, rfl, ite2 (fun e2 => ?_) (fun e2 => ?_)⟩
      · have n8 : ¬ (xs.length : Int) ≤ 3 := by simpa using e2
        have w0 : tableB t = false := by
          rw [tb, decide_eq_false (fun h => n8 (by rw [l]; omega))]
          rfl
        have q1 := q H (.refl H)
        rw [w0] at q1
        exact q1
      · have n8 : (xs.length : Int) ≤ 3 := by simpa using e2
        have n1 : 1 ≤ (xs.length : Int) := of_decide_eq_true e1
        have w0 : tableB t = t.all eb := by
          rw [tb, decide_eq_true ⟨by omega, by omega⟩]
          rfl
        refine ⟨_, rfl, a, rfl, ⟨xs, sq⟩, fun D nD => ?_⟩
        refine lc_tup (xs := xs) (fun i H' => Same H H' ∧ H' D = some (.lst (((t.take i).map eb).map V.bl))) ⟨same_upd nD, upd_same⟩ (fun i H' hi hp => Same.sqT hp.1 sq) (fun i x H2 hx hp => ?_) (fun H' hp => ?_)
        · obtain ⟨sm, eD⟩ := hp
          obtain ⟨d, hd, dx⟩ := DpAll.get r hx
          rw [List.getElem?_map] at hd
          obtain ⟨e, he, rfl⟩ := Option.map_eq_some_iff.mp hd
          refine ⟨rfl, ?_⟩
          have fin : ∀ b : Bool, b = eb e → ∃ acc, H2 D = some (.lst acc) ∧ acc.length < sizeLine ∧ Same H (upd H2 D (.lst (acc ++ [V.bl b]))) ∧ (upd H2 D (.lst (acc ++ [V.bl b]))) D = some (.lst (((t.take (i + 1)).map eb).map V.bl)) := fun b hb => by
            refine ⟨_, eD, ?_, Same.set sm nD, ?_⟩
            · rw [List.length_map, List.length_map, List.length_take]
              exact Nat.lt_of_le_of_lt (Nat.min_le_right _ _) (small1000 (by omega))
            · rw [upd_same, take_one eb he, List.map_append, hb]
              rfl
          cases e with
          | none =>
            cases dx
            refine ⟨_, rfl, ?_⟩
            exact ⟨rfl, _, rfl, iteT (fin true rfl)⟩
          | some n =>
            cases dx
            refine ⟨_, rfl, ?_⟩
            refine ⟨rfl, _, rfl, iteF ?_⟩
            refine ⟨_, rfl, _, _, rfl, rfl, ?_⟩
            refine ⟨(n : Int), 0, 2, rfl, ?_⟩
            refine fin _ ?_
            show (decide ((0:Int) ≤ (n : Int)) && decide ((n : Int) ≤ 2)) = decide (n < 3)
            rw [decide_eq_true (by omega : (0:Int) ≤ (n : Int)), Bool.true_and]
            exact decide_eq_decide.mpr (by omega)
        · obtain ⟨sm, eD⟩ := hp
          refine ⟨D, _, rfl, .inl (.inl eD), ?_⟩
          rw [l, List.take_length]
          have q1 := q H' sm
          have e4 : (t.map eb).all id = t.all eb := by
            rw [List.all_map]
            rfl
          rw [w0] at q1
          rw [e4]
          exact q1
    · have n1 : ¬ 1 ≤ (xs.length : Int) := by simpa using e1
      have w0 : tableB t = false := by
        rw [tb, decide_eq_false (fun h => n1 (by omega))]
        rfl
      have q1 := q H (.refl H)
      rw [w0] at q1
      exact ⟨_, rfl, q1⟩
end
end FS

set_option Elab.async false
set_option linter.all false
set_option maxRecDepth 100000
set_option maxHeartbeats 4000000
namespace FS
open PySem PySem.Spec PyProof.Rows L2
section
variable {P : Program} {w : World} {K : PySem.W.Frag} {mg : Str → Option Value} {base : Heap}
abbrev Nhas_form : List Str := ["part", "parameters", "tag", "many"]
theorem schas_form : FnScope Nhas_form ["part", "parameters"] (defScope shas_form) := ⟨rfl, rfl, rfl, by decide +kernel, rfl, by decide +kernel, by decide +kernel⟩
theorem ok_has_form {f : Addr} {fd : FuncData} (F : Fun K "has_form" "has_form" shas_form f fd) (T : Nm K mg) (Cis_name : Cal P w K mg base 1 "is_name" ["value"] spName) (Cis_deed_table : Cal P w K mg base 3 "is_deed_table" ["value"] (spTable K)) : FnOk P w K mg base CX0 4 f fd ["part", "parameters"] (spForm K) := by
  have nd := schas_form.nd
  refine F.ok schas_form (fun vs H Q E h => ?_) (fun cdv A outer s H vs Q E hr h => ?_)
  · obtain ⟨own, v, pw, t, rfl, tm, dw, q⟩ := h
    rfl
  · obtain ⟨own, v, pw, t, rfl, tm, dw, q⟩ := h
    skip
    refine ⟨_, (pss_cons (ps_par (i := 2) (j := 3) (by rfl) nd rfl rfl (by decide) rfl rfl (pa_cons (pe_ix ix_tup (pv 0) pe_int (fun _ _ => rfl)) (pa_cons (pe_callB call_len (by rfl) T.b_len PySem.boot_len (pa_cons (pv 0) pa_nil)) pa_nil)) (by rfl))
  (pss_cons (ps_if (pt_cmpR op_eq (pv 2) pe_str (nomark _))
  (pss_one (ps_ret (pe_and (pe_cmpR op_eq (pv 3) pe_int (nomark _)) (pe_and (pe_own Cis_name (hr.mono (by decide)) (by rfl) (pa_cons (pe_ix ix_tup (pv 0) pe_int (fun _ _ => rfl)) pa_nil)) (pe_one (pe_own Cis_deed_table (hr.mono (by decide)) (by rfl) (pa_cons (pe_ix ix_tup (pv 0) pe_int (fun _ _ => rfl)) pa_nil)))))))
  pss_nil)
  (pss_cons (ps_if (pt_cmpR op_eq (pv 2) pe_str (nomark _))
  (pss_one (ps_ret (pe_and (pe_cmpR op_eq (pv 3) pe_int (nomark _)) (pe_one (pe_cmpR (op_inT (u65 hr)) (pe_tup (pa_cons (pe_ix ix_tup (pv 0) pe_int (fun _ _ => rfl)) (pa_cons pe_str pa_nil))) (pv 1) (by rfl))))))
  pss_nil)
  (pss_cons (ps_if (pt_cmpR op_eq (pv 2) pe_str (nomark _))
  (pss_one (ps_ret (pe_and (pe_cmpR op_eq (pv 3) pe_int (nomark _)) (pe_one (pe_cmpR (op_inT (u65 hr)) (pe_tup (pa_cons (pe_ix ix_tup (pv 0) pe_int (fun _ _ => rfl)) (pa_cons pe_str pa_nil))) (pv 1) (by rfl))))))
  pss_nil)
  (pss_cons (ps_if (pt_cmpR op_in_seq (pv 2) (pe_tup (pa_cons pe_str (pa_cons pe_str pa_nil))) (by rfl))
  (pss_one (ps_ret (pe_and (pe_cmpR op_gt (pv 3) pe_int (nomark _)) (pe_one (pe_own Cis_name (hr.mono (by decide)) (by rfl) (pa_cons (pe_ix ix_tup (pv 0) pe_int (fun _ _ => rfl)) pa_nil))))))
  pss_nil)
  (pss_cons (ps_if (pt_cmpR op_eq (pv 2) pe_str (nomark _))
  (pss_one (ps_ret (pe_cmpR op_eq (pv 3) pe_int (nomark _))))
  pss_nil)
  (pss_cons (ps_if (pt_cmpR op_eq (pv 2) pe_str (nomark _))
  (pss_one (ps_ret (pe_cmpR op_gt (pv 3) pe_int (nomark _))))
  pss_nil)
  (pss_one (ps_ret (pe_cmpR op_eq (pv 2) pe_str (nomark _))))))))))), ?_⟩

    obtain ⟨h, ks⟩ := t
    obtain ⟨a, rs, kv, rfl, sq, r1, r2⟩ := tm_open tm.dp
    have lk : kv.length = ks.length := by rw [DpAll.len r2, datas_len]
    have gd := tm.good
    have po := tm.po
    refine ⟨_, rfl, a, _, 0, _, rfl, rfl, sq, at0, _, rfl, _, _, rfl, .inr ⟨_, sq, rfl⟩, _, _, rfl, ?_⟩
    have fin : ∀ {H'}, Same H H' → Q (.bl true) H' := fun s => q _ s
    cases h with
    | deed w tb =>
      have e0 := gd.leaf rfl
      subst e0
      cases r2
      cases r1 with
      | cons x1 r => cases r with
        | cons x2 r =>
        cases r
        cases Dp.str_inv x1
        cases gd with
        | mk ok kk kids =>
          have o1 := Bool.and_eq_true_iff.mp ok
          have o2 := Bool.and_eq_true_iff.mp o1.1
          have o3 := Bool.and_eq_true_iff.mp o2.1
          have tbt : tableB tb = true := by
            unfold tableB
            exact Bool.and_eq_true_iff.mpr ⟨o3.2, o2.2⟩
          have tl := of_decide_eq_true o3.2
          refine ⟨_, rfl, rfl, _, rfl, iteT ?_⟩
          refine ⟨_, rfl, rfl, _, rfl, iteT ?_⟩
          refine ⟨_, rfl, a, _, 1, _, rfl, rfl, sq, at1, w, rfl, by have := (word_ok o3.1).2; omega, fun H1 s1 => ?_⟩
          rw [o3.1]
          refine ⟨_, rfl, iteT ?_⟩
          refine ⟨_, rfl, a, _, 2, _, rfl, rfl, Same.sqT s1 sq, at2, _, tb, rfl, Dp.stay (.of s1) (entries_plain tb).1 x2, by omega, fun H2 s2 => ?_⟩
          rw [tbt]
          exact fin (s1.trans s2)
    | run x =>
      have e0 := gd.leaf rfl
      subst e0
      cases r2
      cases r1 with
      | cons x1 r =>
        cases r
        cases Dp.str_inv x1
        cases gd with
        | mk ok kk kids =>
          have o1 := of_decide_eq_true (Bool.and_eq_true_iff.mp ok).1
          refine ⟨_, rfl, rfl, _, rfl, iteF ?_⟩
          refine ⟨_, rfl, rfl, _, rfl, iteT ?_⟩
          refine ⟨_, rfl, rfl, _, rfl, iteT ?_⟩
          refine ⟨_, rfl, a, _, 1, _, rfl, rfl, sq, at1, by show 2 ≤ sizeLine; decide, fun p np => ?_⟩
          have s1 := same_upd (o := .tup [V.str x, V.str "block"]) np
          refine ⟨_, rfl, parD (x, false), own.map parD, .tup (.inl (.inl upd_same)) (.cons (.str _) (.cons (.str _) .nil)), Dp.stay (.of s1) (pars_noL own) dw, par_shaped false (word_ok (po.nms _ o1)).1, pars_shaped po, ?_⟩
          have e := any_par own x false
          rw [decide_eq_true o1] at e
          rw [e]
          exact fin s1
    | own x =>
      have e0 := gd.leaf rfl
      subst e0
      cases r2
      cases r1 with
      | cons x1 r =>
        cases r
        cases Dp.str_inv x1
        cases gd with
        | mk ok kk kids =>
          have o1 := of_decide_eq_true (Bool.and_eq_true_iff.mp ok).1
          refine ⟨_, rfl, rfl, _, rfl, iteF ?_⟩
          refine ⟨_, rfl, rfl, _, rfl, iteF ?_⟩
          refine ⟨_, rfl, rfl, _, rfl, iteT ?_⟩
          refine ⟨_, rfl, rfl, _, rfl, iteT ?_⟩
          refine ⟨_, rfl, a, _, 1, _, rfl, rfl, sq, at1, by show 2 ≤ sizeLine; decide, fun p np => ?_⟩
          have s1 := same_upd (o := .tup [V.str x, V.str "wrap"]) np
          refine ⟨_, rfl, parD (x, true), own.map parD, .tup (.inl (.inl upd_same)) (.cons (.str _) (.cons (.str _) .nil)), Dp.stay (.of s1) (pars_noL own) dw, par_shaped true (word_ok (po.nms _ o1)).1, pars_shaped po, ?_⟩
          have e := any_par own x true
          rw [decide_eq_true o1] at e
          rw [e]
          exact fin s1
    | call n =>
      cases r1 with
      | cons x1 r =>
        cases r
        cases Dp.str_inv x1
        cases gd with
        | mk ok kk kids =>
          have o1 : wordB n = true := ok
          refine ⟨_, rfl, rfl, _, rfl, iteF ?_⟩
          refine ⟨_, rfl, rfl, _, rfl, iteF ?_⟩
          refine ⟨_, rfl, rfl, _, rfl, iteF ?_⟩
          refine ⟨_, rfl, by show 2 ≤ sizeLine; decide, fun p2 np2 => ?_⟩
          have s1 : Same H (upd H p2 (.tup ([("call" : Str), "with"].map V.str))) := same_upd np2
          refine ⟨p2, [("call" : Str), "with"].map V.str, rfl, .inr (.inl (.inl upd_same)), rfl, flat_strs _, _, rfl, ?_⟩
          rw [inV_strs]
          refine iteT ?_
          refine ⟨_, rfl, _, _, rfl, rfl, _, rfl, ite2 (fun _ => ?_) (fun e => absurd (decide_eq_true (by show ((_ + 1 + 1 : Nat) : Int) > 1; omega)) e)⟩
          refine ⟨_, rfl, a, _, 1, _, rfl, rfl, Same.sqT s1 sq, at1, n, rfl, by have := (word_ok o1).2; omega, fun H1 s2 => ?_⟩
          rw [o1]
          exact fin (s1.trans s2)
    | wth n =>
      cases r1 with
      | cons x1 r =>
        cases r
        cases Dp.str_inv x1
        cases gd with
        | mk ok kk kids =>
          have o1 : wordB n = true := ok
          refine ⟨_, rfl, rfl, _, rfl, iteF ?_⟩
          refine ⟨_, rfl, rfl, _, rfl, iteF ?_⟩
          refine ⟨_, rfl, rfl, _, rfl, iteF ?_⟩
          refine ⟨_, rfl, by show 2 ≤ sizeLine; decide, fun p2 np2 => ?_⟩
          have s1 : Same H (upd H p2 (.tup ([("call" : Str), "with"].map V.str))) := same_upd np2
          refine ⟨p2, [("call" : Str), "with"].map V.str, rfl, .inr (.inl (.inl upd_same)), rfl, flat_strs _, _, rfl, ?_⟩
          rw [inV_strs]
          refine iteT ?_
          refine ⟨_, rfl, _, _, rfl, rfl, _, rfl, ite2 (fun _ => ?_) (fun e => absurd (decide_eq_true (by show ((_ + 1 + 1 : Nat) : Int) > 1; omega)) e)⟩
          refine ⟨_, rfl, a, _, 1, _, rfl, rfl, Same.sqT s1 sq, at1, n, rfl, by have := (word_ok o1).2; omega, fun H1 s2 => ?_⟩
          rw [o1]
          exact fin (s1.trans s2)
    | wrp =>
      cases r1
      cases gd with
      | mk ok kk kids =>
        have o1 : ks.length = 2 := of_decide_eq_true ok
        refine ⟨_, rfl, rfl, _, rfl, iteF ?_⟩
        refine ⟨_, rfl, rfl, _, rfl, iteF ?_⟩
        refine ⟨_, rfl, rfl, _, rfl, iteF ?_⟩
        refine ⟨_, rfl, by show 2 ≤ sizeLine; decide, fun p2 np2 => ?_⟩
        have s1 : Same H (upd H p2 (.tup ([("call" : Str), "with"].map V.str))) := same_upd np2
        refine ⟨p2, [("call" : Str), "with"].map V.str, rfl, .inr (.inl (.inl upd_same)), rfl, flat_strs _, _, rfl, ?_⟩
        rw [inV_strs]
        refine iteF ?_
        refine ⟨_, rfl, rfl, _, rfl, iteT ?_⟩
        refine ⟨_, rfl, rfl, ?_⟩
        have e : ((V.str (Hd.wrp.tag) :: ([] ++ kv)).length : Int) = 3 := by
          show ((kv.length + 1 : Nat) : Int) = 3
          omega
        rw [e]
        exact fin s1
    | alt =>
      cases r1
      cases gd with
      | mk ok kk kids =>
        have o1 : 0 < ks.length := of_decide_eq_true ok
        refine ⟨_, rfl, rfl, _, rfl, iteF ?_⟩
        refine ⟨_, rfl, rfl, _, rfl, iteF ?_⟩
        refine ⟨_, rfl, rfl, _, rfl, iteF ?_⟩
        refine ⟨_, rfl, by show 2 ≤ sizeLine; decide, fun p2 np2 => ?_⟩
        have s1 : Same H (upd H p2 (.tup ([("call" : Str), "with"].map V.str))) := same_upd np2
        refine ⟨p2, [("call" : Str), "with"].map V.str, rfl, .inr (.inl (.inl upd_same)), rfl, flat_strs _, _, rfl, ?_⟩
        rw [inV_strs]
        refine iteF ?_
        refine ⟨_, rfl, rfl, _, rfl, iteF ?_⟩
        refine ⟨_, rfl, rfl, _, rfl, iteT ?_⟩
        refine ⟨_, rfl, _, _, rfl, rfl, ?_⟩
        show Q (V.bl (decide ((1:Int) < ((kv.length + 1 : Nat) : Int)))) _
        rw [decide_eq_true (by omega)]
        exact fin s1
    | seq =>
      cases r1
      refine ⟨_, rfl, rfl, _, rfl, iteF ?_⟩
      refine ⟨_, rfl, rfl, _, rfl, iteF ?_⟩
      refine ⟨_, rfl, rfl, _, rfl, iteF ?_⟩
      refine ⟨_, rfl, by show 2 ≤ sizeLine; decide, fun p2 np2 => ?_⟩
      have s1 : Same H (upd H p2 (.tup ([("call" : Str), "with"].map V.str))) := same_upd np2
      refine ⟨p2, [("call" : Str), "with"].map V.str, rfl, .inr (.inl (.inl upd_same)), rfl, flat_strs _, _, rfl, ?_⟩
      rw [inV_strs]
      refine iteF ?_
      refine ⟨_, rfl, rfl, _, rfl, iteF ?_⟩
      refine ⟨_, rfl, rfl, _, rfl, iteF ?_⟩
      exact ⟨_, rfl, rfl, fin s1⟩
end
end FS

set_option Elab.async false
set_option linter.all false
set_option maxRecDepth 100000
set_option maxHeartbeats 4000000
namespace FS
open PySem PySem.Spec PyProof.Rows L2
section
variable {P : Program} {w : World} {K : PySem.W.Frag} {mg : Str → Option Value} {base : Heap}
abbrev Nis_parameter : List Str := ["value"]
theorem scis_parameter : FnScope Nis_parameter ["value"] (defScope sis_parameter) := ⟨rfl, rfl, rfl, by decide +kernel, rfl, by decide +kernel, by decide +kernel⟩
theorem ok_is_parameter {f : Addr} {fd : FuncData} (F : Fun K "is_parameter" "is_parameter" sis_parameter f fd) (T : Nm K mg) (Cis_name : Cal P w K mg base 1 "is_name" ["value"] spName) : FnOk P w K mg base CX0 2 f fd ["value"] (spPar K) := by
  have nd := scis_parameter.nd
  refine F.ok scis_parameter (fun vs H Q E h => ?_) (fun cdv A outer s H vs Q E hr h => ?_)
  · obtain ⟨v, p, rfl, dp, wd, q⟩ := h
    rfl
  · obtain ⟨v, p, rfl, dp, wd, q⟩ := h
    obtain ⟨aK, gK, sK⟩ := T.g_KINDS
    refine ⟨_, (pss_one (ps_ret (pe_and (pe_callB call_isi (by rfl) T.b_isinstance (by decide +kernel) (pa_cons (pv 0) (pa_cons (pe_bltn (v := .ty "tuple") (by rfl) T.b_tuple (by decide +kernel) rfl) pa_nil))) (pe_and (pe_cmpR op_eq (pe_callB call_len (by rfl) T.b_len PySem.boot_len (pa_cons (pv 0) pa_nil)) pe_int (nomark _)) (pe_and (pe_own Cis_name (hr.mono (by decide)) (by rfl) (pa_cons (pe_ix ix_tup (pv 0) pe_int (fun _ _ => rfl)) pa_nil)) (pe_one (pe_cmpR op_in_seq (pe_ix ix_tup (pv 0) pe_int (fun _ _ => rfl)) (pe_glob (v := .ref aK) (by rfl) gK rfl) (by rfl)))))))), ?_⟩

    obtain ⟨x, k⟩ := p
    obtain ⟨a, xs, rfl, sq, r⟩ := Dp.tup_inv (show Dp K H v (.tuple [.str x, .str (kd k)]) from dp)
    cases r with
    | cons x1 r => cases r with
      | cons x2 r =>
      cases r
      cases Dp.str_inv x1
      cases Dp.str_inv x2
      have wd1 : wordB x = true := wd
      refine ⟨_, rfl, _, _, _, _, true, rfl, .ty "tuple", ty_tup sq, kit_ty (by decide +kernel), true, rfl, iteT ?_⟩
      refine ⟨_, rfl, _, _, rfl, .inr ⟨_, sq, rfl⟩, rfl, _, rfl, iteT ?_⟩
      refine ⟨_, rfl, a, _, 0, _, rfl, rfl, sq, at0, x, rfl, by have := (word_ok wd1).2; omega, fun H1 s1 => ?_⟩
      rw [wd1]
      refine ⟨_, rfl, iteT ?_⟩
      refine ⟨_, rfl, a, _, 1, _, rfl, rfl, Same.sqT s1 sq, at1, aK, _, rfl, .inr (sK _), rfl, flat_strs _, ?_⟩
      rw [inV_strs]
      have e : decide (kd k ∈ [("block" : Str), "wrap"]) = true := by cases k <;> decide +kernel
      rw [e]
      exact q _ s1
end
end FS

set_option Elab.async false
set_option linter.all false
set_option maxRecDepth 100000
set_option maxHeartbeats 4000000
namespace FS
open PySem PySem.Spec PyProof.Rows L2
section
variable {P : Program} {w : World} {K : PySem.W.Frag} {mg : Str → Option Value} {base : Heap}
abbrev Nare_parameters : List Str := ["value", "pair"]
theorem scare_parameters : FnScope Nare_parameters ["value"] (defScope sare_parameters) := ⟨rfl, rfl, rfl, by decide +kernel, rfl, by decide +kernel, by decide +kernel⟩
theorem ok_are_parameters {f : Addr} {fd : FuncData} (F : Fun K "are_parameters" "are_parameters" sare_parameters f fd) (T : Nm K mg) (Cis_parameter : Cal P w K mg base 2 "is_parameter" ["value"] (spPar K)) : FnOk P w K mg base CX0 3 f fd ["value"] (spPars K) := by
  have nd := scare_parameters.nd
  refine F.ok scare_parameters (fun vs H Q E h => ?_) (fun cdv A outer s H vs Q E hr h => ?_)
  · obtain ⟨v, own, rfl, dp, po, q⟩ := h
    rfl
  · obtain ⟨v, own, rfl, dp, po, q⟩ := h
    obtain ⟨t3, g3⟩ := T.g_MAX_PARAMETERS
    refine ⟨_, (pss_cons (ps_if (PW.pt (pw_or (pt_not (pt_val (pe_callB call_isi (by rfl) T.b_isinstance (by decide +kernel) (pa_cons (pv 0) (pa_cons (pe_bltn (v := .ty "tuple") (by rfl) T.b_tuple (by decide +kernel) rfl) pa_nil))))) (pw_or1 (pt_cmpR op_gt (pe_callB call_len (by rfl) T.b_len PySem.boot_len (pa_cons (pv 0) pa_nil)) (pe_glob (v := .int 3) (by rfl) g3 ⟨_, rfl⟩) (nomark _)))))
  (pss_one (ps_ret pe_bl))
  pss_nil)
  (pss_cons (ps_if (pt_not (pt_val (pe_callB (cr_all rfl) (by rfl) T.b_all (by decide +kernel) (pa_cons (pe_lc (own := [("pair", 1)]) (g := gName 1) (tt := tYes) rfl nd (pi_tup (pv 0)) (blkOk_by (own := [("pair", 1)]) (N := Nare_parameters) (sc := defScope sare_parameters) (by decide +kernel)) (fun _ _ _ _ _ => (pg_name (i := 1) nd rfl (Or.inl rfl))) (fun _ _ _ _ _ => pts_nil) (fun _ _ _ _ _ => (pe_own Cis_parameter (hr.mono (by decide)) (by rfl) (pa_cons (pv 1) pa_nil)))) pa_nil))))
  (pss_one (ps_ret pe_bl))
  pss_nil)
  (pss_one (ps_ret (pe_cmpR op_eq (pe_callB cr_many (by rfl) T.b_len PySem.boot_len (pa_cons (pe_set (own := [("pair", 1)]) (g := gName 1) (tt := tYes) rfl nd (pi_tup (pv 0)) (blkOk_by (own := [("pair", 1)]) (N := Nare_parameters) (sc := defScope sare_parameters) (by decide +kernel)) (fun _ _ _ _ _ => (pg_name (i := 1) nd rfl (Or.inl rfl))) (fun _ _ _ _ _ => pts_nil) (fun _ _ _ _ _ => (pe_ix (ix_tupK (K := K) rfl) (pv 1) pe_int (fun _ _ => rfl)))) pa_nil)) (pe_callB call_len (by rfl) T.b_len PySem.boot_len (pa_cons (pv 0) pa_nil)) (nomark _)))))), ?_⟩

    obtain ⟨a, xs, rfl, sq, r⟩ := Dp.tup_inv (show Dp K H v (.tuple (own.map parD)) from dp)
    have l : xs.length = own.length := by rw [DpAll.len r, List.length_map]
    have f3 := po.few
    have nl : noLs (own.map parD) = true := pars_noL own
    have ent : ∀ {H' i x}, Same H H' → xs[i]? = some x → ∃ p, own[i]? = some p ∧ Dp K H' x (parD p) := fun {H' i x} sm hx => by
      obtain ⟨d, hd, dx⟩ := DpAll.get (DpAll.stay (.of sm) nl r) hx
      rw [List.getElem?_map] at hd
      obtain ⟨p, hp, rfl⟩ := Option.map_eq_some_iff.mp hd
      exact ⟨p, hp, dx⟩
    refine ⟨_, rfl, _, _, _, _, true, rfl, .ty "tuple", ty_tup sq, kit_ty (by decide +kernel), true, rfl, ?_⟩
    refine iteF ?_
    refine ⟨_, rfl, _, _, rfl, .inr ⟨_, sq, rfl⟩, _, _, rfl, rfl, _, rfl, ite2 (fun e => absurd (of_decide_eq_true e) (by omega)) (fun _ => ?_)⟩
    refine ⟨_, rfl, a, rfl, ⟨xs, sq⟩, fun D nD => ?_⟩
    refine lc_tup (xs := xs) (fun i H' => Same H H' ∧ H' D = some (.lst (List.replicate i (V.bl true)))) ⟨same_upd nD, upd_same⟩ (fun i H' hi hp => Same.sqT hp.1 sq) (fun i x H2 hx hp => ?_) (fun H' hp => ?_)
    · obtain ⟨sm, eD⟩ := hp
      obtain ⟨p, hp, dx⟩ := ent sm hx
      have li := (List.getElem?_eq_some_iff.mp hx).1
      refine ⟨rfl, _, rfl, x, p, rfl, dx, po.nms p (List.mem_of_getElem? hp), fun H3 s3 => ⟨_, s3 _ _ eD, ?_, Same.set (sm.trans s3) nD, ?_⟩⟩
      · rw [List.length_replicate]
        exact small1000 (by omega)
      · rw [upd_same, List.replicate_succ']
    · obtain ⟨sm, eD⟩ := hp
      have ea : ∀ n, (List.replicate n true).all id = true := fun n => List.all_eq_true.mpr fun b hb => (List.eq_of_mem_replicate hb)
      refine ⟨D, List.replicate xs.length true, rfl, .inl (.inl (by rw [List.map_replicate]; exact eD)), ?_⟩
      rw [ea]
      refine ⟨_, rfl, iteF ?_⟩
      refine ⟨_, rfl, a, rfl, ⟨xs, Same.sqT sm sq⟩, fun D2 nD2 => ?_⟩
      have n0 : H D2 = none := Same.free sm nD2
      refine set_tup (xs := xs) (fun i H2 => Same H H2 ∧ H2 D2 = some (SO w D2 ((own.take i).map (·.1)))) ⟨sm.trans (same_upd nD2), upd_same⟩ (fun i H' hi hp => Same.sqT hp.1 sq) (fun i x H2 hx hp => ?_) (fun H2 hp => ?_)
      · obtain ⟨sm2, e2⟩ := hp
        obtain ⟨p, hp, dx⟩ := ent sm2 hx
        have li := (List.getElem?_eq_some_iff.mp hx).1
        obtain ⟨b, ys, rfl, sb, rb⟩ := Dp.tup_inv (show Dp K H2 x (.tuple [.str p.1, .str (kd p.2)]) from dx)
        cases rb with
        | cons y1 rb =>
          cases Dp.str_inv y1
          refine ⟨rfl, _, rfl, b, _, 0, _, rfl, rfl, sb, at0, p.1, _, rfl, e2, ?_, Same.set sm2 n0, ?_⟩
          · rw [List.length_map, List.length_take]
            exact Nat.lt_of_le_of_lt (Nat.succ_le_succ (Nat.min_le_right _ _)) (Nat.lt_of_le_of_lt (Nat.succ_le_succ f3) (by decide))
          · rw [upd_same, take_one (·.1) hp, addS_new (take_new (·.1) po.nd hp)]
            rfl
      · obtain ⟨sm2, e2⟩ := hp
        refine ⟨D2, _, rfl, e2, _, rfl, _, _, rfl, .inr ⟨_, Same.sqT sm2 sq, rfl⟩, rfl, ?_⟩
        have e : (((own.take xs.length).map (·.1)).length : Int) = (xs.length : Int) := by
          rw [l, List.take_length, List.length_map]
        have e3 : decide (V.int (((own.take xs.length).map (·.1)).length : Int) = V.int (xs.length : Int)) = true := by
          rw [e]
          exact decide_eq_true rfl
        rw [e3]
        exact q _ sm2
end
end FS

set_option Elab.async false
set_option linter.all false
set_option maxRecDepth 100000
set_option maxHeartbeats 4000000
namespace FS
open PySem PySem.Spec PyProof.Rows L2
section
variable {P : Program} {w : World} {K : PySem.W.Frag} {mg : Str → Option Value} {base : Heap}
abbrev Nis_term : List Str := ["value", "parameters", "pending", "many", "part", "kinds", "depth", "inner", "allowed"]
theorem scis_term : FnScope Nis_term ["value", "parameters"] (defScope sis_term) := ⟨rfl, rfl, rfl, by decide +kernel, rfl, by decide +kernel, by decide +kernel⟩
theorem ok_is_term {f : Addr} {fd : FuncData} (F : Fun K "is_term" "is_term" sis_term f fd) (T : Nm K mg) (Care_parameters : Cal P w K mg base 3 "are_parameters" ["value"] (spPars K)) (Ckind_of : Cal P w K mg base 1 "kind_of" ["value"] (spKind K)) (Chas_form : Cal P w K mg base 4 "has_form" ["part", "parameters"] (spForm K)) (Cparts_in : Cal P w K mg base 1 "parts_in" ["part"] (spParts K)) (Ckinds_in : Cal P w K mg base 3 "kinds_in" ["part"] (spKinds K)) : FnOk P w K mg base CX0 5 f fd ["value", "parameters"] (spTerm K) := by
  have nd := scis_term.nd
  refine F.ok scis_term (fun vs H Q E h => ?_) (fun cdv A outer s H vs Q E hr h => ?_)
  · obtain ⟨own, v, pw, t, rfl, tm, dw, nw, few, low, q⟩ := h
    rfl
  · obtain ⟨own, v, pw, t, rfl, tm, dw, nw, few, low, q⟩ := h
    obtain ⟨t40, g40⟩ := T.g_MAX_TERMS
    obtain ⟨t6, g6⟩ := T.g_MAX_DEPTH
    refine ⟨_, (pss_cons (ps_if (pt_not (pt_val (pe_own Care_parameters (hr.mono (by decide)) (by rfl) (pa_cons (pv 1) pa_nil))))
  (pss_one ps_never)
  pss_nil)
  (pss_cons (ps_set (i := 2) nd rfl (Or.inl rfl) (pe_lst (pa_cons (pe_tup (pa_cons (pv 0) (pa_cons (pe_tup (pa_cons pe_str pa_nil)) (pa_cons pe_int pa_nil)))) pa_nil)))
  (pss_cons (ps_set (i := 3) nd rfl (Or.inl rfl) pe_int)
  (pss_cons (ps_while PassesOwn.never (pt_truth (pv 2) (fun _ => rfl))
  (pss_cons (ps_asg (pe_bm0 PySem.F.plainAttrs_list PySem.F.slot_list_pop PySem.F.type_list_pop mt_pop (pv 2)) (pg_tup rfl (pgs_cons (pg_name (i := 4) nd rfl (Or.inl rfl)) (pgs_cons (pg_name (i := 5) nd rfl (Or.inl rfl)) (pgs_cons (pg_name (i := 6) nd rfl (Or.inl rfl)) pgs_nil)))))
  (pss_cons (ps_aug (i := 3) nd rfl (.inl rfl) pe_int ip_add)
  (pss_cons (ps_if (PW.pt (pw_or (pt_cmpR op_gt (pv 3) (pe_glob (v := .int 40) (by rfl) g40 ⟨_, rfl⟩) (nomark _)) (pw_or1 (pt_cmpR op_gt (pv 6) (pe_glob (v := .int 6) (by rfl) g6 ⟨_, rfl⟩) (nomark _)))))
  (pss_one (ps_ret pe_bl))
  pss_nil)
  (pss_cons (ps_if (PW.pt (pw_or (pt_cmpR op_notIn_seq (pe_own Ckind_of (hr.mono (by decide)) (by rfl) (pa_cons (pv 4) pa_nil)) (pv 5) (by rfl)) (pw_or1 (pt_not (pt_val (pe_own Chas_form (hr.mono (by decide)) (by rfl) (pa_cons (pv 4) (pa_cons (pv 1) pa_nil))))))))
  (pss_one (ps_ret pe_bl))
  pss_nil)
  (pss_one (ps_for PassesOwn.never rfl (RZ.pi_zipA (by rfl) T.b_zip (pa_cons (pe_own Cparts_in (hr.mono (by decide)) (by rfl) (pa_cons (pv 4) pa_nil)) (pa_cons (pe_own Ckinds_in (hr.mono (by decide)) (by rfl) (pa_cons (pv 4) pa_nil)) pa_nil))) (pg_tup rfl (pgs_cons (pg_name (i := 7) nd rfl (Or.inl rfl)) (pgs_cons (pg_name (i := 8) nd rfl (Or.inl rfl)) pgs_nil)))
  (pss_one (ps_expr (pe_bm PySem.F.plainAttrs_list PySem.F.slot_list_append PySem.F.type_list_append mt_append (pv 2) (pa_cons (pe_tup (pa_cons (pv 7) (pa_cons (pv 8) (pa_cons (pe_op op_add (pv 6) pe_int) pa_nil)))) pa_nil)))))))))))
  (pss_one (ps_ret pe_bl)))))), ?_⟩

    have po := tm.po
    refine ⟨_, rfl, pw, own, rfl, dw, po, fun H1 s1 => ?_⟩
    refine ⟨_, rfl, iteF ?_⟩
    refine ⟨_, rfl, by show 1 ≤ sizeLine; decide, fun p1 n1 => ?_⟩
    have s2 := s1.trans (same_upd (o := .tup [V.str "block"]) n1)
    have e1 : upd H1 p1 (.tup [V.str "block"]) p1 = some (.tup [V.str "block"]) := upd_same
    generalize upd H1 p1 (.tup [V.str "block"]) = H2 at s2 e1 ⊢
    refine ⟨by show 3 ≤ sizeLine; decide, fun p2 n2 => ?_⟩
    have s3a := same_upd (o := .tup [v, V.ref p1, V.int 1]) n2
    have e2 : upd H2 p2 (.tup [v, V.ref p1, V.int 1]) p2 = some (.tup [v, V.ref p1, V.int 1]) := upd_same
    generalize upd H2 p2 (.tup [v, V.ref p1, V.int 1]) = H3 at s3a e2 ⊢
    refine ⟨by show 1 ≤ sizeLine; decide, fun pl n3 => ?_⟩
    have s4a := same_upd (o := .lst [V.ref p2]) n3
    have e3 : upd H3 pl (.lst [V.ref p2]) pl = some (.lst [V.ref p2]) := upd_same
    have s3 := s2.trans s3a
    have npl : H pl = none := Same.free s3 n3
    generalize upd H3 pl (.lst [V.ref p2]) = H4 at s4a e3 ⊢
    have s4 := s3.trans s4a
    have sgl : ∀ {x : V} {H' : Hp}, Same H4 H' → x = V.ref p2 → Dp K H' x (Tr.data ⟨t, [false], 1⟩) := fun {x H'} s e => by
      subst e
      exact .tup (.inl (.inl (s _ _ (s4a _ _ e2)))) (.cons (Dp.stay (.of (s4.trans s)) t.noL tm.dp) (.cons (.tup (.inl (.inl (s _ _ (s4a _ _ (s3a _ _ e1))))) (.cons (.str _) .nil)) (.cons (.int _) .nil)))
    refine ⟨fun m σ H' => ∃ (many : Nat) (y4 y5 y6 y7 y8 : Option V), σ = [some v, some pw, some (.ref pl), some (.int (many : Int)), y4, y5, y6, y7, y8] ∧ Same H H' ∧ ∃ (xs : List V) (trs : List Tr), H' pl = some (.lst xs) ∧ DpAll K H' xs (trs.map Tr.data) ∧ (∀ r ∈ trs, TrOk own r) ∧ many + counts (trs.map Tr.t) = t.count ∧ m = counts (trs.map Tr.t), ⟨_, 0, _, _, _, _, _, rfl, s4, [V.ref p2], [⟨t, [false], 1⟩], e3, .cons (sgl (.refl _) rfl) .nil, ?_, ?_, rfl⟩, fun m σ H5 hw => ?_⟩
    · intro r hr
      cases List.mem_singleton.mp hr
      exact ⟨tm.good, by rw [nw]; exact List.mem_cons_self, by show 1 + t.deep ≤ 7; omega⟩
    · show 0 + counts [t] = t.count
      rw [counts_cons]
      show 0 + (t.count + 0) = _
      omega
    · obtain ⟨many, y4, y5, y6, y7, y8, rfl, sm, xs, trs, hp, rx, ok, cnt, rfl⟩ := hw
      rcases List.eq_nil_or_concat trs with rfl | ⟨ini, r, rfl⟩
      · cases rx
        refine ⟨_, rfl, false, .inl ⟨[], .inl (.inl hp), rfl⟩, iteF ?_⟩
        exact q _ sm
      · rw [List.concat_eq_append] at *
        rw [List.map_append] at rx cnt
        have rx1 : DpAll K H5 xs (ini.map Tr.data ++ [r.data]) := rx
        obtain ⟨us, ws, rfl, ru, rw1⟩ := DpAll.split rx1
        cases rw1 with
        | @cons x _ _ _ hx r0 =>
        cases r0
        have okr := ok r (List.mem_append_right _ List.mem_cons_self)
        have oki : ∀ r ∈ ini, TrOk own r := fun r h => ok r (List.mem_append_left _ h)
        clear ok rx rx1
        have cr := count_eq r.t
        have cnt2 : many + (counts (ini.map Tr.t) + r.t.count) = t.count := by
          have h := counts_app (ini.map Tr.t) [r.t]
          have h2 : counts [r.t] = r.t.count := by
            rw [counts_cons]
            rfl
          rw [h2] at h
          rw [← h]
          exact cnt
        have em : counts ((ini ++ [r]).map Tr.t) = counts (ini.map Tr.t) + r.t.count := by
          rw [List.map_append, counts_app]
          show _ + counts [r.t] = _
          rw [counts_cons]
          rfl
        rw [em]
        clear cnt
        obtain ⟨a, ys, rfl, sq, ry⟩ := Dp.tup_inv (show Dp K H5 x (.tuple [r.t.data, kindsD r.k, .int (r.d : Int)]) from hx)
        cases ry with
        | @cons pv _ _ _ dpart ry => cases ry with
          | @cons kv _ _ _ dkind ry => cases ry with
            | cons ddep ry =>
            cases ry
            cases ddep
            refine ⟨_, rfl, true, .inl ⟨_, .inl (.inl hp), by cases us <;> rfl⟩, iteT ?_⟩
            refine ⟨fun σ2 H2 => ∃ (y4 y5 y6 y7 y8 : Option V), σ2 = [some v, some pw, some (.ref pl), some (.int ((many + 1 : Nat) : Int)), y4, y5, y6, y7, y8] ∧ Same H H2 ∧ ∃ (xs : List V) (trs : List Tr), H2 pl = some (.lst xs) ∧ DpAll K H2 xs (trs.map Tr.data) ∧ (∀ r ∈ trs, TrOk own r) ∧ many + 1 + counts (trs.map Tr.t) = t.count, fun σ2 H2 h => ?_, ?_⟩
            · obtain ⟨y4, y5, y6, y7, y8, rfl, sm2, xs2, trs2, hp2, rx2, ok2, c2⟩ := h
              exact ⟨counts (trs2.map Tr.t), by omega, many + 1, y4, y5, y6, y7, y8, rfl, sm2, xs2, trs2, hp2, rx2, ok2, c2, rfl⟩
            · refine ⟨_, rfl, .inl ⟨rfl, _, .inl (.inl hp)⟩, pl, us ++ [.ref a], .ref a, rfl, rfl, hp, by simp, ?_⟩
              have ed : (us ++ [V.ref a]).dropLast = us := by simp
              rw [ed]
              have st6 := Stay.set (ys := us) hp
              have sm6 := Same.set (o := .lst us) sm npl
              have hp6 : upd H5 pl (.lst us) pl = some (.lst us) := upd_same
              have sq6 := st6.sqT sq
              have dp6 := Dp.stay st6 r.t.noL dpart
              have dk6 := Dp.stay st6 (kinds_noL r.k) dkind
              have ru6 := DpAll.stay st6 (trs_noL ini) ru
              clear hp sq dpart dkind ru hx
              generalize upd H5 pl (.lst us) = H6 at st6 sm6 hp6 sq6 dp6 dk6 ru6 ⊢
              refine ⟨a, _, rfl, sq6, rfl, _, _, rfl, _, _, rfl, _, _, rfl, rfl, ?_⟩
              refine ⟨_, rfl, _, _, rfl, rfl, ?_⟩
              have e40 : ¬ ((40 : Int) < (many : Int) + 1) := by omega
              have e6 : ¬ ((6 : Int) < (r.d : Int)) := by
                have := okr.deep
                have : 0 < r.t.deep := by
                  obtain ⟨⟨h, ks⟩, _, _⟩ := r
                  exact Nat.succ_pos _
                omega
              refine ⟨_, rfl, _, _, rfl, rfl, _, rfl, ite2 (fun e => absurd (of_decide_eq_true e) e40) (fun _ => ?_)⟩
              refine ⟨_, rfl, _, _, rfl, rfl, _, rfl, ite2 (fun e => absurd (of_decide_eq_true e) e6) (fun _ => ?_)⟩
              have low6 : r.t.deep ≤ 60 := by
                have := okr.deep
                omega
              refine ⟨_, rfl, own, pv, r.t, rfl, ⟨dp6, okr.good, po, low6⟩, fun H7 s7 => ?_⟩
              obtain ⟨ak, rfl, sk⟩ := kinds_open (Dp.stay (.of s7) (kinds_noL r.k) dk6)
              refine ⟨_, rfl, ak, _, rfl, .inr sk, rfl, flat_strs _, _, rfl, ?_⟩
              rw [inV_strs]
              have ein : decide (kd r.t.isW ∈ r.k.map kd) = true := decide_eq_true (List.mem_map_of_mem okr.kind)
              rw [ein]
              refine iteF ?_
              have g7 := okr.good
              have dp7 := Dp.stay (.of s7) r.t.noL dp6
              refine ⟨_, rfl, _, rfl, own, pv, pw, r.t, rfl, ⟨dp7, g7, po, low6⟩, Dp.stay (.of (sm6.trans s7)) (pars_noL own) dw, fun H8 s8 => ?_⟩
              refine ⟨_, rfl, iteF ?_⟩
              refine ⟨_, rfl, own, pv, r.t, rfl, Dp.stay (.of s8) r.t.noL dp7, g7, fun H9 b1 kv1 s9 sq9 r9 => ?_⟩
              have lk : kv1.length = r.t.kids.length := by rw [DpAll.len r9, datas_len]
              have kf : r.t.kids.length ≤ counts r.t.kids := by
                exact len_counts _
              refine ⟨_, rfl, own, pv, r.t, rfl, Dp.stay (.of (s8.trans s9)) r.t.noL dp7, g7, by omega, fun H10 b2 kv2 s10 sq10 r10 => ?_⟩
              have la : (r.t.hd.allow r.t.kids.length).length = r.t.kids.length := allow_len _ _ fun e => by
                obtain ⟨⟨h, ks⟩, _, _⟩ := r
                cases (show h = .wrp from e)
                exact Good.wrp2 g7
              have lk2 : kv2.length = r.t.kids.length := by rw [DpAll.len r10, List.length_map, la]
              have s67 := s7.trans (s8.trans (s9.trans s10))
              have dall : noLs ((r.t.hd.allow r.t.kids.length).map kindsD) = true := by
                generalize r.t.hd.allow r.t.kids.length = l
                induction l with
                | nil => rfl
                | cons x l ih =>
                  show (noL (kindsD x) && noLs (l.map kindsD)) = true
                  rw [kinds_noL, ih]
                  rfl
              refine ⟨b1, b2, kv1, kv2, rfl, .inr ⟨Same.sqT s10 sq9, sq10, ?_⟩⟩
              refine RZ.for_zipT (xs := kv1) (ys := kv2) (by omega) (fun i σ2 H2 => ∃ (y7 y8 : Option V), σ2 = [some v, some pw, some (.ref pl), some (.int ((many + 1 : Nat) : Int)), some pv, some (.ref ak), some (.int (r.d : Int)), y7, y8] ∧ Same H H2 ∧ Stay H10 H2 ∧ ∃ (xs : List V) (new : List Tr), H2 pl = some (.lst xs) ∧ DpAll K H2 xs ((ini ++ new).map Tr.data) ∧ (∀ r ∈ new, TrOk own r) ∧ new.map Tr.t = r.t.kids.take i) ?_ ?_ ?_ ?_
              · exact ⟨_, _, rfl, sm6.trans s67, .refl _, us, [], s67 _ _ hp6, by rw [List.append_nil]; exact DpAll.stay (.of s67) (trs_noL ini) ru6, (fun r h => nomatch h), rfl⟩
              · rintro i σ2 H2 ⟨_, _, _, _, st, _⟩
                exact ⟨st.sqT (Same.sqT s10 sq9), st.sqT sq10⟩
              · rintro i x y T σ2 H2 hx hy ⟨y7, y8, rfl, sm2, st2, xs, new, hp2, rx2, okn, en⟩ nT
                obtain ⟨u, hu, du⟩ := DpAll.kid (DpAll.stay (.of s10) (noL_datas _) r9) hx
                obtain ⟨d, hd, dy⟩ := DpAll.get r10 hy
                rw [List.getElem?_map] at hd
                obtain ⟨al, ha, rfl⟩ := Option.map_eq_some_iff.mp hd
                have dx2 := Dp.stay st2 u.noL du
                have dy2 := Dp.stay st2 (kinds_noL al) dy
                have sT := same_upd (o := .tup [x, y]) nT
                have eT : upd H2 T (.tup [x, y]) T = some (.tup [x, y]) := upd_same
                have mu : u ∈ r.t.kids := List.mem_of_getElem? hu
                generalize upd H2 T (.tup [x, y]) = H3 at sT eT ⊢
                refine ⟨T, [x, y], rfl, .inl (.inl eT), rfl, _, _, rfl, _, _, rfl, rfl, ?_⟩
                refine ⟨_, rfl, .inl ⟨rfl, _, .inl (.inl (sT _ _ hp2))⟩, _, rfl, _, rfl, _, rfl, _, _, rfl, rfl, by show 3 ≤ sizeLine; decide, fun p3 n3 => ?_⟩
                have s3' := same_upd (o := .tup [x, y, .int ((r.d : Int) + 1)]) n3
                have e3' : upd H3 p3 (.tup [x, y, .int ((r.d : Int) + 1)]) p3 = some (.tup [x, y, .int ((r.d : Int) + 1)]) := upd_same
                have s4' := sT.trans s3'
                generalize upd H3 p3 (.tup [x, y, .int ((r.d : Int) + 1)]) = H4' at s3' e3' s4' ⊢
                have hp4 := s4' _ _ hp2
                refine ⟨pl, xs, .ref p3, rfl, rfl, hp4, ?_, ?_⟩
                · rw [DpAll.len rx2, List.length_map]
                  have e1 : (ini ++ new).length = ini.length + new.length := List.length_append
                  have e2 : new.length ≤ r.t.kids.length := by
                    have h := congrArg List.length en
                    rw [List.length_map, List.length_take] at h
                    omega
                  have e3 : ini.length ≤ counts (ini.map Tr.t) := by
                    exact trs_counts ini
                  exact small1000 (by omega)
                · have st5 := Stay.set (ys := xs ++ [V.ref p3]) hp4
                  have stA := (Stay.of s4').trans st5
                  refine ⟨_, _, rfl, Same.set (sm2.trans s4') npl, st2.trans stA, xs ++ [.ref p3], new ++ [⟨u, al, r.d + 1⟩], upd_same, ?_, ?_, ?_⟩
                  · rw [← List.append_assoc, List.map_append]
                    refine DpAll.app (DpAll.stay stA (trs_noL _) rx2) (.cons ?_ .nil)
                    exact .tup (st5.sqT (.inl (.inl e3'))) (.cons (Dp.stay stA u.noL dx2) (.cons (Dp.stay stA (kinds_noL al) dy2) (.cons (.int _) .nil)))
                  · intro z hz
                    rcases List.mem_append.mp hz with h | h
                    · exact okn z h
                    · cases List.mem_singleton.mp h
                      obtain ⟨⟨h, ks⟩, _, _⟩ := r
                      exact ⟨g7.kid mu, kid_allow g7 hu ha, by
                        have h1 := deep_kid mu
                        have h2 := okr.deep
                        show _ + 1 + u.deep ≤ 7
                        omega⟩
                  · rw [List.map_append, en, take_more hu]
                    rfl
              · rintro σ2 H2 ⟨y7, y8, rfl, sm2, st2, xs, new, hp2, rx2, okn, en⟩
                refine ⟨_, _, _, _, _, rfl, sm2, xs, ini ++ new, hp2, rx2, fun z hz => ?_, ?_⟩
                · rcases List.mem_append.mp hz with h | h
                  · exact oki z h
                  · exact okn z h
                · rw [List.map_append, counts_app, en, lk, List.take_length]
                  omega
end
end FS

set_option Elab.async false
set_option linter.all false
set_option maxRecDepth 100000
set_option maxHeartbeats 4000000
namespace FS
open PySem PySem.Spec PyProof.Rows L2
section
variable {P : Program} {w : World} {K : PySem.W.Frag} {mg : Str → Option Value} {base : Heap}
abbrev NProcedure__init__ : List Str := ["self", "name", "parameters", "body", "_", "kind", "part"]
theorem scProcedure__init__ : FnScope NProcedure__init__ ["self", "name", "parameters", "body"] (defScope sProcedure__init__) := ⟨rfl, rfl, rfl, by decide +kernel, rfl, by decide +kernel, by decide +kernel⟩
theorem ok_Procedure__init__ {f : Addr} {fd : FuncData} (F : Fun K "__init__" "Procedure.__init__" sProcedure__init__ f fd) (T : Nm K mg) {C : Addr} (PC : PrC K mg C) (Cis_name : Cal P w K mg base 1 "is_name" ["value"] spName) (Cis_term : Cal P w K mg base 5 "is_term" ["value", "parameters"] (spTerm K)) (Call_parts : Cal P w K mg base 8 "all_parts" ["part"] (spAll K 7)) : FnOk P w K mg base CX0 9 f fd ["self", "name", "parameters", "body"] (spInit K C) := by
  have nd := scProcedure__init__.nd
  refine F.ok scProcedure__init__ (fun vs H Q E h => ?_) (fun cdv A outer s H vs Q E hr h => ?_)
  · obtain ⟨p, dx, nm, pv', bv, own, t, rfl, hp, wd, dw, db, po, gd, nw, few, low, q⟩ := h
    rfl
  · obtain ⟨p, dx, nm, pv', bv, own, t, rfl, hp, wd, dw, db, po, gd, nw, few, low, q⟩ := h
    skip
    refine ⟨_, (pss_cons (ps_if (pt_not (pt_val (pe_own Cis_name (hr.mono (by decide)) (by rfl) (pa_cons (pv 1) pa_nil))))
  (pss_one ps_never)
  pss_nil)
  (pss_cons (ps_if (pt_not (pt_val (pe_own Cis_term (hr.mono (by decide)) (by rfl) (pa_cons (pv 3) (pa_cons (pv 2) pa_nil)))))
  (pss_one ps_never)
  pss_nil)
  (pss_cons (ps_fld (pv 0) (pv 1) rfl)
  (pss_cons (ps_fld (pv 0) (pv 2) rfl)
  (pss_cons (ps_fld (pv 0) (pv 3) rfl)
  (pss_cons (ps_fld (pv 0) (pe_own Call_parts (hr.mono (by decide)) (by rfl) (pa_cons (pv 3) pa_nil)) rfl)
  (pss_cons (ps_fld (pv 0) (pe_callTy call_tuple_of (by rfl) T.b_tuple (by decide +kernel) (pa_cons (pe_lc (own := [("_", 4), ("kind", 5)]) (g := gTup K 2 (gCons (gName 4) (gCons (gName 5) gNil))) (tt := tYes) rfl nd (pi_tup (pv 2)) (blkOk_by (own := [("_", 4), ("kind", 5)]) (N := NProcedure__init__) (sc := defScope sProcedure__init__) (by decide +kernel)) (fun _ _ _ _ _ => (pg_tup rfl (pgs_cons (pg_name (i := 4) nd rfl (Or.inl rfl)) (pgs_cons (pg_name (i := 5) nd rfl (Or.inl rfl)) pgs_nil)))) (fun _ _ _ _ _ => pts_nil) (fun _ _ _ _ _ => (pv 5))) pa_nil)) rfl)
  (pss_cons (ps_fld (pv 0) (pe_callTy call_tuple_of (by rfl) T.b_tuple (by decide +kernel) (pa_cons (pe_callB (cr_ranked rfl) (by rfl) T.b_sorted (by decide +kernel) (pa_cons (pe_set (own := [("part", 6)]) (g := gName 6) rfl nd (pi_list (pe_fld (pv 0) rfl)) (blkOk_by (own := [("part", 6)]) (N := NProcedure__init__) (sc := defScope sProcedure__init__) (by decide +kernel)) (fun _ _ _ _ _ => (pg_name (i := 6) nd rfl (Or.inl rfl))) (fun _ _ _ _ _ => pts_one (pt_cmpR op_eq (pe_ix (ix_tupK (K := K) rfl) (pv 6) pe_int (fun _ _ => rfl)) pe_str (nomark _))) (fun _ _ _ _ _ => (pe_ix (ix_tupK (K := K) rfl) (pv 6) pe_int (fun _ _ => rfl)))) pa_nil)) pa_nil)) rfl)
  (pss_one (ps_fld (pv 0) (pe_callTy call_tuple_of (by rfl) T.b_tuple (by decide +kernel) (pa_cons (pe_callB (cr_ranked rfl) (by rfl) T.b_sorted (by decide +kernel) (pa_cons (pe_set (own := [("part", 6)]) (g := gName 6) rfl nd (pi_list (pe_fld (pv 0) rfl)) (blkOk_by (own := [("part", 6)]) (N := NProcedure__init__) (sc := defScope sProcedure__init__) (by decide +kernel)) (fun _ _ _ _ _ => (pg_name (i := 6) nd rfl (Or.inl rfl))) (fun _ _ _ _ _ => pts_one (pt_cmpR (op_inK (K := K) rfl) (pe_ix (ix_tupK (K := K) rfl) (pv 6) pe_int (fun _ _ => rfl)) (pe_tup (pa_cons pe_str (pa_cons pe_str pa_nil))) (by rfl))) (fun _ _ _ _ _ => (pe_ix (ix_tupK (K := K) rfl) (pv 6) pe_int (fun _ _ => rfl)))) pa_nil)) pa_nil)) rfl)))))))))), ?_⟩

    refine ⟨_, rfl, nm, rfl, by have := (word_ok wd).2; omega, fun H1 s1 => ?_⟩
    rw [wd]
    refine ⟨_, rfl, iteF ?_⟩
    refine ⟨_, rfl, _, rfl, own, bv, pv', t, rfl, ⟨Dp.tk (.of s1) t.noL db, gd, po, by omega⟩, Dp.tk (.of s1) (pars_noL own) dw, nw, few, low, fun H2 s2 => ?_⟩
    refine ⟨_, rfl, iteF ?_⟩
    have s12 := s1.trans s2
    have hp2 := s12 _ _ hp
    have db2 := Dp.tk (.of s12) t.noL db
    have dw2 := Dp.tk (.of s12) (pars_noL own) dw
    have k2 : Kp p H H2 := .of s12
    clear s1 s2 s12 hp db dw
    have fin : ∀ {H' H'' : Hp} {fs : List (Str × V)} {y : V} {g : Str}, Kp p H H' → H' p = some (.ins C dx fs) → upd H' p (.ins C dx (putF g y fs)) = H'' → Kp p H H'' ∧ H'' p = some (.ins C dx (putF g y fs)) ∧ TK H' H'' ∧ Kp p H' H'' := fun k e h => by
      subst h
      exact ⟨k.trans .set, upd_same, TK.set e rfl, .set⟩
    refine ⟨_, rfl, _, rfl, p, C, dx, [], rfl, hp2, PC.cl, PC.a1, by show 0 < 1000; decide, ?_⟩
    generalize hh : upd H2 p _ = H3
    obtain ⟨k3, hp3, t3, -⟩ := fin k2 hp2 hh
    have db3 := Dp.tk t3 t.noL db2
    have dw3 := Dp.tk t3 (pars_noL own) dw2
    clear hh t3 hp2 k2 db2 dw2
    refine ⟨_, rfl, _, rfl, p, C, dx, _, rfl, hp3, PC.cl, PC.a2, by show 1 < 1000; decide, ?_⟩
    generalize hh : upd H3 p _ = H4
    obtain ⟨k4, hp4, t4, -⟩ := fin k3 hp3 hh
    rw [show putF "_named" (V.str nm) [] = [(("_named" : Str), V.str nm)] from rfl, pf2] at hp4
    have db4 := Dp.tk t4 t.noL db3
    have dw4 := Dp.tk t4 (pars_noL own) dw3
    rw [show putF "_named" (V.str nm) [] = [(("_named" : Str), V.str nm)] from rfl, pf2] at hh
    clear t4 hp3 k3 db3 dw3 hh
    refine ⟨_, rfl, _, rfl, p, C, dx, _, rfl, hp4, PC.cl, PC.a3, by show 2 < 1000; decide, ?_⟩
    generalize hh : upd H4 p _ = H5
    obtain ⟨k5, hp5, t5, -⟩ := fin k4 hp4 hh
    rw [pf3] at hp5
    have db5 := Dp.tk t5 t.noL db4
    have dw5 := Dp.tk t5 (pars_noL own) dw4
    clear t5 hp4 k4 db4 dw4 hh
    -- the parts
    refine ⟨_, rfl, own, bv, t, rfl, db5, gd, by omega, by omega, fun H6 pa xs s6 na hpa rx => ?_⟩
    have naH : H pa = none := by
      cases e : H pa with
      | none => rfl
      | some o =>
        have npa : pa ≠ p := fun z => by
          rw [z, hp5] at na
          cases na
        have := k5 _ _ npa e
        rw [this] at na
        cases na
    have hp6 := s6 _ _ hp5
    have k6 := k5.trans (.of s6)
    have db6 := Dp.tk (.of s6) t.noL db5
    have dw6 := Dp.tk (.of s6) (pars_noL own) dw5
    have npa : pa ≠ p := fun z => by
      rw [z, hp5] at na
      cases na
    clear hp5 k5 db5 dw5 s6 na
    refine ⟨_, rfl, p, C, dx, _, rfl, hp6, PC.cl, PC.a4, by show 3 < 1000; decide, ?_⟩
    generalize hh : upd H6 p _ = H7
    obtain ⟨k7, hp7, t7, j7⟩ := fin k6 hp6 hh
    rw [pf4] at hp7
    have db7 := Dp.tk t7 t.noL db6
    have dw7 := Dp.tk t7 (pars_noL own) dw6
    have hpa7 := j7 _ _ npa hpa
    have rx7 := DpAll.tk t7 (noL_datas _) rx
    clear t7 hp6 k6 db6 dw6 hh j7 hpa rx
    -- the kinds
    obtain ⟨aw, ps, rfl, sqp, rp⟩ := Dp.tup_inv (show Dp K H7 pv' (.tuple (own.map parD)) from dw7)
    have lp : ps.length = own.length := by rw [DpAll.len rp, List.length_map]
    refine ⟨_, rfl, aw, rfl, ⟨ps, sqp⟩, fun D nD => ?_⟩
    refine lc_tup (xs := ps) (fun i H' => Same H7 H' ∧ H' D = some (.lst ((own.take i).map fun z => V.str (kd z.2)))) ⟨same_upd nD, upd_same⟩ (fun i H' hi h => Same.sqT h.1 sqp) (fun i x H8 hx h => ?_) (fun H8 h => ?_)
    · obtain ⟨sm, eD⟩ := h
      obtain ⟨d, hd, dx'⟩ := DpAll.get (DpAll.stay (.of sm) (pars_noL own) rp) hx
      rw [List.getElem?_map] at hd
      obtain ⟨z, hz, rfl⟩ := Option.map_eq_some_iff.mp hd
      have li := (List.getElem?_eq_some_iff.mp hx).1
      have f3 := po.few
      obtain ⟨b, ys, rfl, sb, rb⟩ := Dp.tup_inv (show Dp K H8 x (.tuple [.str z.1, .str (kd z.2)]) from dx')
      cases rb with
      | cons y1 rb => cases rb with
        | cons y2 rb =>
        cases rb
        cases Dp.str_inv y1
        cases Dp.str_inv y2
        refine ⟨b, _, rfl, sb, rfl, _, _, rfl, _, _, rfl, rfl, ?_⟩
        refine ⟨rfl, _, rfl, _, eD, ?_, Same.set sm nD, ?_⟩
        · rw [List.length_map, List.length_take]
          exact Nat.lt_of_le_of_lt (Nat.min_le_right _ _) (small1000 (by omega))
        · rw [upd_same, take_one (fun z : Str × Bool => V.str (kd z.2)) hz]
    · obtain ⟨s8, eD⟩ := h
      rw [lp, List.take_length] at eD
      refine ⟨D, _, rfl, .inl ⟨.inl (.inl eD), fun ka nk => ?_⟩⟩
      have s9 := s8.trans (same_upd (o := .tup (own.map fun z => V.str (kd z.2))) nk)
      have ek : upd H8 ka (.tup (own.map fun z => V.str (kd z.2))) ka = some (.tup (own.map fun z => V.str (kd z.2))) := upd_same
      generalize upd H8 ka (.tup (own.map fun z => V.str (kd z.2))) = H9 at s9 ek ⊢
      have dk9 : Dp K H9 (.ref ka) (kindD own) := .tup (.inl (.inl ek)) (by
        have h : ∀ l : List (Str × Bool), DpAll K H9 (l.map fun z => V.str (kd z.2)) (l.map fun z => PyData.str (kd z.2)) := fun l => by
          induction l with
          | nil => exact .nil
          | cons x r ih => exact .cons (.str _) ih
        exact h own)
      have hp9 := s9 _ _ hp7
      have k9 := k7.trans (.of s9)
      have db9 := Dp.tk (.of s9) t.noL db7
      have dw9 := Dp.tk (.of s9) (pars_noL own) dw7
      have hpa9 := s9 _ _ hpa7
      have rx9 := DpAll.tk (.of s9) (noL_datas _) rx7
      clear s8 eD nk s9 ek hp7 k7 db7 dw7 hpa7 rx7 sqp rp nD
      refine ⟨_, rfl, p, C, dx, _, rfl, hp9, PC.cl, PC.a5, by show 4 < 1000; decide, ?_⟩
      generalize hh : upd H9 p _ = G0
      obtain ⟨k0, hp0, t0, j0⟩ := fin k9 hp9 hh
      rw [pf5] at hp0
      have db0 := Dp.tk t0 t.noL db9
      have dw0 := Dp.tk t0 (pars_noL own) dw9
      have hpa0 := j0 _ _ npa hpa9
      have rx0 := DpAll.tk t0 (noL_datas _) rx9
      have dk0 := Dp.tk t0 (kindD_noL own) dk9
      clear t0 hp9 k9 db9 dw9 hh j0 hpa9 rx9 dk9
      have lx : xs.length = t.count := by rw [DpAll.len rx0, datas_len]; rfl
      have la : t.all.length = t.count := rfl
      have ne : xs ≠ [] := fun z => by
        have := count_pos t
        rw [z] at lx
        simp at lx
        omega
      -- the words
      refine ⟨_, rfl, p, C, dx, _, _, rfl, hp0, PC.cl, PC.a4, lkq4, pa, rfl, ⟨xs, .inl (.inl hpa0)⟩, fun D2 nD2 => ?_⟩
      refine set_list (xs := xs) (fun i H' => Same G0 H' ∧ H' D2 = some (SO w D2 (uniq ((t.all.take i).filterMap wordOf)))) ⟨same_upd nD2, upd_same⟩ (fun i H' hi h => .inl (.inl (h.1 _ _ hpa0))) (fun i x G1 hx h => ?_) (fun G1 h => ?_)
      · obtain ⟨sm, eD⟩ := h
        obtain ⟨u, hu, du⟩ := datas_at (DpAll.tk (.of sm) (noL_datas _) rx0) hx
        obtain ⟨b, ys, rfl, sb, hw, -⟩ := deed_open du
        refine ⟨rfl, _, rfl, b, _, 0, _, rfl, rfl, sb, at0, rfl, _, rfl, ?_⟩
        rw [tag_dec u.hd (j := 0)]
        refine ite2 (fun e => ?_) (fun e => ?_)
        · rcases hw with ⟨_, wd', zs, ew, rfl⟩ | ⟨e0, _⟩
          · refine ⟨_, rfl, b, _, 1, _, rfl, rfl, sb, at1, wd', _, rfl, eD, uniq_small (fm_len _ _ _) (by omega), Same.set sm nD2, ?_⟩
            rw [upd_same, fm_some hu ew, uniq_more]
            rfl
          · exact absurd (of_decide_eq_true e) e0
        · rcases hw with ⟨e0, _⟩ | ⟨_, ew⟩
          · exact absurd (decide_eq_true e0) e
          · rw [fm_none hu ew]
            exact ⟨sm, eD⟩
      · obtain ⟨s1, eD⟩ := h
        rw [lx, ← la, List.take_length] at eD
        refine ⟨D2, _, rfl, eD, by have := uniq_small (fm_len t.all t.all.length wordOf) (by omega); rw [List.take_length] at this; have e : scanBound = 4096 := rfl; omega, fun ws q1 pm so nq => ?_⟩
        have s2 := s1.trans (same_upd (o := .lst (ws.map V.str)) nq)
        have e2 : upd G1 q1 (.lst (ws.map V.str)) q1 = some (.lst (ws.map V.str)) := upd_same
        generalize upd G1 q1 (.lst (ws.map V.str)) = G2 at s2 e2 ⊢
        refine ⟨q1, _, rfl, .inl ⟨.inl (.inl e2), fun wa nw' => ?_⟩⟩
        have s3 := s2.trans (same_upd (o := .tup (ws.map V.str)) nw')
        have e3 : upd G2 wa (.tup (ws.map V.str)) wa = some (.tup (ws.map V.str)) := upd_same
        generalize upd G2 wa (.tup (ws.map V.str)) = G3 at s3 e3 ⊢
        have dws3 : Dp K G3 (.ref wa) (strsD ws) := .tup (.inl (.inl e3)) (dp_strs ws)
        have rws : Ranks (t.all.filterMap wordOf) ws := ⟨pm, so⟩
        have hp3 := s3 _ _ hp0
        have k3 := k0.trans (.of s3)
        have db3 := Dp.tk (.of s3) t.noL db0
        have dw3 := Dp.tk (.of s3) (pars_noL own) dw0
        have hpa3 := s3 _ _ hpa0
        have rx3 := DpAll.tk (.of s3) (noL_datas _) rx0
        have dk3 := Dp.tk (.of s3) (kindD_noL own) dk0
        clear s1 eD pm so nq s2 e2 nw' s3 e3 hp0 k0 db0 dw0 hpa0 rx0 dk0 nD2
        refine ⟨_, rfl, p, C, dx, _, rfl, hp3, PC.cl, PC.a6, by show 5 < 1000; decide, ?_⟩
        generalize hh : upd G3 p _ = G4
        obtain ⟨k4, hp4, t4, j4⟩ := fin k3 hp3 hh
        rw [pf6] at hp4
        have db4 := Dp.tk t4 t.noL db3
        have dw4 := Dp.tk t4 (pars_noL own) dw3
        have hpa4 := j4 _ _ npa hpa3
        have rx4 := DpAll.tk t4 (noL_datas _) rx3
        have dk4 := Dp.tk t4 (kindD_noL own) dk3
        have dws4 := Dp.tk t4 (strs_noL ws) dws3
        clear t4 hp3 k3 db3 dw3 hh j4 hpa3 rx3 dk3 dws3
        -- the uses
        refine ⟨_, rfl, p, C, dx, _, _, rfl, hp4, PC.cl, PC.a4, lkr4, pa, rfl, ⟨xs, .inl (.inl hpa4)⟩, fun D3 nD3 => ?_⟩
        refine set_list (xs := xs) (fun i H' => Same G4 H' ∧ H' D3 = some (SO w D3 (uniq ((t.all.take i).filterMap useOf)))) ⟨same_upd nD3, upd_same⟩ (fun i H' hi h => .inl (.inl (h.1 _ _ hpa4))) (fun i x G5 hx h => ?_) (fun G5 h => ?_)
        · obtain ⟨sm, eD⟩ := h
          obtain ⟨u, hu, du⟩ := datas_at (DpAll.tk (.of sm) (noL_datas _) rx4) hx
          obtain ⟨b, ys, rfl, sb, -, hw⟩ := deed_open du
          refine ⟨rfl, _, rfl, b, _, 0, _, rfl, rfl, sb, at0, by show 2 ≤ sizeLine; decide, fun p2 np2 => ?_⟩
          have sm2 := sm.trans (same_upd (o := .tup ([("call" : Str), "with"].map V.str)) np2)
          have eD2 := same_upd (o := .tup ([("call" : Str), "with"].map V.str)) np2 _ _ eD
          have sb2 := Same.sqT (same_upd (o := .tup ([("call" : Str), "with"].map V.str)) np2) sb
          refine ⟨p2, [("call" : Str), "with"].map V.str, rfl, .inr (.inl (.inl upd_same)), rfl, flat_strs _, _, rfl, ?_⟩
          rw [inV_strs, tag2]
          refine ite2 (fun e => ?_) (fun e => ?_)
          · rcases hw with ⟨_, wd', zs, ew, rfl⟩ | ⟨e0, _⟩
            · refine ⟨_, rfl, b, _, 1, _, rfl, rfl, sb2, at1, wd', _, rfl, eD2, uniq_small (fm_len _ _ _) (by omega), Same.set sm2 nD3, ?_⟩
              rw [upd_same, fm_some hu ew, uniq_more]
              rfl
            · rw [e0] at e
              cases e
          · rcases hw with ⟨e0, _⟩ | ⟨_, ew⟩
            · exact absurd e0 e
            · rw [fm_none hu ew]
              exact ⟨sm2, eD2⟩
        · obtain ⟨s1, eD⟩ := h
          rw [lx, ← la, List.take_length] at eD
          refine ⟨D3, _, rfl, eD, by have := uniq_small (fm_len t.all t.all.length useOf) (by omega); rw [List.take_length] at this; have e : scanBound = 4096 := rfl; omega, fun us q1 pm so nq => ?_⟩
          have s2 := s1.trans (same_upd (o := .lst (us.map V.str)) nq)
          have e2 : upd G5 q1 (.lst (us.map V.str)) q1 = some (.lst (us.map V.str)) := upd_same
          generalize upd G5 q1 (.lst (us.map V.str)) = G6 at s2 e2 ⊢
          refine ⟨q1, _, rfl, .inl ⟨.inl (.inl e2), fun ua nu => ?_⟩⟩
          have s3 := s2.trans (same_upd (o := .tup (us.map V.str)) nu)
          have e3 : upd G6 ua (.tup (us.map V.str)) ua = some (.tup (us.map V.str)) := upd_same
          generalize upd G6 ua (.tup (us.map V.str)) = G7 at s3 e3 ⊢
          have dus3 : Dp K G7 (.ref ua) (strsD us) := .tup (.inl (.inl e3)) (dp_strs us)
          have hp5 := s3 _ _ hp4
          refine ⟨_, rfl, p, C, dx, _, rfl, hp5, PC.cl, PC.a7, by show 6 < 1000; decide, ?_⟩
          generalize hh : upd G7 p _ = G8
          obtain ⟨k8, hp8, t8, j8⟩ := fin (k4.trans (.of s3)) hp5 hh
          rw [pf7] at hp8
          have tt := (TK.of s3).trans t8
          have fin8 : ∀ D o, H D = some o → D ≠ p → PAtD K C G8 D p nm own t := fun D o hD nD => ⟨⟨dx, _, bv, pa, ka, wa, ua, xs, ws, us, hp8, Dp.tk tt (pars_noL own) dw4, Dp.tk tt t.noL db4, j8 _ _ npa (s3 _ _ hpa4), DpAll.tk tt (noL_datas _) rx4, Dp.tk tt (kindD_noL own) dk4, Dp.tk tt (strs_noL ws) dws4, Dp.tk t8 (strs_noL us) dus3, rws, ⟨pm, so⟩, fun z => by
            rw [z, hD] at naH
            cases naH⟩, fun z => nD z.symm, wd, po, gd, nw, few, low⟩
          exact q G8 ⟨⟨dx, _, bv, pa, ka, wa, ua, xs, ws, us, hp8, Dp.tk tt (pars_noL own) dw4, Dp.tk tt t.noL db4, j8 _ _ npa (s3 _ _ hpa4), DpAll.tk tt (noL_datas _) rx4, Dp.tk tt (kindD_noL own) dk4, Dp.tk tt (strs_noL ws) dws4, Dp.tk t8 (strs_noL us) dus3, rws, ⟨pm, so⟩⟩, wd, po, gd, nw, few, low⟩ k8 fin8
end
end FS

set_option Elab.async false
set_option linter.all false
set_option maxRecDepth 100000
set_option maxHeartbeats 4000000
namespace FS
open PySem PySem.Spec PyProof.Rows L2
section
variable {P : Program} {w : World} {K : PySem.W.Frag} {mg : Str → Option Value} {base : Heap}
abbrev NProcedurenamed : List Str := ["self"]
theorem scProcedurenamed : FnScope NProcedurenamed ["self"] (defScope sProcedurenamed) := ⟨rfl, rfl, rfl, by decide +kernel, rfl, by decide +kernel, by decide +kernel⟩
theorem ok_Procedurenamed {f : Addr} {fd : FuncData} (F : Fun K "named" "Procedure.named" sProcedurenamed f fd) (T : Nm K mg) {C : Addr} (PC : PrC K mg C) : FnOk P w K mg base CX0 1 f fd ["self"] (spGet K C "_named") := by
  have nd := scProcedurenamed.nd
  refine F.ok scProcedurenamed (fun vs H Q E h => ?_) (fun cdv A outer s H vs Q E hr h => ?_)
  · obtain ⟨a, dx, fs, v, rfl, ha, lk, q⟩ := h
    rfl
  · obtain ⟨a, dx, fs, v, rfl, ha, lk, q⟩ := h
    skip
    refine ⟨_, (pss_one (ps_ret (pe_fld (pv 0) rfl))), ?_⟩

    exact ⟨_, rfl, a, C, dx, fs, v, rfl, ha, PC.cl, PC.a1, lk, q⟩
end
end FS

set_option Elab.async false
set_option linter.all false
set_option maxRecDepth 100000
set_option maxHeartbeats 4000000
namespace FS
open PySem PySem.Spec PyProof.Rows L2
section
variable {P : Program} {w : World} {K : PySem.W.Frag} {mg : Str → Option Value} {base : Heap}
abbrev NProcedureparameters : List Str := ["self"]
theorem scProcedureparameters : FnScope NProcedureparameters ["self"] (defScope sProcedureparameters) := ⟨rfl, rfl, rfl, by decide +kernel, rfl, by decide +kernel, by decide +kernel⟩
theorem ok_Procedureparameters {f : Addr} {fd : FuncData} (F : Fun K "parameters" "Procedure.parameters" sProcedureparameters f fd) (T : Nm K mg) {C : Addr} (PC : PrC K mg C) : FnOk P w K mg base CX0 1 f fd ["self"] (spGet K C "_parameters") := by
  have nd := scProcedureparameters.nd
  refine F.ok scProcedureparameters (fun vs H Q E h => ?_) (fun cdv A outer s H vs Q E hr h => ?_)
  · obtain ⟨a, dx, fs, v, rfl, ha, lk, q⟩ := h
    rfl
  · obtain ⟨a, dx, fs, v, rfl, ha, lk, q⟩ := h
    skip
    refine ⟨_, (pss_one (ps_ret (pe_fld (pv 0) rfl))), ?_⟩

    exact ⟨_, rfl, a, C, dx, fs, v, rfl, ha, PC.cl, PC.a2, lk, q⟩
end
end FS

set_option Elab.async false
set_option linter.all false
set_option maxRecDepth 100000
set_option maxHeartbeats 4000000
namespace FS
open PySem PySem.Spec PyProof.Rows L2
section
variable {P : Program} {w : World} {K : PySem.W.Frag} {mg : Str → Option Value} {base : Heap}
abbrev NProcedurebody : List Str := ["self"]
theorem scProcedurebody : FnScope NProcedurebody ["self"] (defScope sProcedurebody) := ⟨rfl, rfl, rfl, by decide +kernel, rfl, by decide +kernel, by decide +kernel⟩
theorem ok_Procedurebody {f : Addr} {fd : FuncData} (F : Fun K "body" "Procedure.body" sProcedurebody f fd) (T : Nm K mg) {C : Addr} (PC : PrC K mg C) : FnOk P w K mg base CX0 1 f fd ["self"] (spGet K C "_body") := by
  have nd := scProcedurebody.nd
  refine F.ok scProcedurebody (fun vs H Q E h => ?_) (fun cdv A outer s H vs Q E hr h => ?_)
  · obtain ⟨a, dx, fs, v, rfl, ha, lk, q⟩ := h
    rfl
  · obtain ⟨a, dx, fs, v, rfl, ha, lk, q⟩ := h
    skip
    refine ⟨_, (pss_one (ps_ret (pe_fld (pv 0) rfl))), ?_⟩

    exact ⟨_, rfl, a, C, dx, fs, v, rfl, ha, PC.cl, PC.a3, lk, q⟩
end
end FS

set_option Elab.async false
set_option linter.all false
set_option maxRecDepth 100000
set_option maxHeartbeats 4000000
namespace FS
open PySem PySem.Spec PyProof.Rows L2
section
variable {P : Program} {w : World} {K : PySem.W.Frag} {mg : Str → Option Value} {base : Heap}
abbrev NProcedurekinds : List Str := ["self"]
theorem scProcedurekinds : FnScope NProcedurekinds ["self"] (defScope sProcedurekinds) := ⟨rfl, rfl, rfl, by decide +kernel, rfl, by decide +kernel, by decide +kernel⟩
theorem ok_Procedurekinds {f : Addr} {fd : FuncData} (F : Fun K "kinds" "Procedure.kinds" sProcedurekinds f fd) (T : Nm K mg) {C : Addr} (PC : PrC K mg C) : FnOk P w K mg base CX0 1 f fd ["self"] (spGet K C "_kinds") := by
  have nd := scProcedurekinds.nd
  refine F.ok scProcedurekinds (fun vs H Q E h => ?_) (fun cdv A outer s H vs Q E hr h => ?_)
  · obtain ⟨a, dx, fs, v, rfl, ha, lk, q⟩ := h
    rfl
  · obtain ⟨a, dx, fs, v, rfl, ha, lk, q⟩ := h
    skip
    refine ⟨_, (pss_one (ps_ret (pe_fld (pv 0) rfl))), ?_⟩

    exact ⟨_, rfl, a, C, dx, fs, v, rfl, ha, PC.cl, PC.a5, lk, q⟩
end
end FS

set_option Elab.async false
set_option linter.all false
set_option maxRecDepth 100000
set_option maxHeartbeats 4000000
namespace FS
open PySem PySem.Spec PyProof.Rows L2
section
variable {P : Program} {w : World} {K : PySem.W.Frag} {mg : Str → Option Value} {base : Heap}
abbrev NProcedurewords : List Str := ["self"]
theorem scProcedurewords : FnScope NProcedurewords ["self"] (defScope sProcedurewords) := ⟨rfl, rfl, rfl, by decide +kernel, rfl, by decide +kernel, by decide +kernel⟩
theorem ok_Procedurewords {f : Addr} {fd : FuncData} (F : Fun K "words" "Procedure.words" sProcedurewords f fd) (T : Nm K mg) {C : Addr} (PC : PrC K mg C) : FnOk P w K mg base CX0 1 f fd ["self"] (spGet K C "_words") := by
  have nd := scProcedurewords.nd
  refine F.ok scProcedurewords (fun vs H Q E h => ?_) (fun cdv A outer s H vs Q E hr h => ?_)
  · obtain ⟨a, dx, fs, v, rfl, ha, lk, q⟩ := h
    rfl
  · obtain ⟨a, dx, fs, v, rfl, ha, lk, q⟩ := h
    skip
    refine ⟨_, (pss_one (ps_ret (pe_fld (pv 0) rfl))), ?_⟩

    exact ⟨_, rfl, a, C, dx, fs, v, rfl, ha, PC.cl, PC.a6, lk, q⟩
end
end FS

set_option Elab.async false
set_option linter.all false
set_option maxRecDepth 100000
set_option maxHeartbeats 4000000
namespace FS
open PySem PySem.Spec PyProof.Rows L2
section
variable {P : Program} {w : World} {K : PySem.W.Frag} {mg : Str → Option Value} {base : Heap}
abbrev NProcedure__len__ : List Str := ["self"]
theorem scProcedure__len__ : FnScope NProcedure__len__ ["self"] (defScope sProcedure__len__) := ⟨rfl, rfl, rfl, by decide +kernel, rfl, by decide +kernel, by decide +kernel⟩
theorem ok_Procedure__len__ {f : Addr} {fd : FuncData} (F : Fun K "__len__" "Procedure.__len__" sProcedure__len__ f fd) (T : Nm K mg) {C : Addr} (PC : PrC K mg C) : FnOk P w K mg base CX0 1 f fd ["self"] (spLen K C) := by
  have nd := scProcedure__len__.nd
  refine F.ok scProcedure__len__ (fun vs H Q E h => ?_) (fun cdv A outer s H vs Q E hr h => ?_)
  · obtain ⟨a, nm, own, t, rfl, pt, q⟩ := h
    rfl
  · obtain ⟨a, nm, own, t, rfl, pt, q⟩ := h
    skip
    refine ⟨_, (pss_one (ps_ret (pe_callB call_len (by rfl) T.b_len PySem.boot_len (pa_cons (pe_fld (pv 0) rfl) pa_nil)))), ?_⟩

    obtain ⟨⟨dx, pv', bv, pa, ka, wa, ua, xs, ws, us, h1, h2, h3, h4, h5, h6, h7, h8, h9, h10⟩, b, c, d, e, f, g⟩ := pt
    have l : xs.length = t.count := by rw [DpAll.len h5, datas_len]; rfl
    refine ⟨_, rfl, a, C, dx, _, _, rfl, h1, PC.cl, PC.a4, lk4, _, _, rfl, .inl ⟨xs, .inl (.inl h4), rfl⟩, ?_⟩
    rw [l]
    exact q
end
end FS

set_option Elab.async false
set_option linter.all false
set_option maxRecDepth 100000
set_option maxHeartbeats 4000000
namespace FS
open PySem PySem.Spec PyProof.Rows L2
section
variable {P : Program} {w : World} {K : PySem.W.Frag} {mg : Str → Option Value} {base : Heap}
abbrev NProcedure__str__ : List Str := ["self"]
theorem scProcedure__str__ : FnScope NProcedure__str__ ["self"] (defScope sProcedure__str__) := ⟨rfl, rfl, rfl, by decide +kernel, rfl, by decide +kernel, by decide +kernel⟩
theorem ok_Procedure__str__ {f : Addr} {fd : FuncData} (F : Fun K "__str__" "Procedure.__str__" sProcedure__str__ f fd) (T : Nm K mg) {C : Addr} (PC : PrC K mg C) : FnOk P w K mg base CX0 1 f fd ["self"] (spStr K C) := by
  have nd := scProcedure__str__.nd
  refine F.ok scProcedure__str__ (fun vs H Q E h => ?_) (fun cdv A outer s H vs Q E hr h => ?_)
  · obtain ⟨a, nm, own, t, rfl, pt, q⟩ := h
    rfl
  · obtain ⟨a, nm, own, t, rfl, pt, q⟩ := h
    skip
    refine ⟨_, (pss_one (ps_ret (pe_joined (.cons pe_str (.cons (pe_fmt (pe_fld (pv 0) rfl)) (.cons pe_str (.cons (pe_fmt (pe_callB call_len (by rfl) T.b_len PySem.boot_len (pa_cons (pe_fld (pv 0) rfl) pa_nil))) (.cons pe_str (.cons (pe_fmt (pe_callB call_len (by rfl) T.b_len PySem.boot_len (pa_cons (pe_fld (pv 0) rfl) pa_nil))) (.cons pe_str .nil)))))))))), ?_⟩

    obtain ⟨⟨dx, pv', bv, pa, ka, wa, ua, xs, ws, us, h1, h2, h3, h4, h5, h6, h7, h8, h9, h10⟩, b, c, d, e, f, g⟩ := pt
    have l : xs.length = t.count := by rw [DpAll.len h5, datas_len]; rfl
    obtain ⟨aw, ps, rfl, sqp, rp⟩ := Dp.tup_inv (show Dp K H pv' (.tuple (own.map parD)) from h2)
    have lp : ps.length = own.length := by rw [DpAll.len rp, List.length_map]
    have ln := (word_ok b).2
    have s3 := c.few
    have z : sizeLine = 16777216 := sizeLine_eq
    have small : ∀ n : Nat, n < 41 → (Str.ofString (toString (n : Int))).length ≤ 5 := by decide +kernel
    have z1 := small own.length (by omega)
    have z2 := small t.count (by omega)
    have y1 : (Str.empty ++ ("procedure " : Str)).length = 10 := by decide +kernel
    have y2 : (", " : Str).length = 2 := by decide +kernel
    have y3 : (" parameters, " : Str).length = 13 := by decide +kernel
    have y4 : (" terms" : Str).length = 6 := by decide +kernel
    have la : ∀ a b : Str, (a ++ b).length = a.length + b.length := fun a b => len_app a b
    refine ⟨_, rfl, by omega, ?_⟩
    refine ⟨_, rfl, a, C, dx, _, _, rfl, h1, PC.cl, PC.a1, lk1, .inl ⟨nm, rfl, by omega, nm, rfl, by rw [la]; omega, ?_⟩⟩
    refine ⟨_, rfl, by rw [la, la]; omega, ?_⟩
    refine ⟨_, rfl, a, C, dx, _, _, rfl, h1, PC.cl, PC.a2, lk2, _, _, rfl, .inr ⟨ps, sqp, rfl⟩, .inr ⟨_, rfl, ?_, _, rfl, ?_, ?_⟩⟩
    · rw [lp]
      exact small_log own.length (by omega)
    · rw [lp, la, la, la]
      omega
    refine ⟨_, rfl, by rw [lp, la, la, la, la]; omega, ?_⟩
    refine ⟨_, rfl, a, C, dx, _, _, rfl, h1, PC.cl, PC.a4, lk4, _, _, rfl, .inl ⟨xs, .inl (.inl h4), rfl⟩, .inr ⟨_, rfl, ?_, _, rfl, ?_, ?_⟩⟩
    · rw [l]
      exact small_log t.count (by omega)
    · rw [l, lp, la, la, la, la, la]
      omega
    refine ⟨_, rfl, by rw [l, lp, la, la, la, la, la, la]; omega, ?_⟩
    refine q _ ?_
    rw [l, lp]
    rfl
end
end FS

set_option Elab.async false
set_option linter.all false
set_option maxRecDepth 100000
set_option maxHeartbeats 4000000
namespace FS
open PySem PySem.Spec PyProof.Rows L2
section
variable {P : Program} {w : World} {K : PySem.W.Frag} {mg : Str → Option Value} {base : Heap}
abbrev NProcedure__eq__ : List Str := ["self", "other"]
theorem scProcedure__eq__ : FnScope NProcedure__eq__ ["self", "other"] (defScope sProcedure__eq__) := ⟨rfl, rfl, rfl, by decide +kernel, rfl, by decide +kernel, by decide +kernel⟩
theorem ok_Procedure__eq__ {f : Addr} {fd : FuncData} (F : Fun K "__eq__" "Procedure.__eq__" sProcedure__eq__ f fd) (T : Nm K mg) {C : Addr} (PC : PrC K mg C) : FnOk P w K mg base CX0 1 f fd ["self", "other"] (spEqT K C) := by
  have nd := scProcedure__eq__.nd
  refine F.ok scProcedure__eq__ (fun vs H Q E h => ?_) (fun cdv A outer s H vs Q E hr h => ?_)
  · obtain ⟨a, y, nm, own, t, rfl, pt, q⟩ := h
    rfl
  · obtain ⟨a, y, nm, own, t, rfl, pt, q⟩ := h
    skip
    refine ⟨_, (pss_one (ps_ret (pe_and (pe_callB call_isi (by rfl) T.b_isinstance (by decide +kernel) (pa_cons (pv 1) (pa_cons (pe_glob (v := .ref C) (by rfl) PC.gC rfl) pa_nil))) (pe_and (pe_cmpR op_eq (pe_fld (pv 0) rfl) (pe_fld (pv 1) rfl) (nomark _)) (pe_and (pe_cmpR (op_eqD hr.units) (pe_fld (pv 0) rfl) (pe_fld (pv 1) rfl) (nomark _)) (pe_one (pe_cmpR (op_eqD hr.units) (pe_fld (pv 0) rfl) (pe_fld (pv 1) rfl) (nomark _)))))))), ?_⟩

    obtain ⟨⟨dx, pv', bv, pa, ka, wa, ua, xs, ws, us, h1, h2, h3, h4, h5, h6, h7, h8, h9, h10⟩, b, po, gd, e, f, g⟩ := pt
    rcases q with ⟨ty, ht, hk, q⟩ | ⟨b2, nm', own', t', rfl, ⟨⟨dx', pv2, bv2, pa', ka', wa', ua', xs', ws', us', h1', h2', h3', _⟩, b', po', gd', e', f', g'⟩, q⟩
    · exact ⟨_, rfl, _, _, _, _, false, rfl, .own C, ht, hk, false, rfl, q⟩
    · have ty : TyX K H (.ref b2) (.ref C) := .base (.ins h1' PC.cl PC.ha PC.hn PC.htk PC.hm)
      refine ⟨_, rfl, _, _, _, _, true, rfl, .own C, ty, PC.self, true, rfl, iteT ?_⟩
      refine ⟨_, rfl, a, C, dx, _, _, rfl, h1, PC.cl, PC.a1, lk1, _, rfl, b2, C, dx', _, _, rfl, h1', PC.cl, PC.a1, lk1, rfl, _, rfl, ?_⟩
      have e1 : decide (V.str nm = V.str nm') = (nm == nm') := by
        by_cases z : nm = nm' <;> simp [z]
      rw [e1]
      cases hn : (nm == nm') with
      | false =>
        rw [hn, Bool.false_and, Bool.false_and] at q
        exact iteF q
      | true =>
        rw [hn, Bool.true_and] at q
        refine iteT ?_
        refine ⟨_, rfl, a, C, dx, _, _, rfl, h1, PC.cl, PC.a2, lk2, _, rfl, b2, C, dx', _, _, rfl, h1', PC.cl, PC.a2, lk2, _, _, h2, h2', pars_shaped po, pars_shaped po', _, rfl, ?_⟩
        cases hp : PyData.eqv (parsD own) (parsD own') with
        | false =>
          rw [hp, Bool.false_and] at q
          exact iteF q
        | true =>
          rw [hp, Bool.true_and] at q
          refine iteT ?_
          refine ⟨_, rfl, a, C, dx, _, _, rfl, h1, PC.cl, PC.a3, lk3, _, rfl, b2, C, dx', _, _, rfl, h1', PC.cl, PC.a3, lk3, _, _, h3, h3', gd.shaped po.nms (by omega), gd'.shaped po'.nms (by omega), q⟩
end
end FS

set_option Elab.async false
set_option linter.all false
set_option maxRecDepth 100000
set_option maxHeartbeats 4000000
/-! the law's side: dice, drawn values, tables of parameters -/
namespace FS
open PySem PySem.Spec PyProof.Rows L2
section
variable {X : Cx}
def CPowW (i j : Int) : Prop := 0 ≤ j ∧ (Builtin.Int.intBits i : Int) * j ≤ 2 ^ 27
theorem op_powW : OpR X (binaryOp .Pow) (rI CPowW fun i j => .int (i ^ j.toNat)) := opI fun _ _ _ _ _ _ _ hc q => pow_int hc.1 hc.2 q
end
section
variable {X : Cx} {K : PySem.W.Frag}
theorem ix_listK (h : X.K = K) : IxR X (rIxL K) := by
  subst h
  exact ix_list
theorem sl_tupK (h : X.K = K) : SlR X (rSlA K) := by
  subst h
  exact sl_tupA
theorem op_catAK (h : X.K = K) : OpR X (binaryOp .Add) (rCatA K) := by
  subst h
  exact op_catA
theorem call_lenK (h : X.K = K) : CallR X (.builtin "len") (fun xs H Q => ∃ x n, xs = [x] ∧ LenV K x H n ∧ Q (.int n) H) := by
  subst h
  exact call_len
theorem op_eqDK (h : X.K = K) (hu : X.A.units + 64 < cLine) : OpR X (compareOp .Eq) (rEqD K) := by
  subst h
  exact op_eqD hu
theorem op_neDK (h : X.K = K) (hu : X.A.units + 64 < cLine) : OpR X (compareOp .NotEq) (rNeD K) := by
  subst h
  exact op_neD hu
theorem op_inTK (h : X.K = K) (hu : X.A.units + 65 < cLine) : OpR X (compareOp .In) (rInT K false) := by
  subst h
  exact op_inT hu
theorem pe_bmK {o e : Expr} {es : List Expr} {to : TE} {t : TA} {name : Str} {apos cpos : Pos} {T id : String} {r : V → List V → Hp → VK → Prop} (h : X.K = K) (pa : PlainAttrs T) (slot : Slot T name id) (hty : typeOf (.builtin id) = pure (.type "method_descriptor")) (hm : MtR X id r) (ho : PE X o to) (ha : PA X (e :: es) t)
    (hbase : attributeBase o name X.env (eval o X.env) = eval o X.env := by rfl)
    (hfew : ((backTo cpos (starEach (e :: es) X.env)).all (fun x => !x.1) && (backToKw cpos (keywordEach [] X.env)).all (fun x => x.1.isSome)
      && decide ((e :: es).length + ([] : List Keyword).length + (if ([] : List Keyword).isEmpty then 0 else 1) < 30)) = true := by rfl)
    (hline : (apos.endLine == cpos.line) = true := by rfl) (hs : starEach (e :: es) X.env = (false, eval e X.env) :: starEach es X.env := by rfl) (hplain : (backTo cpos (starEach es X.env)).any (·.1) = false := by rfl) :
    PE X (.Call (.Attribute o name apos) (e :: es) [] cpos) (tBM K T r to t) := by
  subst h
  exact pe_bm pa slot hty hm ho ha hbase hfew hline hs hplain
end
def Die (H : Hp) (a : Addr) : Prop := ∃ x y z : Int, H a = some (.lst [.int x, .int y, .int z])
/-- all but a is as it was, and a is a die -/
def Go (a : Addr) (H H' : Hp) : Prop := (∀ b o, b ≠ a → H b = some o → H' b = some o) ∧ Die H' a
theorem Die.same {H H' : Hp} {a : Addr} (d : Die H a) (s : Same H H') : Die H' a := by
  obtain ⟨x, y, z, e⟩ := d
  exact ⟨x, y, z, s _ _ e⟩
theorem Go.of {H H' : Hp} {a : Addr} (d : Die H a) (s : Same H H') : Go a H H' := ⟨fun b o _ e => s b o e, d.same s⟩
theorem Go.refl {H : Hp} {a : Addr} (d : Die H a) : Go a H H := .of d (.refl H)
theorem Go.trans {H H1 H2 : Hp} {a : Addr} (x : Go a H H1) (y : Go a H1 H2) : Go a H H2 := ⟨fun b o n e => y.1 b o n (x.1 b o n e), y.2⟩
theorem Go.same {H H1 H2 : Hp} {a : Addr} (x : Go a H H1) (y : Same H1 H2) : Go a H H2 := x.trans (.of x.2 y)
theorem Go.setDie {H : Hp} {a : Addr} {x y z : Int} : Go a H (upd H a (.lst [.int x, .int y, .int z])) := ⟨fun b o n e => by rw [upd_ne n]; exact e, x, y, z, upd_same⟩
theorem Go.new {H : Hp} {a p : Addr} {o : HO} (d : Die H a) (h : H p = none) : Go a H (upd H p o) := .of d (same_upd h)
theorem Die.ne {H : Hp} {a p : Addr} (d : Die H a) (h : H p = none) : p ≠ a := fun e => by
  obtain ⟨x, y, z, q⟩ := d
  rw [← e, h] at q
  cases q
/-- a fresh thing may change -/
theorem Go.upd {H H1 : Hp} {a p : Addr} {o : HO} (g : Go a H H1) (np : H p = none) (n : p ≠ a) : Go a H (upd H1 p o) := ⟨fun b u nb e => by
  rw [upd_ne (ne_of_none e np)]
  exact g.1 b u nb e, by
  obtain ⟨x, y, z, e⟩ := g.2
  exact ⟨x, y, z, by rw [upd_ne n.symm]; exact e⟩⟩
theorem Go.seq {K : PySem.W.Frag} {H H' : Hp} {a b : Addr} {xs : List V} (g : Go a H H') (n : b ≠ a) (h : SqL K H b xs) : SqL K H' b xs := by
  rcases h with (h | ⟨o, h⟩) | h
  · exact .inl (.inl (g.1 _ _ n h))
  · exact .inl (.inr ⟨o, g.1 _ _ n h⟩)
  · exact .inr h
theorem Go.tk {H H' : Hp} {a : Addr} (d : Die H a) (g : Go a H H') : TK H H' := fun b o t e => g.1 b o (fun z => by
  subst z
  obtain ⟨x, y, w, q⟩ := d
  rw [q] at e
  cases Option.some.inj e
  cases t) e
def Asc (z : Str) : Prop := ∀ c ∈ z.cps.toList, c < 128
/-- the values that are drawn: none of them the die -/
inductive Knd (H : Hp) (a : Addr) : V → Prop
  | non : Knd H a .non
  | bl (b : Bool) : Knd H a (.bl b)
  | int (i : Int) : Knd H a (.int i)
  | str (z : Str) (h : z.length ≤ 30000) (h2 : Asc z) : Knd H a (.str z)
  | tup {p : Addr} {xs : List V} (n : p ≠ a) (e : H p = some (.tup xs)) : Knd H a (.ref p)
  | lst {p : Addr} {xs : List V} (n : p ≠ a) (e : H p = some (.lst xs)) : Knd H a (.ref p)
  | dct {p : Addr} {kvs : List (Key × V)} (n : p ≠ a) (e : H p = some (.dK kvs)) : Knd H a (.ref p)
theorem Knd.go {H H' : Hp} {a : Addr} {v : V} (k : Knd H a v) (g : Go a H H') : Knd H' a v := by
  cases k with
  | non => exact .non
  | bl b => exact .bl b
  | int i => exact .int i
  | str z h h2 => exact .str z h h2
  | tup n e => exact .tup n (g.1 _ _ n e)
  | lst n e => exact .lst n (g.1 _ _ n e)
  | dct n e => exact .dct n (g.1 _ _ n e)
theorem Knd.nw {H : Hp} {a p : Addr} {o : HO} {v : V} (d : Die H a) (h : H p = none) (k : Knd H a v) : Knd (upd H p o) a v := k.go (.new d h)
def KL (H : Hp) (a : Addr) (xs : List V) : Prop := ∀ v ∈ xs, Knd H a v
theorem KL.go {H H' : Hp} {a : Addr} {xs : List V} (k : KL H a xs) (g : Go a H H') : KL H' a xs := fun v h => (k v h).go g
theorem KL.nil {H : Hp} {a : Addr} : KL H a [] := fun v h => nomatch h
theorem KL.cons {H : Hp} {a : Addr} {x : V} {xs : List V} (h : Knd H a x) (k : KL H a xs) : KL H a (x :: xs) := fun v hv => by
  rcases List.mem_cons.mp hv with rfl | e
  · exact h
  · exact k v e
/-- one new object more among the known ones; which heap it is is forgotten -/
theorem nwT {H0 H H' : Hp} {a p : Addr} {xs ys : List V} (e : upd H p (.tup ys) = H') (g : Go a H0 H) (k : KL H a xs) (h : H p = none) : Go a H0 H' ∧ KL H' a (.ref p :: xs) ∧ Go a H H' ∧ H' p = some (.tup ys) ∧ p ≠ a := by
  subst e
  exact ⟨g.trans (.new g.2 h), .cons (.tup (g.2.ne h) upd_same) (k.go (.new g.2 h)), .new g.2 h, upd_same, g.2.ne h⟩
theorem nwL {H0 H H' : Hp} {a p : Addr} {xs ys : List V} (e : upd H p (.lst ys) = H') (g : Go a H0 H) (k : KL H a xs) (h : H p = none) : Go a H0 H' ∧ KL H' a (.ref p :: xs) ∧ Go a H H' ∧ H' p = some (.lst ys) ∧ p ≠ a := by
  subst e
  exact ⟨g.trans (.new g.2 h), .cons (.lst (g.2.ne h) upd_same) (k.go (.new g.2 h)), .new g.2 h, upd_same, g.2.ne h⟩
theorem nwD {H0 H H' : Hp} {a p : Addr} {xs : List V} {ys : List (Key × V)} (e : upd H p (.dK ys) = H') (g : Go a H0 H) (k : KL H a xs) (h : H p = none) : Go a H0 H' ∧ KL H' a (.ref p :: xs) ∧ Go a H H' ∧ H' p = some (.dK ys) ∧ p ≠ a := by
  subst e
  exact ⟨g.trans (.new g.2 h), .cons (.dct (g.2.ne h) upd_same) (k.go (.new g.2 h)), .new g.2 h, upd_same, g.2.ne h⟩
/-- the drawn values are no procedures -/
structure NoP (K : PySem.W.Frag) (C : Addr) : Prop where
  kn : PySem.W.kitOne K (.type "NoneType") (.ref C) = some false
  kb : PySem.W.kitOne K (.type "bool") (.ref C) = some false
  ki : PySem.W.kitOne K (.type "int") (.ref C) = some false
  ks : PySem.W.kitOne K (.type "str") (.ref C) = some false
  kt : PySem.W.kitOne K (.type "tuple") (.ref C) = some false
  kl : PySem.W.kitOne K (.type "list") (.ref C) = some false
  kd : PySem.W.kitOne K (.type "dict") (.ref C) = some false
  nn : PySem.W.notFirst K C (.type "NoneType") = true
  nb : PySem.W.notFirst K C (.type "bool") = true
  ni : PySem.W.notFirst K C (.type "int") = true
  ns : PySem.W.notFirst K C (.type "str") = true
  nt : PySem.W.notFirst K C (.type "tuple") = true
  nl : PySem.W.notFirst K C (.type "list") = true
  nd : PySem.W.notFirst K C (.type "dict") = true
theorem Knd.nop {K : PySem.W.Frag} {C : Addr} {H : Hp} {a : Addr} {v : V} (k : Knd H a v) (n : NoP K C) : ∃ t, TyX K H v t ∧ PySem.W.kitOne K t (.ref C) = some false ∧ PySem.W.notFirst K C t = true := by
  cases k with
  | non => exact ⟨_, .base .non, n.kn, n.nn⟩
  | bl b => exact ⟨_, .base (.bl b), n.kb, n.nb⟩
  | int i => exact ⟨_, .base (.int i), n.ki, n.ni⟩
  | str z h h2 => exact ⟨_, .base (.str z), n.ks, n.ns⟩
  | tup _ e => exact ⟨_, .base (.tup e), n.kt, n.nt⟩
  | lst _ e => exact ⟨_, .base (.lst e), n.kl, n.nl⟩
  | dct _ e => exact ⟨_, .base (.dK e), n.kd, n.nd⟩
theorem seq_at {k n : Nat} (h : k < n) : seqIndex? (k : Int) n = some k := by
  unfold seqIndex?
  have h1 : ¬ ((k : Int) < 0) := by omega
  rw [if_neg h1]
  have h2 : (decide ((0 : Int) ≤ (k : Int)) && decide ((k : Int) < (n : Int))) = true := by
    rw [decide_eq_true (by omega : (0 : Int) ≤ (k : Int)), decide_eq_true (by omega : (k : Int) < (n : Int))]
    rfl
  simp only [h2, if_true]
  rfl
theorem erase_perm {α : Type} : ∀ {l : List α} {k : Nat} (h : k < l.length), (l[k] :: l.eraseIdx k).Perm l
  | x :: r, 0, _ => .refl _
  | x :: r, k + 1, h => by
    show (r[k]'(by simpa using h) :: x :: r.eraseIdx k).Perm (x :: r)
    exact (List.Perm.swap _ _ _).trans ((erase_perm (l := r) (k := k) (by simpa using h)).cons x)
theorem erase_map {α β : Type} (f : α → β) : ∀ (l : List α) (k : Nat), (l.map f).eraseIdx k = (l.eraseIdx k).map f
  | [], _ => rfl
  | _ :: _, 0 => rfl
  | x :: r, k + 1 => by
    show f x :: (r.map f).eraseIdx k = f x :: (r.eraseIdx k).map f
    rw [erase_map f r k]
theorem cut_ne {α : Type} {xs : List α} {k : Nat} (hk : 0 < k) (hne : xs ≠ []) : HT.sIx xs.length 0 (some (k : Int)) ≠ 0 := by
  rw [HT.sIx_nat]
  have : 0 < xs.length := List.length_pos_iff.mpr hne
  omega
/-! ### tables of parameters -/
abbrev Tbl := List (Str × List (Str × Bool))
inductive TabV (K : PySem.W.Frag) (H : Hp) : List (Key × V) → Tbl → Prop
  | nil : TabV K H [] []
  | cons {x : Str} {v : V} {own : List (Str × Bool)} {kvs : List (Key × V)} {tb : Tbl} (h : Dp K H v (parsD own)) (po : ParOk own) (wd : wordB x = true) (r : TabV K H kvs tb) : TabV K H ((Sum.inr x, v) :: kvs) ((x, own) :: tb)
def TabAt (K : PySem.W.Frag) (H : Hp) (a : Addr) (tb : Tbl) : Prop := ∃ kvs, H a = some (.dK kvs) ∧ TabV K H kvs tb ∧ tb.length ≤ 8
theorem TabV.tk {K : PySem.W.Frag} {H H' : Hp} (e : TK H H') {kvs : List (Key × V)} {tb : Tbl} (t : TabV K H kvs tb) : TabV K H' kvs tb := by
  induction t with
  | nil => exact .nil
  | cons h po wd r ih => exact .cons (Dp.tk e (pars_noL _) h) po wd ih
theorem TabV.keys {K : PySem.W.Frag} {H : Hp} {kvs : List (Key × V)} {tb : Tbl} (t : TabV K H kvs tb) : kvs.map (·.1) = (tb.map (·.1)).map Sum.inr := by
  induction t with
  | nil => rfl
  | cons h po wd r ih => rw [List.map_cons, ih]; rfl
theorem TabV.get {K : PySem.W.Frag} {H : Hp} {kvs : List (Key × V)} {tb : Tbl} (t : TabV K H kvs tb) {x : Str} (h : x ∈ tb.map (·.1)) : ∃ v own, valV kvs (Sum.inr x) = some v ∧ Dp K H v (parsD own) ∧ ParOk own ∧ (x, own) ∈ tb ∧ wordB x = true ∧ tb.lookup x = some own := by
  induction t with
  | nil => cases h
  | @cons y v own kvs tb hd po wd r ih =>
    by_cases e : y = x
    · subst e
      exact ⟨v, own, valV_pos rfl, hd, po, List.mem_cons_self, wd, by simp [List.lookup]⟩
    · have h2 : x ∈ tb.map (·.1) := by
        rcases List.mem_cons.mp h with z | z
        · exact absurd z.symm e
        · exact z
      obtain ⟨v2, own2, h3, h4, h5, h6, h7, h8⟩ := ih h2
      refine ⟨v2, own2, ?_, h4, h5, List.mem_cons_of_mem _ h6, h7, ?_⟩
      · rw [valV_neg (fun z => e (Sum.inr.inj z))]
        exact h3
      · have : (x == y) = false := by simpa using fun z : x = y => e z.symm
        simp only [List.lookup, this]
        exact h8
theorem TabAt.go {K : PySem.W.Frag} {H H' : Hp} {D a : Addr} {tb : Tbl} (d : Die H D) (g : Go D H H') (t : TabAt K H a tb) : TabAt K H' a tb := by
  obtain ⟨kvs, h1, h2, h3⟩ := t
  refine ⟨kvs, g.1 _ _ (fun z => ?_) h1, h2.tk (g.tk d), h3⟩
  subst z
  obtain ⟨x, y, w, q⟩ := d
  rw [q] at h1
  cases h1
theorem TabAt.same {K : PySem.W.Frag} {H H' : Hp} {a : Addr} {tb : Tbl} (s : Same H H') (t : TabAt K H a tb) : TabAt K H' a tb := by
  obtain ⟨kvs, h1, h2, h3⟩ := t
  exact ⟨kvs, s _ _ h1, h2.tk (.of s), h3⟩
/-! ### the promises -/
def spNumbers (K : PySem.W.Frag) : Sp := fun vs H Q _ => ∃ (a : Addr) (ns : List Int) (i : Nat), vs = [.ref a, .int (i : Int)] ∧ SqL K H a (ns.map V.int) ∧ i ≤ 1000 ∧ ∀ H' p, Same H H' → H p = none → Die H' p → Q (.ref p) H'
def spCast : Sp := fun vs H Q _ => ∃ (a : Addr) (n : Int), vs = [.ref a, .int n] ∧ Die H a ∧ 0 < n ∧ n < 1000000 ∧ ∀ r H', 0 ≤ r → r < n → Go a H H' → (∀ b, b ≠ a → H' b = H b) → Q (.int r) H'
def spPick (K : PySem.W.Frag) : Sp := fun vs H Q _ => ∃ (a b : Addr) (xs : List V), Die H a ∧ vs = [.ref a, .ref b] ∧ SqL K H b xs ∧ b ≠ a ∧ xs ≠ [] ∧ xs.length < 1000 ∧ ∀ v H', v ∈ xs → Go a H H' → (∀ b, b ≠ a → H' b = H b) → Q v H'
def spOdd : Sp := fun vs H Q _ => ∃ (a : Addr), vs = [.ref a] ∧ Die H a ∧ ∀ v H', Go a H H' → Knd H' a v → Q v H'
def spShuffle (K : PySem.W.Frag) : Sp := fun vs H Q _ => ∃ (a b : Addr) (ys : List Str), vs = [.ref a, .ref b] ∧ Die H a ∧ SqL K H b (ys.map V.str) ∧ b ≠ a ∧ ys.length ≤ 100 ∧ ∀ (zs : List Str) H' p, zs.Perm ys → Go a H H' → H p = none → p ≠ a → H' p = some (.lst (zs.map V.str)) → Q (.ref p) H'
def namesOf (own : List (Str × Bool)) (k : Bool) : List Str := (own.filter fun p => p.2 == k).map (·.1)
def spOwn (K : PySem.W.Frag) : Sp := fun vs H Q _ => ∃ (v : V) (own : List (Str × Bool)) (k : Bool), vs = [v, .str (kd k)] ∧ Dp K H v (parsD own) ∧ own.length ≤ 100 ∧ ∀ H' p, Same H H' → H p = none → H' p = some (.lst ((namesOf own k).map V.str)) → Q (.ref p) H'
def cb : Nat → Nat
  | 0 => 0
  | n + 1 => 1 + 3 * cb n
/-- how a head fits the modes and the table -/
def fitH (m : Int) (tb : Tbl) : Hd → List Bool → Bool
  | .deed _ t, _ => decide ((t.length : Int) = m) && t.all (fun e => match e with | none => true | some n => decide ((n : Int) < m))
  | .call x, ks => decide ((tb.lookup x).map (fun o => o.map (·.2)) = some ks)
  | .wth x, ks => decide ((tb.lookup x).map (fun o => o.map (·.2)) = some (ks ++ [false]))
  | _, _ => true
/-- right by its form, and fits -/
inductive GF (m : Int) (tb : Tbl) (own : List (Str × Bool)) : Tm → Prop
  | mk {h : Hd} {ks : List Tm} (ok : h.ok own ks.length = true) (kk : h.kidsOk (ks.map Tm.isW) = true) (kids : ∀ t ∈ ks, GF m tb own t) (fit : fitH m tb h (ks.map Tm.isW) = true) : GF m tb own (.mk h ks)
theorem GF.good {m : Int} {tb : Tbl} {own : List (Str × Bool)} {t : Tm} (g : GF m tb own t) : Good own t := by
  induction g with
  | mk ok kk _ _ ih => exact .mk ok kk ih
mutual
theorem fits_all {m : Int} {tb : Tbl} {own : List (Str × Bool)} : ∀ (t : Tm), GF m tb own t → ∀ u ∈ t.all, fitH m tb u.hd (u.kids.map Tm.isW) = true
  | .mk h ks, g, u, hu => by
    cases g with
    | mk ok kk kids fit =>
      rcases List.mem_cons.mp (show u ∈ Tm.mk h ks :: alls ks from hu) with rfl | hu
      · exact fit
      · exact fits_alls ks kids u hu
theorem fits_alls {m : Int} {tb : Tbl} {own : List (Str × Bool)} : ∀ (ks : List Tm), (∀ t ∈ ks, GF m tb own t) → ∀ u ∈ alls ks, fitH m tb u.hd (u.kids.map Tm.isW) = true
  | t :: r, g, u, hu => by
    rcases List.mem_append.mp (show u ∈ t.all ++ alls r from hu) with hu | hu
    · exact fits_all t (g t List.mem_cons_self) u hu
    · exact fits_alls r (fun x hx => g x (List.mem_cons_of_mem _ hx)) u hu
end
/-- v is a drawn part -/
structure Got (K : PySem.W.Frag) (H : Hp) (m : Int) (tb : Tbl) (own : List (Str × Bool)) (n : Nat) (b : Bool) (v : V) (t : Tm) : Prop where
  dp : Dp K H v t.data
  good : GF m tb own t
  kind : t.isW = b
  deep : t.deep ≤ n
  few : t.count ≤ cb n
theorem Got.tk {K : PySem.W.Frag} {H H' : Hp} {m : Int} {tb : Tbl} {own : List (Str × Bool)} {n : Nat} {b : Bool} {v : V} {t : Tm} (g : Got K H m tb own n b v t) (e : TK H H') : Got K H' m tb own n b v t := ⟨Dp.tk e t.noL g.dp, g.good, g.kind, g.deep, g.few⟩
theorem got_ne {K : PySem.W.Frag} {H : Hp} {m : Int} {tb : Tbl} {own : List (Str × Bool)} {n : Nat} {b : Bool} {v : V} {t : Tm} (g : Got K H m tb own n b v t) : v ≠ .non := fun z => by
  obtain ⟨h, ks⟩ := t
  obtain ⟨a, rs, kv, e, _⟩ := tm_open g.dp
  rw [z] at e
  cases e
/-- what a drawer of parts is called with -/
structure Ask (K : PySem.W.Frag) (H : Hp) (D ta : Addr) (m : Int) (tb : Tbl) (ov : V) (own : List (Str × Bool)) : Prop where
  die : Die H D
  tab : TabAt K H ta tb
  ne : tb ≠ []
  par : Dp K H ov (parsD own)
  po : ParOk own
  m1 : 1 ≤ m
  m3 : m ≤ 3
theorem Ask.go {K : PySem.W.Frag} {H H' : Hp} {D ta : Addr} {m : Int} {tb : Tbl} {ov : V} {own : List (Str × Bool)} (a : Ask K H D ta m tb ov own) (g : Go D H H') : Ask K H' D ta m tb ov own :=
  ⟨g.2, a.tab.go a.die g, a.ne, Dp.tk (g.tk a.die) (pars_noL own) a.par, a.po, a.m1, a.m3⟩
theorem Ask.same {K : PySem.W.Frag} {H H' : Hp} {D ta : Addr} {m : Int} {tb : Tbl} {ov : V} {own : List (Str × Bool)} (a : Ask K H D ta m tb ov own) (s : Same H H') : Ask K H' D ta m tb ov own := a.go (.of a.die s)
def entB (e : Option Nat) : Bool := match e with | none => true | some n => decide (n < 3)
def entryV : Option Nat → V
  | none => .non
  | some n => .int n
def entK (k : Nat) (e : Option Nat) : Bool := match e with | none => true | some n => decide (n < k)
theorem entK_B {k : Nat} {e : Option Nat} (h3 : k ≤ 3) (h : entK k e = true) : entB e = true := by
  cases e with
  | none => rfl
  | some n => exact decide_eq_true (Nat.lt_of_lt_of_le (of_decide_eq_true h) h3)
theorem deed_fit {k : Nat} {z : Str} {es : List (Option Nat)} {tb : Tbl} (l : es.length = k) (h : ∀ e ∈ es, entK k e = true) : fitH (k : Int) tb (.deed z es) [] = true := by
  show (decide ((es.length : Int) = (k : Int)) && es.all (fun e => match e with | none => true | some n => decide ((n : Int) < (k : Int)))) = true
  rw [decide_eq_true (by omega), List.all_eq_true.mpr fun e he => ?_]
  · rfl
  · have := h e he
    cases e with
    | none => rfl
    | some n =>
      have l := of_decide_eq_true this
      exact decide_eq_true (by omega)
def spDeed (K : PySem.W.Frag) : Sp := fun vs H Q _ => ∃ (D : Addr) (m : Int), vs = [.ref D, .int m] ∧ Die H D ∧ 1 ≤ m ∧ m ≤ 3 ∧ ∀ v H' t, Go D H H' → (∀ tb own, Got K H' m tb own 1 false v t) → Q v H'
/-- the parts that are given for some kinds -/
def Gives (K : PySem.W.Frag) (H : Hp) (m : Int) (tb : Tbl) (own : List (Str × Bool)) (n : Nat) (ks : List Bool) (us : List Tm) : Prop := (∀ u ∈ us, GF m tb own u ∧ u.deep ≤ n ∧ u.count ≤ cb n) ∧ us.map Tm.isW = ks
def spTermD (K : PySem.W.Frag) (n : Nat) : Sp := fun vs H Q _ => ∃ (D ta : Addr) (m : Int) (tb : Tbl) (ov : V) (own : List (Str × Bool)), vs = [.ref D, .int m, .ref ta, ov, .int (n : Int)] ∧ Ask K H D ta m tb ov own ∧ 1 ≤ n ∧ n ≤ 6 ∧ ∀ v H' t, Go D H H' → Got K H' m tb own n false v t → Q v H'
def spWrap (K : PySem.W.Frag) (n : Nat) : Sp := fun vs H Q _ => ∃ (D ta : Addr) (m : Int) (tb : Tbl) (ov : V) (own : List (Str × Bool)), vs = [.ref D, .int m, .ref ta, ov, .int (n : Int)] ∧ Ask K H D ta m tb ov own ∧ 1 ≤ n ∧ n ≤ 6 ∧
  (∀ H', Go D H H' → Q .non H') ∧ ∀ v H' t, Go D H H' → Got K H' m tb own n true v t → Q v H'
def spGiven (K : PySem.W.Frag) (n : Nat) : Sp := fun vs H Q _ => ∃ (D ta kl : Addr) (m : Int) (tb : Tbl) (ov : V) (own : List (Str × Bool)) (ks : List Bool), vs = [.ref D, .int m, .ref ta, ov, .ref kl, .int (n : Int)] ∧ Ask K H D ta m tb ov own ∧ n ≤ 6 ∧ H kl = some (.lst ((ks.map kd).map V.str)) ∧ kl ≠ D ∧ ks.length ≤ 3 ∧
  (∀ H', Go D H H' → Q .non H') ∧ ∀ p vs' us H', Go D H H' → SqT K H' p vs' → DpAll K H' vs' (datas us) → Gives K H' m tb own n ks us → Q (.ref p) H'
end FS

set_option Elab.async false
set_option linter.all false
set_option maxRecDepth 100000
set_option maxHeartbeats 4000000
namespace FS
open PySem PySem.Spec PyProof.Rows L2
section
variable {P : Program} {w : World} {K : PySem.W.Frag} {mg : Str → Option Value} {base : Heap}
abbrev N_law_numbers : List Str := ["_law_script", "_law_at", "_law_cell", "_law_whole", "_law_mixed"]
theorem sc_law_numbers : FnScope N_law_numbers ["_law_script", "_law_at"] (defScope s_law_numbers) := ⟨rfl, rfl, rfl, by decide +kernel, rfl, by decide +kernel, by decide +kernel⟩
theorem ok_l_numbers {f : Addr} {fd : FuncData} (F : Fun K "_law_numbers" "_law_numbers" s_law_numbers f fd) (T : Nm K mg) : FnOk P w K mg base CX0 1 f fd ["_law_script", "_law_at"] (spNumbers K) := by
  have nd := sc_law_numbers.nd
  refine F.ok sc_law_numbers (fun vs H Q E h => ?_) (fun cdv A outer s H vs Q E hr h => ?_)
  · obtain ⟨a, ns, i, rfl, sq, hi, q⟩ := h
    rfl
  · obtain ⟨a, ns, i, rfl, sq, hi, q⟩ := h
    skip
    refine ⟨_, (pss_cons (ps_set (i := 2) nd rfl (Or.inl rfl) (pe_ifExp (pt_cmpR op_lt (pv 1) (pe_callB call_len (by rfl) T.b_len PySem.boot_len (pa_cons (pv 0) pa_nil)) (nomark _)) (pe_ix ix_list (pv 0) (pv 1) (fun _ _ => rfl)) (pe_op op_add (pe_op op_mul pe_int (pv 1)) pe_int)))
  (pss_cons (ps_set (i := 3) nd rfl (Or.inl rfl) (pe_op op_mod (pe_callTy call_int1 (by rfl) T.b_int (by decide +kernel) (pa_cons (pe_callB call_abs (by rfl) T.b_abs (by decide +kernel) (pa_cons (pv 2) pa_nil)) pa_nil)) (pe_op op_powW (pe_op op_pow pe_int pe_int) pe_int)))
  (pss_cons (ps_set (i := 4) nd rfl (Or.inl rfl) (pe_op op_add (pe_op op_add (pe_op op_add (pe_op op_mul (pv 3) pe_int) (pe_op op_mul pe_int (pv 1))) (pe_op op_mul pe_int (pe_callTy call_int1 (by rfl) T.b_int (by decide +kernel) (pa_cons (pe_cmpR op_lt (pv 2) pe_int (nomark _)) pa_nil)))) pe_int))
  (pss_one (ps_ret (pe_lst (pa_cons (pe_callB (call_max2 rfl) (by rfl) T.b_max (by decide +kernel) (pa_cons pe_int (pa_cons (pe_op op_sub (pv 3) (pe_op op_pow pe_int pe_int)) pa_nil))) (pa_cons (pe_op op_mod (pe_callTy call_int1 (by rfl) T.b_int (by decide +kernel) (pa_cons (pv 4) pa_nil)) pe_int) (pa_cons pe_int pa_nil))))))))), ?_⟩

    -- the cell
    refine ⟨_, rfl, _, rfl, _, _, rfl, .inl ⟨_, sq, rfl⟩, _, _, rfl, rfl, _, rfl, ite2 (fun e => ?A) (fun _ => ?B)⟩
    case' A =>
      have hl : i < ns.length := by
        have e1 := of_decide_eq_true e
        rw [List.length_map] at e1
        omega
      have g : (ns.map V.int)[i]? = some (.int ns[i]) := by
        rw [List.getElem?_map, List.getElem?_eq_getElem hl]
        rfl
      refine ⟨_, rfl, _, rfl, a, _, (i : Int), _, rfl, rfl, sq, atI_nat g, ?_⟩
      generalize ns[i] = c
    case' B =>
      refine ⟨_, rfl, _, _, rfl, rfl, .inl ⟨by decide, by decide⟩, _, _, rfl, rfl, ?_⟩
      generalize (73 : Int) * (i : Int) + 41 = c
    all_goals
      refine ⟨_, rfl, _, rfl, .inl ⟨_, rfl, ?_⟩⟩
      generalize (if c < 0 then -c else c) = c1
      refine ⟨_, _, rfl, rfl, ⟨by decide, by decide, by decide⟩, _, _, rfl, rfl, ⟨by decide, by decide +kernel⟩, ?_⟩
      refine ⟨_, _, rfl, rfl, Int.pow_pos (Int.pow_pos (by decide)), ?_⟩
      generalize c1 % _ = c2
      refine ⟨_, rfl, _, _, rfl, rfl, .inr ⟨by decide, by decide⟩, ?_⟩
      refine ⟨_, rfl, _, _, rfl, rfl, .inl ⟨by decide, by decide⟩, ?_⟩
      refine ⟨_, _, rfl, rfl, ?_⟩
      refine ⟨_, rfl, _, _, rfl, rfl, .inr ⟨_, rfl, ?_⟩⟩
      refine ⟨_, _, rfl, rfl, .inl ⟨by decide, by decide⟩, _, _, rfl, rfl, _, _, rfl, rfl, ?_⟩
      refine ⟨_, rfl, _, _, rfl, rfl, ⟨by decide, by decide, by decide⟩, ?_⟩
      refine ⟨_, _, rfl, rfl, _, _, rfl, ?_⟩
      refine ⟨_, rfl, .inl ⟨_, rfl, ?_⟩⟩
      refine ⟨_, _, rfl, rfl, (by show (0:Int) < 1152921504606846931; decide), ?_⟩
      refine ⟨(by show 3 ≤ sizeLine; decide), fun p hp => q _ p (same_upd hp) hp ⟨_, _, _, upd_same⟩⟩
end
end FS

set_option Elab.async false
set_option linter.all false
set_option maxRecDepth 100000
set_option maxHeartbeats 4000000
namespace FS
open PySem PySem.Spec PyProof.Rows L2
section
variable {P : Program} {w : World} {K : PySem.W.Frag} {mg : Str → Option Value} {base : Heap}
abbrev N_law_cast : List Str := ["_law_die", "_law_total", "_law_found", "_law_one", "_law_two"]
theorem sc_law_cast : FnScope N_law_cast ["_law_die", "_law_total"] (defScope s_law_cast) := ⟨rfl, rfl, rfl, by decide +kernel, rfl, by decide +kernel, by decide +kernel⟩
theorem ok_l_cast {f : Addr} {fd : FuncData} (F : Fun K "_law_cast" "_law_cast" s_law_cast f fd) (T : Nm K mg) : FnOk P w K mg base CX0 1 f fd ["_law_die", "_law_total"] (spCast) := by
  have nd := sc_law_cast.nd
  refine F.ok sc_law_cast (fun vs H Q E h => ?_) (fun cdv A outer s H vs Q E hr h => ?_)
  · obtain ⟨a, n, rfl, ⟨x, y, z, hd⟩, n0, n1, q⟩ := h
    rfl
  · obtain ⟨a, n, rfl, ⟨x, y, z, hd⟩, n0, n1, q⟩ := h
    skip
    refine ⟨_, (pss_cons (ps_if (pt_cmpR op_gt (pe_ix ix_list (pv 0) pe_int (fun _ _ => rfl)) pe_int (nomark _))
  (pss_cons (ps_set (i := 2) nd rfl (Or.inl rfl) (pe_op op_mod (pe_callTy call_int1 (by rfl) T.b_int (by decide +kernel) (pa_cons (pe_ix ix_list (pv 0) pe_int (fun _ _ => rfl)) pa_nil)) (pv 1)))
  (pss_cons (ps_asg (pe_op op_fdiv (pe_ix ix_list (pv 0) pe_int (fun _ _ => rfl)) (pv 1)) (pg_sub (pv 0) pe_int L2.set_list))
  (pss_one (ps_ret (pv 2)))))
  pss_nil)
  (pss_cons (ps_asg (pe_op op_add (pe_ix ix_list (pv 0) pe_int (fun _ _ => rfl)) pe_int) (pg_sub (pv 0) pe_int L2.set_list))
  (pss_cons (ps_set (i := 3) nd rfl (Or.inl rfl) (pe_op op_mod (pe_callTy call_int1 (by rfl) T.b_int (by decide +kernel) (pa_cons (pe_op op_add (pe_ix ix_list (pv 0) pe_int (fun _ _ => rfl)) (pe_op op_mul pe_int (pe_ix ix_list (pv 0) pe_int (fun _ _ => rfl)))) pa_nil)) pe_int))
  (pss_cons (ps_set (i := 4) nd rfl (Or.inl rfl) (pe_op op_add (pe_op op_mul (pe_op op_mod (pe_callTy call_int1 (by rfl) T.b_int (by decide +kernel) (pa_cons (pe_op op_mul (pv 3) (pv 3)) pa_nil)) pe_int) (pv 3)) (pe_op op_mul pe_int (pe_ix ix_list (pv 0) pe_int (fun _ _ => rfl)))))
  (pss_one (ps_ret (pe_op op_mod (pe_callTy call_int1 (by rfl) T.b_int (by decide +kernel) (pa_cons (pe_op op_fdiv (pe_op op_mod (pe_callTy call_int1 (by rfl) T.b_int (by decide +kernel) (pa_cons (pe_op op_add (pv 4) (pe_ix ix_list (pv 0) pe_int (fun _ _ => rfl))) pa_nil)) pe_int) pe_int) pa_nil)) (pv 1)))))))), ?_⟩

    have sq : SqL K H a [.int x, .int y, .int z] := .inl (.inl hd)
    have a0 : ∀ {p q r : V}, atI [p, q, r] 0 = some p := atI_nat (j := 0) rfl
    have a1 : ∀ {p q r : V}, atI [p, q, r] 1 = some q := atI_nat (j := 1) rfl
    have a2 : ∀ {p q r : V}, atI [p, q, r] 2 = some r := atI_nat (j := 2) rfl
    -- die[0] > 0
    refine ⟨_, rfl, a, _, 0, _, rfl, rfl, sq, a0, _, _, rfl, rfl, _, rfl, ite2 (fun _ => ?_) (fun _ => ?_)⟩
    · refine ⟨_, rfl, a, _, 0, _, rfl, rfl, sq, a0, .inl ⟨_, rfl, ?_⟩⟩
      refine ⟨_, rfl, _, _, rfl, rfl, n0, ?_⟩
      refine ⟨_, rfl, a, _, 0, _, rfl, rfl, sq, a0, _, rfl, _, _, rfl, rfl, ⟨n0, by omega⟩, ?_⟩
      refine ⟨_, rfl, a, _, 0, 0, rfl, rfl, hd, rfl, ?_⟩
      refine ⟨_, rfl, ?_⟩
      exact q _ _ (Int.emod_nonneg _ (by omega)) (Int.emod_lt_of_pos _ n0) Go.setDie (fun b hb => upd_ne hb)
    · refine ⟨_, rfl, a, _, 2, _, rfl, rfl, sq, a2, _, _, rfl, rfl, _, rfl, a, _, 2, 2, rfl, rfl, hd, rfl, ?_⟩
      have sq2 : SqL K (upd H a (.lst [.int x, .int y, .int (z + 1)])) a [.int x, .int y, .int (z + 1)] := .inl (.inl upd_same)
      refine ⟨_, rfl, a, _, 1, _, rfl, rfl, sq2, a1, _, rfl, a, _, 2, _, rfl, rfl, sq2, a2, _, _, rfl, rfl, .inl (by decide), _, _, rfl, rfl, .inl ⟨_, rfl, ?_⟩⟩
      refine ⟨_, _, rfl, rfl, by show (0:Int) < 2305843009213693879; decide, ?_⟩
      have b1 : (0:Int) ≤ (y + 681463489 * (z + 1)) % 2305843009213693879 := Int.emod_nonneg _ (by decide)
      have b2 : (y + 681463489 * (z + 1)) % 2305843009213693879 < 2305843009213693879 := Int.emod_lt_of_pos _ (by decide)
      generalize (y + 681463489 * (z + 1)) % 2305843009213693879 = o at b1 b2 ⊢
      refine ⟨_, rfl, _, rfl, _, _, rfl, rfl, .inl ⟨by omega, by omega⟩, .inl ⟨_, rfl, ?_⟩⟩
      refine ⟨_, _, rfl, rfl, by show (0:Int) < 1152921504606846739; decide, ?_⟩
      refine ⟨_, rfl, _, _, rfl, rfl, .inr ⟨by omega, by omega⟩, ?_⟩
      refine ⟨_, rfl, a, _, 2, _, rfl, rfl, sq2, a2, _, _, rfl, rfl, .inl (by decide), ?_⟩
      refine ⟨_, _, rfl, rfl, ?_⟩
      refine ⟨_, rfl, _, rfl, a, _, 1, _, rfl, rfl, sq2, a1, _, _, rfl, rfl, .inl ⟨_, rfl, ?_⟩⟩
      refine ⟨_, _, rfl, rfl, by show (0:Int) < 8796093022141; decide, ?_⟩
      refine ⟨_, _, rfl, rfl, by constructor <;> decide, .inl ⟨_, rfl, ?_⟩⟩
      refine ⟨_, rfl, _, _, rfl, rfl, n0, ?_⟩
      exact q _ _ (Int.emod_nonneg _ (by omega)) (Int.emod_lt_of_pos _ n0) Go.setDie (fun b hb => upd_ne hb)
end
end FS

set_option Elab.async false
set_option linter.all false
set_option maxRecDepth 100000
set_option maxHeartbeats 4000000
namespace FS
open PySem PySem.Spec PyProof.Rows L2
section
variable {P : Program} {w : World} {K : PySem.W.Frag} {mg : Str → Option Value} {base : Heap}
abbrev N_law_pick : List Str := ["_law_die", "_law_items"]
theorem sc_law_pick : FnScope N_law_pick ["_law_die", "_law_items"] (defScope s_law_pick) := ⟨rfl, rfl, rfl, by decide +kernel, rfl, by decide +kernel, by decide +kernel⟩
theorem ok_l_pick {f : Addr} {fd : FuncData} (F : Fun K "_law_pick" "_law_pick" s_law_pick f fd) (T : Nm K mg) (Cl_cast : Cal P w K mg base 1 "_law_cast" ["_law_die", "_law_total"] spCast) : FnOk P w K mg base CX0 2 f fd ["_law_die", "_law_items"] (spPick K) := by
  have nd := sc_law_pick.nd
  refine F.ok sc_law_pick (fun vs H Q E h => ?_) (fun cdv A outer s H vs Q E hr h => ?_)
  · obtain ⟨a, b, xs, d, rfl, sq, nb, hne, hlen, q⟩ := h
    rfl
  · obtain ⟨a, b, xs, d, rfl, sq, nb, hne, hlen, q⟩ := h
    skip
    refine ⟨_, (pss_one (ps_ret (pe_ix ix_list (pv 1) (pe_own Cl_cast (hr.mono (by decide)) (by rfl) (pa_cons (pv 0) (pa_cons (pe_callB call_len (by rfl) T.b_len PySem.boot_len (pa_cons (pv 1) pa_nil)) pa_nil))) (fun _ _ => rfl)))), ?_⟩

    have hl : 0 < xs.length := List.length_pos_iff.mpr hne
    refine ⟨_, rfl, _, rfl, _, rfl, _, _, rfl, .inl ⟨_, sq, rfl⟩, a, _, rfl, d, by omega, by omega, fun r H' r0 r1 g fr => ?_⟩
    obtain ⟨j, rfl⟩ : ∃ j : Nat, r = (j : Int) := ⟨r.toNat, by omega⟩
    have hj : j < xs.length := by omega
    refine ⟨b, xs, _, xs[j], rfl, rfl, g.seq nb sq, atI_nat (List.getElem?_eq_getElem hj), ?_⟩
    exact q _ _ (List.getElem_mem hj) g fr
end
end FS

set_option Elab.async false
set_option linter.all false
set_option maxRecDepth 100000
set_option maxHeartbeats 4000000
namespace FS
open PySem PySem.Spec PyProof.Rows L2
section
variable {P : Program} {w : World} {K : PySem.W.Frag} {mg : Str → Option Value} {base : Heap}
abbrev N_law_shuffle : List Str := ["_law_die", "_law_items", "_law_pool", "_law_turn"]
theorem sc_law_shuffle : FnScope N_law_shuffle ["_law_die", "_law_items"] (defScope s_law_shuffle) := ⟨rfl, rfl, rfl, by decide +kernel, rfl, by decide +kernel, by decide +kernel⟩
theorem ok_l_shuffle {f : Addr} {fd : FuncData} (F : Fun K "_law_shuffle" "_law_shuffle" s_law_shuffle f fd) (T : Nm K mg) (Cl_cast : Cal P w K mg base 1 "_law_cast" ["_law_die", "_law_total"] spCast) : FnOk P w K mg base CX0 2 f fd ["_law_die", "_law_items"] (spShuffle K) := by
  have nd := sc_law_shuffle.nd
  refine F.ok sc_law_shuffle (fun vs H Q E h => ?_) (fun cdv A outer s H vs Q E hr h => ?_)
  · obtain ⟨a, b, ys, rfl, d, sq, nb, few, q⟩ := h
    rfl
  · obtain ⟨a, b, ys, rfl, d, sq, nb, few, q⟩ := h
    skip
    refine ⟨_, (pss_cons (ps_set (i := 2) nd rfl (Or.inr rfl) (pe_callTy call_list_of (by rfl) T.b_list (by decide +kernel) (pa_cons (pv 1) pa_nil)))
  (pss_one (ps_ret (pe_lc (own := [("_law_turn", 3)]) (g := gName 3) (tt := tYes) rfl nd (pi_range1 rfl T.b_range (pa_cons (pe_callB call_len (by rfl) T.b_len PySem.boot_len (pa_cons (pv 1) pa_nil)) pa_nil)) (blkOk_by (own := [("_law_turn", 3)]) (N := N_law_shuffle) (sc := defScope s_law_shuffle) (by decide +kernel)) (fun _ _ _ _ _ => (pg_name (i := 3) nd rfl (Or.inl rfl))) (fun _ _ _ _ _ => pts_nil) (fun _ _ _ _ _ => (pe_bmK (K := K) rfl PySem.F.plainAttrs_list PySem.F.slot_list_pop PySem.F.type_list_pop mt_popAt (pv 2) (pa_cons (pe_own Cl_cast (hr.mono (by decide)) (by rfl) (pa_cons (pv 0) (pa_cons (pe_callB (call_lenK (K := K) rfl) (by rfl) T.b_len PySem.boot_len (pa_cons (pv 2) pa_nil)) pa_nil))) pa_nil))))))), ?_⟩

    refine ⟨_, rfl, b, _, rfl, .inl sq, fun p np => ?_⟩
    have npD := d.ne np
    have g1 : Go a H (upd H p (.lst (ys.map V.str))) := .new d np
    have e1 : upd H p (.lst (ys.map V.str)) p = some (.lst (ys.map V.str)) := upd_same
    generalize upd H p (.lst (ys.map V.str)) = H1 at g1 e1 ⊢
    refine ⟨_, rfl, _, _, rfl, .inl ⟨_, g1.seq nb sq, rfl⟩, _, rfl, by rw [List.length_map]; omega, by rw [List.length_map]; omega, fun L nL => ?_⟩
    have nLD := g1.2.ne nL
    have nLp : p ≠ L := ne_of_none e1 nL
    have nL0 : H L = none := by
      cases e : H L with
      | none => rfl
      | some o =>
        rw [g1.1 _ _ nLD e] at nL
        cases nL
    refine lc_range (lo := 0) (n := (ys.map V.str).length) (fun i H' => Go a H H' ∧ ∃ zs us : List Str, zs.length = i ∧ (zs ++ us).Perm ys ∧ H' p = some (.lst (us.map V.str)) ∧ H' L = some (.lst (zs.map V.str))) ⟨(g1.upd nL0 nLD), [], ys, rfl, .refl _, by rw [upd_ne nLp]; exact e1, upd_same⟩ (fun i H2 hi hp => ?_) (fun H2 hp => ?_)
    · obtain ⟨g2, zs, us, lz, pm, ep, eL⟩ := hp
      rw [List.length_map] at hi
      have lu := pm.length_eq
      rw [List.length_append] at lu
      refine ⟨rfl, _, rfl, .inl ⟨rfl, _, .inl (.inl ep)⟩, ?_⟩
      refine ⟨_, rfl, _, rfl, _, _, rfl, .inl ⟨_, .inl (.inl ep), rfl⟩, a, _, rfl, g2.2, by rw [List.length_map]; omega, by rw [List.length_map]; omega, fun r H3 r0 r1 g3 f3 => ?_⟩
      rw [List.length_map] at r1
      obtain ⟨k, rfl⟩ : ∃ k : Nat, r = (k : Int) := ⟨r.toNat, by omega⟩
      have hk : k < us.length := by omega
      have ep3 := g3.1 _ _ npD ep
      have eL3 := g3.1 _ _ nLD eL
      refine ⟨p, us.map V.str, _, k, .str us[k], rfl, rfl, ep3, by omega, by omega, ?_, by rw [List.getElem?_map, List.getElem?_eq_getElem hk]; rfl, ?_⟩
      · rw [List.length_map]
        exact seq_at hk
      · have e4 : upd H3 p (.lst ((us.map V.str).eraseIdx k)) L = some (.lst (zs.map V.str)) := by
          rw [upd_ne (fun z => nLp z.symm)]
          exact eL3
        refine ⟨_, e4, ?_, ?_, zs ++ [us[k]], us.eraseIdx k, ?_, ?_, ?_, ?_⟩
        · rw [List.length_map]
          exact small1000 (by omega)
        · exact ((g2.trans g3).upd np npD).upd nL0 nLD
        · rw [List.length_append, lz]
          rfl
        · refine List.Perm.trans ?_ pm
          rw [List.append_assoc]
          exact List.Perm.append_left zs (erase_perm hk)
        · rw [upd_ne nLp, upd_same, erase_map]
        · rw [upd_same, List.map_append]
          rfl
    · obtain ⟨g2, zs, us, lz, pm, ep, eL⟩ := hp
      rw [List.length_map] at lz
      have lu := pm.length_eq
      rw [List.length_append] at lu
      have u0 : us = [] := List.eq_nil_of_length_eq_zero (by omega)
      subst u0
      rw [List.append_nil] at pm
      exact q zs H2 L pm g2 nL0 nLD eL
end
end FS

set_option Elab.async false
set_option linter.all false
set_option maxRecDepth 100000
set_option maxHeartbeats 4000000
namespace FS
open PySem PySem.Spec PyProof.Rows L2
section
variable {P : Program} {w : World} {K : PySem.W.Frag} {mg : Str → Option Value} {base : Heap}
abbrev N_law_own_names : List Str := ["_law_own", "_law_kind", "_law_name", "_law_other"]
theorem sc_law_own_names : FnScope N_law_own_names ["_law_own", "_law_kind"] (defScope s_law_own_names) := ⟨rfl, rfl, rfl, by decide +kernel, rfl, by decide +kernel, by decide +kernel⟩
theorem ok_l_own_names {f : Addr} {fd : FuncData} (F : Fun K "_law_own_names" "_law_own_names" s_law_own_names f fd) (T : Nm K mg) : FnOk P w K mg base CX0 1 f fd ["_law_own", "_law_kind"] (spOwn K) := by
  have nd := sc_law_own_names.nd
  refine F.ok sc_law_own_names (fun vs H Q E h => ?_) (fun cdv A outer s H vs Q E hr h => ?_)
  · obtain ⟨v, own, k, rfl, dp, few, q⟩ := h
    rfl
  · obtain ⟨v, own, k, rfl, dp, few, q⟩ := h
    skip
    refine ⟨_, (pss_one (ps_ret (pe_lc (own := [("_law_name", 2), ("_law_other", 3)]) (g := gTup K 2 (gCons (gName 2) (gCons (gName 3) gNil))) rfl nd (pi_tup (pv 0)) (blkOk_by (own := [("_law_name", 2), ("_law_other", 3)]) (N := N_law_own_names) (sc := defScope s_law_own_names) (by decide +kernel)) (fun _ _ _ _ _ => (pg_tup rfl (pgs_cons (pg_name (i := 2) nd rfl (Or.inl rfl)) (pgs_cons (pg_name (i := 3) nd rfl (Or.inl rfl)) pgs_nil)))) (fun _ _ _ _ _ => pts_one (pt_cmpR op_eq (pv 3) (pv 1) (nomark _))) (fun _ _ _ _ _ => (pv 2))))), ?_⟩

    obtain ⟨aw, ps, rfl, sqp, rp⟩ := Dp.tup_inv (show Dp K H v (.tuple (own.map parD)) from dp)
    have lp : ps.length = own.length := by rw [DpAll.len rp, List.length_map]
    refine ⟨_, rfl, aw, rfl, ⟨ps, sqp⟩, fun D nD => ?_⟩
    refine lc_tup (xs := ps) (fun i H' => Same H H' ∧ H' D = some (.lst ((namesOf (own.take i) k).map V.str))) ⟨same_upd nD, upd_same⟩ (fun i H' hi h => Same.sqT h.1 sqp) (fun i x H8 hx h => ?_) (fun H8 h => ?_)
    · obtain ⟨sm, eD⟩ := h
      obtain ⟨d, hd, dx'⟩ := DpAll.get (DpAll.stay (.of sm) (pars_noL own) rp) hx
      rw [List.getElem?_map] at hd
      obtain ⟨z, hz, rfl⟩ := Option.map_eq_some_iff.mp hd
      have li := (List.getElem?_eq_some_iff.mp hx).1
      obtain ⟨b, ys, rfl, sb, rb⟩ := Dp.tup_inv (show Dp K H8 x (.tuple [.str z.1, .str (kd z.2)]) from dx')
      cases rb with
      | cons y1 rb => cases rb with
        | cons y2 rb =>
        cases rb
        cases Dp.str_inv y1
        cases Dp.str_inv y2
        have em : namesOf (own.take (i + 1)) k = namesOf (own.take i) k ++ (if z.2 == k then [z.1] else []) := by
          unfold namesOf
          rw [take_more hz, List.filter_append, List.map_append, List.filter_cons]
          cases z.2 == k <;> rfl
        refine ⟨b, _, rfl, sb, rfl, _, _, rfl, _, _, rfl, rfl, ?_⟩
        refine ⟨rfl, _, rfl, _, rfl, rfl, _, rfl, ?_⟩
        have ek : decide (V.str (kd z.2) = V.str (kd k)) = (z.2 == k) := by
          cases z.2 <;> cases k <;> decide +kernel
        rw [ek]
        cases e : (z.2 == k) with
        | true =>
          rw [e] at em
          refine iteT ?_
          refine ⟨_, rfl, _, eD, ?_, Same.set sm nD, ?_⟩
          · rw [List.length_map]
            have : (namesOf (own.take i) k).length ≤ 100 := by
              unfold namesOf
              rw [List.length_map]
              refine Nat.le_trans (List.length_filter_le _ _) ?_
              rw [List.length_take]
              omega
            exact small1000 (by omega)
          · rw [upd_same, em, List.map_append]
            rfl
        | false =>
          rw [e] at em
          refine iteF ?_
          refine ⟨sm, ?_⟩
          rw [em]
          rw [show (if false = true then [z.1] else []) = ([] : List Str) from rfl, List.append_nil]
          exact eD
    · obtain ⟨s8, eD⟩ := h
      rw [lp, List.take_length] at eD
      exact q H8 D s8 nD eD
end
end FS

set_option Elab.async false
set_option linter.all false
set_option maxRecDepth 100000
set_option maxHeartbeats 4000000
namespace FS
open PySem PySem.Spec PyProof.Rows L2
section
variable {P : Program} {w : World} {K : PySem.W.Frag} {mg : Str → Option Value} {base : Heap}
abbrev N_law_all_in : List Str := ["_law_piece", "_law_found", "_law_one"]
theorem sc_law_all_in : FnScope N_law_all_in ["_law_piece"] (defScope s_law_all_in) := ⟨rfl, rfl, rfl, by decide +kernel, rfl, by decide +kernel, by decide +kernel⟩
theorem ok_l_all_in {f : Addr} {fd : FuncData} (F : Fun K "_law_all_in" "_law_all_in" s_law_all_in f fd) (T : Nm K mg) {n k : Nat} (Cl_all_in : Cal P w K mg base k "_law_all_in" ["_law_piece"] (spAll K n)) : FnOk P w K mg base CX0 (k + 1) f fd ["_law_piece"] (spAll K (n + 1)) := by
  have nd := sc_law_all_in.nd
  refine F.ok sc_law_all_in (fun vs H Q E h => ?_) (fun cdv A outer s H vs Q E hr h => ?_)
  · obtain ⟨own, v, t, rfl, dp, gd, low, few, q⟩ := h
    rfl
  · obtain ⟨own, v, t, rfl, dp, gd, low, few, q⟩ := h
    skip
    refine ⟨_, (pss_cons (ps_set (i := 1) nd rfl (Or.inl rfl) (pe_lst (pa_cons (pv 0) pa_nil)))
  (pss_cons (ps_if (pt_cmpR op_in_seq (pe_ix ix_tup (pv 0) pe_int (fun _ _ => rfl)) (pe_tup (pa_cons pe_str (pa_cons pe_str (pa_cons pe_str pa_nil)))) (by rfl))
  (pss_one (ps_for PassesOwn.never rfl (pi_tup (pe_slice sl_tupA (pv 0) (po_some pe_int) po_none)) (pg_name (i := 2) nd rfl (Or.inl rfl))
  (pss_one (ps_expr (pe_bm PySem.F.plainAttrs_list PySem.F.slot_list_extend PySem.F.type_list_extend mt_extend (pv 1) (pa_cons (pe_own Cl_all_in (hr.mono (by omega)) (by rfl) (pa_cons (pv 2) pa_nil)) pa_nil))))))
  pss_nil)
  (pss_cons (ps_if (pt_cmpR op_in_seq (pe_ix ix_tup (pv 0) pe_int (fun _ _ => rfl)) (pe_tup (pa_cons pe_str (pa_cons pe_str pa_nil))) (by rfl))
  (pss_one (ps_for PassesOwn.never rfl (pi_tup (pe_slice sl_tupA (pv 0) (po_some pe_int) po_none)) (pg_name (i := 2) nd rfl (Or.inl rfl))
  (pss_one (ps_expr (pe_bm PySem.F.plainAttrs_list PySem.F.slot_list_extend PySem.F.type_list_extend mt_extend (pv 1) (pa_cons (pe_own Cl_all_in (hr.mono (by omega)) (by rfl) (pa_cons (pv 2) pa_nil)) pa_nil))))))
  pss_nil)
  (pss_one (ps_ret (pv 1)))))), ?_⟩

    obtain ⟨h, ks⟩ := t
    obtain ⟨a, rs, kv, rfl, sq, r1, r2⟩ := tm_open dp
    have cnt := count_eq (Tm.mk h ks)
    have cnt2 : (Tm.mk h ks).count = 1 + counts ks := cnt
    refine ⟨_, rfl, by show 1 ≤ sizeLine; decide, fun p np => ?_⟩
    have s1 := same_upd (o := .lst [V.ref a]) np
    have h1 : upd H p (.lst [V.ref a]) p = some (.lst [V.ref a]) := upd_same
    generalize upd H p (.lst [V.ref a]) = H1 at s1 h1 ⊢
    refine ⟨_, rfl, a, _, 0, _, rfl, rfl, Same.sqT s1 sq, at0, by show 3 ≤ sizeLine; decide, fun p1 n1 => ?_⟩
    have s1b := s1.trans (same_upd (o := .tup ([("seq" : Str), "or", "wrap"].map V.str)) n1)
    have h1b := same_upd (o := .tup ([("seq" : Str), "or", "wrap"].map V.str)) n1 _ _ h1
    refine ⟨p1, [("seq" : Str), "or", "wrap"].map V.str, rfl, .inr (.inl (.inl upd_same)), rfl, flat_strs _, _, rfl, ?_⟩
    rw [inV_strs, tag3]
    change Same H (upd H1 p1 (.tup [V.str "seq", V.str "or", V.str "wrap"])) at s1b
    change upd H1 p1 (.tup [V.str "seq", V.str "or", V.str "wrap"]) p = _ at h1b
    generalize upd H1 p1 (.tup [V.str "seq", V.str "or", V.str "wrap"]) = H1b at s1b h1b ⊢
    refine ite2 (fun e3 => ?_) (fun e3 => ?_)
    · cases Hd.rest0 r1 e3
      refine ⟨_, rfl, _, rfl, ?_⟩
      refine ⟨a, _, rfl, Same.sqT s1b sq, fun z => absurd z.1 (cut_ne (k := 1) (by decide) (List.cons_ne_nil _ _)), fun _ p2 np2 => ?_⟩
      generalize hh : upd H1b p2 _ = H2
      have s2' : Same H1b H2 := by
        rw [← hh]
        exact same_upd np2
      have sq2 : SqT K H2 p2 kv := by
        rw [← hh]
        refine .inl (.inl ?_)
        rw [upd_same]
        show some (HO.tup (cutV (V.str h.tag :: ([] ++ kv)) (some ((1 : Nat) : Int)) none)) = some (HO.tup kv)
        rw [cut_from]
        rfl
      clear hh
      have s2 := s1b.trans s2'
      have hp2 := s2' _ _ h1b
      have rk2 := DpAll.stay (.of s2) (noL_datas ks) r2
      refine ⟨p2, rfl, ⟨kv, sq2⟩, for_tup (xs := kv) (fun i σ H' => (∃ y, σ = [some (.ref a), some (.ref p), y]) ∧ Same H H' ∧ Stay H2 H' ∧ ∃ xs, H' p = some (.lst xs) ∧ DpAll K H' xs (datas (Tm.mk h ks :: alls (ks.take i)))) ?_ ?_ ?_ ?_⟩
      · exact ⟨⟨_, rfl⟩, s2, .refl _, [.ref a], hp2, .cons (Dp.stay (.of s2) (Tm.noL _) dp) .nil⟩
      · rintro i σ H' hi ⟨_, _, st, _⟩
        exact st.sqT sq2
      · rintro i x σ H' hx ⟨⟨y, rfl⟩, sm, st, xs, hp, rx⟩
        obtain ⟨u, hu, du⟩ := DpAll.kid rk2 hx
        have mu : u ∈ (Tm.mk h ks).kids := List.mem_of_getElem? hu
        have du2 : Dp K H' x u.data := Dp.stay st u.noL du
        have c1 := counts_take ks (i + 1)
        rw [take_more hu, counts_app] at c1
        have c2 : counts [u] = u.count := by
          rw [counts_cons]
          rfl
        refine ⟨_, rfl, .inl ⟨rfl, xs, .inl (.inl hp)⟩, _, rfl, own, x, u, rfl, du2, gd.kid mu, by have := deep_kid mu; omega, by omega, fun H3 b zs s3 nb hb rz => ?_⟩
        refine ⟨p, b, xs, zs, rfl, rfl, s3 _ _ hp, hb, ?_, ?_⟩
        · rw [DpAll.len rx, DpAll.len rz, datas_len, datas_len]
          have e1 : (Tm.mk h ks :: alls (ks.take i)).length = counts (ks.take i) + 1 := rfl
          have e2 : u.all.length = u.count := rfl
          rw [e1, e2, sizeLine_eq]
          omega
        · have ss := Stay.set (ys := xs ++ zs) (s3 _ _ hp)
          refine ⟨⟨_, rfl⟩, Same.set (sm.trans s3) np, (st.trans (.of s3)).trans ss, xs ++ zs, upd_same, ?_⟩
          rw [take_more hu, alls_app, alls_one, ← List.cons_append, datas_app]
          exact DpAll.app (DpAll.stay ((Stay.of s3).trans ss) (noL_datas _) rx) (DpAll.stay ss (noL_datas _) rz)
      · rintro σ H' ⟨⟨y, rfl⟩, sm, st, xs, hp, rx⟩
        have l : kv.length = ks.length := by rw [DpAll.len rk2, datas_len]
        rw [l, List.take_length] at rx
        -- the second look
        refine ⟨_, rfl, a, _, 0, _, rfl, rfl, Same.sqT sm sq, at0, by show 2 ≤ sizeLine; decide, fun p3 n3 => ?_⟩
        have s3 := same_upd (o := .tup ([("call" : Str), "with"].map V.str)) n3
        refine ⟨p3, [("call" : Str), "with"].map V.str, rfl, .inr (.inl (.inl upd_same)), rfl, flat_strs _, _, rfl, ?_⟩
        rw [inV_strs, tag2]
        have e2 : h.is2 = false := by cases h <;> first | rfl | cases e3
        rw [e2]
        refine iteF ?_
        exact ⟨_, rfl, q _ p xs (sm.trans s3) np (s3 _ _ hp) (DpAll.stay (.of s3) (noL_datas _) rx)⟩
    · refine ⟨_, rfl, a, _, 0, _, rfl, rfl, Same.sqT s1b sq, at0, by show 2 ≤ sizeLine; decide, fun p3 n3 => ?_⟩
      have s1c := s1b.trans (same_upd (o := .tup ([("call" : Str), "with"].map V.str)) n3)
      have h1c := same_upd (o := .tup ([("call" : Str), "with"].map V.str)) n3 _ _ h1b
      refine ⟨p3, [("call" : Str), "with"].map V.str, rfl, .inr (.inl (.inl upd_same)), rfl, flat_strs _, _, rfl, ?_⟩
      rw [inV_strs, tag2]
      change Same H (upd H1b p3 (.tup [V.str "call", V.str "with"])) at s1c
      change upd H1b p3 (.tup [V.str "call", V.str "with"]) p = _ at h1c
      generalize upd H1b p3 (.tup [V.str "call", V.str "with"]) = H1c at s1c h1c ⊢
      refine ite2 (fun e2 => ?_) (fun e2 => ?_)
      · obtain ⟨x, rfl⟩ := Hd.rest1 r1 e2
        refine ⟨_, rfl, _, rfl, ?_⟩
        refine ⟨a, _, rfl, Same.sqT s1c sq, fun z => absurd z.1 (cut_ne (k := 2) (by decide) (List.cons_ne_nil _ _)), fun _ p2 np2 => ?_⟩
        generalize hh : upd H1c p2 _ = H2
        have s2' : Same H1c H2 := by
          rw [← hh]
          exact same_upd np2
        have sq2 : SqT K H2 p2 kv := by
          rw [← hh]
          refine .inl (.inl ?_)
          rw [upd_same]
          show some (HO.tup (cutV (V.str h.tag :: ([V.str x] ++ kv)) (some ((2 : Nat) : Int)) none)) = some (HO.tup kv)
          rw [cut_from]
          rfl
        clear hh
        have s2 := s1c.trans s2'
        have hp2 := s2' _ _ h1c
        have rk2 := DpAll.stay (.of s2) (noL_datas ks) r2
        refine ⟨p2, rfl, ⟨kv, sq2⟩, for_tup (xs := kv) (fun i σ H' => (∃ y, σ = [some (.ref a), some (.ref p), y]) ∧ Same H H' ∧ Stay H2 H' ∧ ∃ xs, H' p = some (.lst xs) ∧ DpAll K H' xs (datas (Tm.mk h ks :: alls (ks.take i)))) ?_ ?_ ?_ ?_⟩
        · exact ⟨⟨_, rfl⟩, s2, .refl _, [.ref a], hp2, .cons (Dp.stay (.of s2) (Tm.noL _) dp) .nil⟩
        · rintro i σ H' hi ⟨_, _, st, _⟩
          exact st.sqT sq2
        · rintro i x σ H' hx ⟨⟨y, rfl⟩, sm, st, xs, hp, rx⟩
          obtain ⟨u, hu, du⟩ := DpAll.kid rk2 hx
          have mu : u ∈ (Tm.mk h ks).kids := List.mem_of_getElem? hu
          have du2 : Dp K H' x u.data := Dp.stay st u.noL du
          have c1 := counts_take ks (i + 1)
          rw [take_more hu, counts_app] at c1
          have c2 : counts [u] = u.count := by
            rw [counts_cons]
            rfl
          refine ⟨_, rfl, .inl ⟨rfl, xs, .inl (.inl hp)⟩, _, rfl, own, x, u, rfl, du2, gd.kid mu, by have := deep_kid mu; omega, by omega, fun H3 b zs s3 nb hb rz => ?_⟩
          refine ⟨p, b, xs, zs, rfl, rfl, s3 _ _ hp, hb, ?_, ?_⟩
          · rw [DpAll.len rx, DpAll.len rz, datas_len, datas_len]
            have e1 : (Tm.mk h ks :: alls (ks.take i)).length = counts (ks.take i) + 1 := rfl
            have e2 : u.all.length = u.count := rfl
            rw [e1, e2, sizeLine_eq]
            omega
          · have ss := Stay.set (ys := xs ++ zs) (s3 _ _ hp)
            refine ⟨⟨_, rfl⟩, Same.set (sm.trans s3) np, (st.trans (.of s3)).trans ss, xs ++ zs, upd_same, ?_⟩
            rw [take_more hu, alls_app, alls_one, ← List.cons_append, datas_app]
            exact DpAll.app (DpAll.stay ((Stay.of s3).trans ss) (noL_datas _) rx) (DpAll.stay ss (noL_datas _) rz)
        · rintro σ H' ⟨⟨y, rfl⟩, sm, st, xs, hp, rx⟩
          have l : kv.length = ks.length := by rw [DpAll.len rk2, datas_len]
          rw [l, List.take_length] at rx
          exact ⟨_, rfl, q _ p xs sm np hp rx⟩
      · have e0 : ks = [] := gd.kids0 e3 e2
        subst e0
        exact ⟨_, rfl, q _ p [.ref a] s1c np h1c (.cons (Dp.stay (.of s1c) (Tm.noL _) dp) .nil)⟩
end
end FS

set_option Elab.async false
set_option linter.all false
set_option maxRecDepth 100000
set_option maxHeartbeats 4000000
namespace FS
open PySem PySem.Spec PyProof.Rows L2
section
variable {P : Program} {w : World} {K : PySem.W.Frag} {mg : Str → Option Value} {base : Heap}
abbrev N_law_any_deed : List Str := ["_law_die", "_law_modes", "_law_table", "_law_mode"]
theorem sc_law_any_deed : FnScope N_law_any_deed ["_law_die", "_law_modes"] (defScope s_law_any_deed) := ⟨rfl, rfl, rfl, by decide +kernel, rfl, by decide +kernel, by decide +kernel⟩
theorem ok_l_any_deed {f : Addr} {fd : FuncData} (F : Fun K "_law_any_deed" "_law_any_deed" s_law_any_deed f fd) (T : Nm K mg) (Cl_pick : Cal P w K mg base 2 "_law_pick" ["_law_die", "_law_items"] (spPick K)) : FnOk P w K mg base CX0 3 f fd ["_law_die", "_law_modes"] (spDeed K) := by
  have nd := sc_law_any_deed.nd
  refine F.ok sc_law_any_deed (fun vs H Q E h => ?_) (fun cdv A outer s H vs Q E hr h => ?_)
  · obtain ⟨D, m, rfl, d, m1, m3, q⟩ := h
    rfl
  · obtain ⟨D, m, rfl, d, m1, m3, q⟩ := h
    skip
    refine ⟨_, (pss_cons (ps_setLc (i := 2) (own := [("_law_mode", 3)]) (g := gName 3) (tt := tYes) rfl nd rfl rfl (sw_true rfl rfl rfl (by decide +kernel)) (pi_range1 rfl T.b_range (pa_cons (pv 1) pa_nil)) (blkOk_by (own := [("_law_mode", 3)]) (N := N_law_any_deed) (sc := defScope s_law_any_deed) (by decide +kernel)) (fun _ _ _ _ _ => (pg_name (i := 3) nd rfl (Or.inl rfl))) (fun _ _ _ _ _ => pts_nil) (fun _ _ _ _ _ => (pe_own Cl_pick (hr.mono (by decide)) (by rfl) (pa_cons (pv 0) (pa_cons (pe_op op_cat (pe_lst (pa_cons pe_non pa_nil)) (pe_op op_rep (pe_listRg rfl (by rfl) T.b_list (prg_1 (by rfl) T.b_range (pv 1))) pe_int)) pa_nil)))))
  (pss_one (ps_ret (pe_tup (pa_cons pe_str (pa_cons (pe_own Cl_pick (hr.mono (by decide)) (by rfl) (pa_cons (pv 0) (pa_cons (pe_lst (pa_cons pe_str (pa_cons pe_str (pa_cons pe_str (pa_cons pe_str pa_nil))))) pa_nil))) (pa_cons (pe_callTy call_tuple_of (by rfl) T.b_tuple (by decide +kernel) (pa_cons (pv 2) pa_nil)) pa_nil))))))), ?_⟩

    obtain ⟨k, rfl⟩ : ∃ k : Nat, m = (k : Int) := ⟨m.toNat, by omega⟩
    refine ⟨_, rfl, _, rfl, by omega, by omega, fun L nL => ?_⟩
    have nLD := d.ne nL
    refine lc_range (lo := 0) (n := (k : Int).toNat) (fun i H' => Go D H H' ∧ ∃ es : List (Option Nat), es.length = i ∧ (∀ e ∈ es, entK k e = true) ∧ H' L = some (.lst (es.map entryV))) ⟨(Go.refl d).upd nL nLD, [], rfl, (fun _ h => nomatch h), upd_same⟩ (fun i H1 hi hp => ?_) (fun H1 hp => ?_)
    · obtain ⟨g1, es, le, oe, eL⟩ := hp
      have hi3 : i < 3 := by omega
      refine ⟨rfl, _, rfl, by show 1 ≤ sizeLine; decide, fun p1 n1 => ?_⟩
      have g2 := g1.same (same_upd (o := .lst [V.non]) n1)
      have e1 : upd H1 p1 (.lst [V.non]) p1 = some (.lst [V.non]) := upd_same
      have eL1 := same_upd (o := .lst [V.non]) n1 _ _ eL
      generalize upd H1 p1 (.lst [V.non]) = H2 at g2 e1 eL1 ⊢
      refine ⟨_, rfl, _, rfl, .of_le (by omega) (by omega) (by omega) (by omega), fun p2 n2 => ?_⟩
      have g3 := g2.same (same_upd (o := .lst (rgV 0 (k : Int))) n2)
      have e2 := same_upd (o := .lst (rgV 0 (k : Int))) n2 _ _ e1
      have f2 : upd H2 p2 (.lst (rgV 0 (k : Int))) p2 = some (.lst (rgV 0 (k : Int))) := upd_same
      have eL2 := same_upd (o := .lst (rgV 0 (k : Int))) n2 _ _ eL1
      generalize upd H2 p2 (.lst (rgV 0 (k : Int))) = H3 at g3 e2 f2 eL2 ⊢
      have lr : (rgV 0 (k : Int)).length = k := by rw [rgV_length]; omega
      refine ⟨p2, 2, _, rfl, rfl, f2, by omega, by omega, by rw [lr, sizeLine_eq, show (2 : Int).toNat = 2 from rfl]; omega, fun p3 n3 => ?_⟩
      have mem : ∀ v ∈ (List.replicate (2 : Int).toNat (rgV 0 (k : Int))).flatten, ∃ j : Nat, j < k ∧ v = .int (j : Int) := fun v hv => by
        obtain ⟨l, hl, hv⟩ := List.mem_flatten.mp hv
        rw [List.eq_of_mem_replicate hl] at hv
        obtain ⟨j, hj, rfl⟩ := List.mem_map.mp hv
        have := List.mem_range.mp hj
        exact ⟨j, by omega, by rw [Int.zero_add]⟩
      have lf : (List.replicate (2 : Int).toNat (rgV 0 (k : Int))).flatten.length = 2 * k := by
        rw [List.length_flatten, List.map_replicate, lr, show (2 : Int).toNat = 2 from rfl]
        simp [List.replicate]
        omega
      generalize (List.replicate (2 : Int).toNat (rgV 0 (k : Int))).flatten = fl at mem lf ⊢
      have g4 := g3.same (same_upd (o := .lst fl) n3)
      have e3 := same_upd (o := .lst fl) n3 _ _ e2
      have f3 : upd H3 p3 (.lst fl) p3 = some (.lst fl) := upd_same
      have eL3 := same_upd (o := .lst fl) n3 _ _ eL2
      generalize upd H3 p3 (.lst fl) = H4 at g4 e3 f3 eL3 ⊢
      refine ⟨p1, p3, _, _, rfl, rfl, e3, f3, by rw [lf, sizeLine_eq]; show 1 + 2 * k ≤ _; omega, fun p4 n4 => ?_⟩
      have g5 := g4.same (same_upd (o := .lst ([V.non] ++ fl)) n4)
      have f4 : upd H4 p4 (.lst ([V.non] ++ fl)) p4 = some (.lst ([V.non] ++ fl)) := upd_same
      have eL4 := same_upd (o := .lst ([V.non] ++ fl)) n4 _ _ eL3
      have np4 := g4.2.ne n4
      generalize upd H4 p4 (.lst ([V.non] ++ fl)) = H5 at g5 f4 eL4 ⊢
      refine ⟨D, p4, _, g5.2, rfl, .inl (.inl f4), np4, (fun z => nomatch z), by show (fl.length + 1) < 1000; omega, fun v H6 hv g6 f6 => ?_⟩
      have ev : ∃ e : Option Nat, entK k e = true ∧ v = entryV e := by
        rcases List.mem_cons.mp hv with rfl | hv
        · exact ⟨none, rfl, rfl⟩
        · obtain ⟨j, hj, rfl⟩ := mem v hv
          exact ⟨some j, decide_eq_true hj, rfl⟩
      obtain ⟨e, oe2, rfl⟩ := ev
      refine ⟨_, g6.1 _ _ nLD eL4, by rw [List.length_map]; exact small1000 (by omega), (g5.trans g6).upd nL nLD, es ++ [e], ?_, ?_, ?_⟩
      · rw [List.length_append, le]
        rfl
      · intro z hz
        rcases List.mem_append.mp hz with h | h
        · exact oe z h
        · rw [List.mem_singleton.mp h]
          exact oe2
      · rw [upd_same, List.map_append]
        rfl
    · obtain ⟨g1, es, le, oe, eL⟩ := hp
      refine ⟨_, rfl, by show 4 ≤ sizeLine; decide, fun p1 n1 => ?_⟩
      have g2 := g1.same (same_upd (o := .lst [V.str "go", V.str "work", V.str "flip", V.str "go"]) n1)
      have e1 : upd H1 p1 (.lst [V.str "go", V.str "work", V.str "flip", V.str "go"]) p1 = some (.lst [V.str "go", V.str "work", V.str "flip", V.str "go"]) := upd_same
      have eL1 := same_upd (o := .lst [V.str "go", V.str "work", V.str "flip", V.str "go"]) n1 _ _ eL
      have np1 := g1.2.ne n1
      generalize upd H1 p1 (.lst [V.str "go", V.str "work", V.str "flip", V.str "go"]) = H2 at g2 e1 eL1 ⊢
      refine ⟨D, p1, _, g2.2, rfl, .inl (.inl e1), np1, (fun z => nomatch z), by show 4 < 1000; decide, fun v H3 hv g3 f3 => ?_⟩
      have ev : ∃ z : Str, wordB z = true ∧ v = .str z := by
        simp only [List.mem_cons, List.not_mem_nil, or_false] at hv
        rcases hv with rfl | rfl | rfl | rfl
        · exact ⟨_, (by decide +kernel : wordB "go" = true), rfl⟩
        · exact ⟨_, (by decide +kernel : wordB "work" = true), rfl⟩
        · exact ⟨_, (by decide +kernel : wordB "flip" = true), rfl⟩
        · exact ⟨_, (by decide +kernel : wordB "go" = true), rfl⟩
      obtain ⟨z, wz, rfl⟩ := ev
      have eL3 := g3.1 _ _ nLD eL1
      have g4 := g2.trans g3
      refine ⟨_, rfl, L, _, rfl, .inl ⟨.inl (.inl eL3), fun p5 n5 => ?_⟩⟩
      have g5 := g4.same (same_upd (o := .tup (es.map entryV)) n5)
      have f5 : upd H3 p5 (.tup (es.map entryV)) p5 = some (.tup (es.map entryV)) := upd_same
      generalize upd H3 p5 (.tup (es.map entryV)) = H6 at g5 f5 ⊢
      refine ⟨by show 3 ≤ sizeLine; decide, fun p6 n6 => ?_⟩
      have s7 := same_upd (o := .tup [V.str "do", V.str z, V.ref p5]) n6
      have g7 := g5.same s7
      have f7 : upd H6 p6 (.tup [V.str "do", V.str z, V.ref p5]) p6 = some (.tup [V.str "do", V.str z, V.ref p5]) := upd_same
      have f5b := s7 _ _ f5
      generalize upd H6 p6 (.tup [V.str "do", V.str z, V.ref p5]) = H7 at g7 f7 f5b ⊢
      have de : ∀ es : List (Option Nat), DpAll K H7 (es.map entryV) (es.map entryD) := fun es => by
        induction es with
        | nil => exact .nil
        | cons e r ih =>
          cases e with
          | none => exact .cons .non ih
          | some j => exact .cons (.int _) ih
      refine q _ H7 (.mk (.deed z es) []) g7 fun tb own => ⟨.tup (.inl (.inl f7)) (.cons (.str _) (.cons (.str _) (.cons (.tup (.inl (.inl f5b)) (de es)) .nil))), ?_, rfl, Nat.le_refl _, Nat.le_refl _⟩
      refine .mk ?_ rfl (fun t h => nomatch h) (deed_fit (by omega) oe)
      show (wordB z && decide (1 ≤ es.length ∧ es.length ≤ 3) && es.all entB && decide (([] : List Tm).length = 0)) = true
      rw [wz, decide_eq_true (by omega : 1 ≤ es.length ∧ es.length ≤ 3), List.all_eq_true.mpr fun e he => entK_B (by omega) (oe e he)]
      rfl
end
end FS

set_option Elab.async false
set_option linter.all false
set_option maxRecDepth 100000
set_option maxHeartbeats 4000000
namespace FS
open PySem PySem.Spec PyProof.Rows L2
section
variable {P : Program} {w : World} {K : PySem.W.Frag} {mg : Str → Option Value} {base : Heap}
abbrev N_law_any_given : List Str := ["_law_die", "_law_modes", "_law_table", "_law_own", "_law_kinds", "_law_deep", "_law_found", "_law_kind", "_law_one"]
theorem sc_law_any_given : FnScope N_law_any_given ["_law_die", "_law_modes", "_law_table", "_law_own", "_law_kinds", "_law_deep"] (defScope s_law_any_given) := ⟨rfl, rfl, rfl, by decide +kernel, rfl, by decide +kernel, by decide +kernel⟩
theorem ok_l_any_given {f : Addr} {fd : FuncData} (F : Fun K "_law_any_given" "_law_any_given" s_law_any_given f fd) (T : Nm K mg) {n k : Nat} (Cl_any_wrap : Cal P w K mg base k "_law_any_wrap" ["_law_die", "_law_modes", "_law_table", "_law_own", "_law_deep"] (spWrap K n)) (Cl_any_term : Cal P w K mg base k "_law_any_term" ["_law_die", "_law_modes", "_law_table", "_law_own", "_law_deep"] (spTermD K n)) : FnOk P w K mg base CX0 (k + 1) f fd ["_law_die", "_law_modes", "_law_table", "_law_own", "_law_kinds", "_law_deep"] (spGiven K n) := by
  have nd := sc_law_any_given.nd
  refine F.ok sc_law_any_given (fun vs H Q E h => ?_) (fun cdv A outer s H vs Q E hr h => ?_)
  · obtain ⟨D, ta, kl, m, tb, ov, own, ks, rfl, ak, n6, hkl, nkD, k3, q0, q⟩ := h
    rfl
  · obtain ⟨D, ta, kl, m, tb, ov, own, ks, rfl, ak, n6, hkl, nkD, k3, q0, q⟩ := h
    skip
    refine ⟨_, (pss_cons (ps_set (i := 6) nd rfl (Or.inl rfl) (pe_lst pa_nil))
  (pss_cons (ps_for PassesOwn.never rfl (pi_list (pv 4)) (pg_name (i := 7) nd rfl (Or.inl rfl))
  (pss_cons (ps_if (pt_cmpR op_lt (pv 5) pe_int (nomark _))
  (pss_one (ps_ret pe_non))
  pss_nil)
  (pss_cons (ps_if (pt_cmpR op_eq (pv 7) pe_str (nomark _))
  (pss_one (ps_set (i := 8) nd rfl (Or.inl rfl) (pe_own Cl_any_wrap (hr.mono (by omega)) (by rfl) (pa_cons (pv 0) (pa_cons (pv 1) (pa_cons (pv 2) (pa_cons (pv 3) (pa_cons (pv 5) pa_nil))))))))
  (pss_one (ps_set (i := 8) nd rfl (Or.inl rfl) (pe_own Cl_any_term (hr.mono (by omega)) (by rfl) (pa_cons (pv 0) (pa_cons (pv 1) (pa_cons (pv 2) (pa_cons (pv 3) (pa_cons (pv 5) pa_nil)))))))))
  (pss_cons (ps_if (pt_cmpR op_isN (pv 8) pe_non (nomark _))
  (pss_one (ps_ret pe_non))
  pss_nil)
  (pss_one (ps_expr (pe_bm PySem.F.plainAttrs_list PySem.F.slot_list_append PySem.F.type_list_append mt_append (pv 6) (pa_cons (pv 8) pa_nil))))))))
  (pss_one (ps_ret (pe_callTy call_tuple_of (by rfl) T.b_tuple (by decide +kernel) (pa_cons (pv 6) pa_nil)))))), ?_⟩

    have nrl : SqL K H kl ((ks.map kd).map V.str) := .inl (.inl hkl)
    refine ⟨Nat.zero_le _, fun p np => ?_⟩
    have npD := ak.die.ne np
    have npk : p ≠ kl := fun z => by
      rw [z, hkl] at np
      cases np
    have g1 : Go D H (upd H p (.lst [])) := .new ak.die np
    have e1 : upd H p (.lst []) p = some (.lst []) := upd_same
    generalize upd H p (.lst []) = H1 at g1 e1 ⊢
    refine ⟨_, rfl, kl, rfl, ⟨_, g1.seq nkD nrl⟩, for_list (xs := (ks.map kd).map V.str) (fun i σ H' => ∃ (y7 y8 : Option V) (vs' : List V) (us : List Tm), σ = [some (.ref D), some (.int m), some (.ref ta), some ov, some (.ref kl), some (.int (n : Int)), some (.ref p), y7, y8] ∧ Go D H H' ∧ H' p = some (.lst vs') ∧ DpAll K H' vs' (datas us) ∧ (∀ u ∈ us, GF m tb own u ∧ u.deep ≤ n ∧ u.count ≤ cb n) ∧ us.map Tm.isW = ks.take i) ?_ ?_ ?_ ?_⟩
    · exact ⟨_, _, [], [], rfl, g1, e1, .nil, (fun _ h => nomatch h), rfl⟩
    · rintro i σ H' hi ⟨_, _, _, _, _, g, _⟩
      exact g.seq nkD nrl
    · rintro i x σ H2 hx ⟨y7, y8, vs', us, rfl, g2, ep, ru, gu, eu⟩
      rw [List.getElem?_map, List.getElem?_map] at hx
      obtain ⟨z, hz, rfl⟩ := Option.map_eq_some_iff.mp hx
      obtain ⟨b, hb, rfl⟩ := Option.map_eq_some_iff.mp hz
      have li := (List.getElem?_eq_some_iff.mp hb).1
      refine ⟨_, rfl, _, _, rfl, rfl, _, rfl, ite2 (fun e => ?_) (fun e => ?_)⟩
      · exact q0 _ g2
      have n1 : 1 ≤ n := by
        have := e
        simp at this
        omega
      have fin : ∀ (v : V) (H3 : Hp) (t : Tm), Go D H2 H3 → Got K H3 m tb own n b v t → ∃ xs y, H3 p = some (.lst xs) ∧ xs.length < sizeLine ∧ y = v ∧ Go D H (upd H3 p (.lst (xs ++ [y]))) ∧ DpAll K (upd H3 p (.lst (xs ++ [y]))) (xs ++ [y]) (datas (us ++ [t])) ∧ (∀ u ∈ us ++ [t], GF m tb own u ∧ u.deep ≤ n ∧ u.count ≤ cb n) ∧ (us ++ [t]).map Tm.isW = ks.take (i + 1) := fun v H3 t g3 gt => by
        have ep3 := g3.1 _ _ npD ep
        have st := Stay.set (ys := vs' ++ [v]) ep3
        have tk3 := g3.tk g2.2
        refine ⟨vs', v, ep3, ?_, rfl, (g2.trans g3).upd np npD, ?_, ?_, ?_⟩
        · have l1 : vs'.length = us.length := by rw [DpAll.len ru, datas_len]
          have l2 : us.length = (ks.take i).length := by rw [← eu, List.length_map]
          rw [List.length_take] at l2
          exact small1000 (by omega)
        · rw [datas_app]
          exact DpAll.app (DpAll.tk (tk3.trans (.stay st)) (noL_datas _) ru) (.cons (Dp.tk (.stay st) t.noL gt.dp) .nil)
        · intro u hu
          rcases List.mem_append.mp hu with h | h
          · exact gu u h
          · rw [List.mem_singleton.mp h]
            exact ⟨gt.good, gt.deep, gt.few⟩
        · rw [List.map_append, eu, take_more hb]
          show _ ++ [t.isW] = _
          rw [gt.kind]
      have ak2 := ak.go g2
      refine ⟨_, rfl, rfl, _, rfl, ?_⟩
      cases b with
      | true =>
        refine iteT ?_
        refine ⟨_, rfl, _, rfl, _, rfl, _, rfl, _, rfl, D, ta, m, tb, ov, own, rfl, ak2, n1, n6, fun H3 g3 => ?_, fun v H3 t g3 gt => ?_⟩
        · exact ⟨_, rfl, rfl, _, rfl, iteT (q0 _ (g2.trans g3))⟩
        · refine ⟨_, rfl, rfl, _, rfl, ?_⟩
          have nv : decide (v = V.non) = false := decide_eq_false (got_ne gt)
          rw [nv]
          refine iteF ?_
          obtain ⟨xs, y, h1, h2, rfl, h3, h4, h5, h6⟩ := fin v H3 t g3 gt
          exact ⟨_, rfl, .inl ⟨rfl, _, .inl (.inl h1)⟩, _, rfl, p, xs, y, rfl, rfl, h1, h2, _, _, _, _, rfl, h3, upd_same, h4, h5, h6⟩
      | false =>
        refine iteF ?_
        refine ⟨_, rfl, _, rfl, _, rfl, _, rfl, _, rfl, D, ta, m, tb, ov, own, rfl, ak2, n1, n6, fun v H3 t g3 gt => ?_⟩
        refine ⟨_, rfl, rfl, _, rfl, ?_⟩
        have nv : decide (v = V.non) = false := decide_eq_false (got_ne gt)
        rw [nv]
        refine iteF ?_
        obtain ⟨xs, y, h1, h2, rfl, h3, h4, h5, h6⟩ := fin v H3 t g3 gt
        exact ⟨_, rfl, .inl ⟨rfl, _, .inl (.inl h1)⟩, _, rfl, p, xs, y, rfl, rfl, h1, h2, _, _, _, _, rfl, h3, upd_same, h4, h5, h6⟩
    · rintro σ H2 ⟨y7, y8, vs', us, rfl, g2, ep, ru, gu, eu⟩
      rw [List.length_map, List.length_map, List.take_length] at eu
      refine ⟨_, rfl, p, _, rfl, .inl ⟨.inl (.inl ep), fun p2 n2 => ?_⟩⟩
      have s3 := same_upd (o := .tup vs') n2
      exact q p2 vs' us _ (g2.same s3) (.inl (.inl upd_same)) (DpAll.tk (.of s3) (noL_datas _) ru) ⟨gu, eu⟩
end
end FS

set_option Elab.async false
set_option linter.all false
set_option maxRecDepth 100000
set_option maxHeartbeats 4000000
namespace FS
open PySem PySem.Spec PyProof.Rows L2
theorem u1 {k : Nat} {A : Around} (r : L2.Room k A) : A.units + 1 < cLine := by
  have := r.un
  omega
theorem strs_lay : ∀ ys : List Str, (∀ z ∈ ys, PyData.strOk z = true) → PyData.canLayAll0 (ys.map PyData.str) = true ∧ PyData.depthAll (ys.map PyData.str) = 0
  | [], _ => ⟨rfl, rfl⟩
  | y :: r, h => by
    obtain ⟨h1, h2⟩ := strs_lay r fun z hz => h z (List.mem_cons_of_mem _ hz)
    refine ⟨?_, ?_⟩
    · show (PyData.strOk y && PyData.canLayAll0 (r.map PyData.str)) = true
      rw [h y List.mem_cons_self, h1]
      rfl
    · show max 0 (PyData.depthAll (r.map PyData.str)) = 0
      rw [h2]
      rfl
theorem list_shaped {ys : List Str} (h : ∀ z ∈ ys, PyData.strOk z = true) : SeqAt.shaped (.list (ys.map PyData.str)) = true := by
  obtain ⟨h1, h2⟩ := strs_lay ys h
  unfold SeqAt.shaped
  rw [show PyData.canLay0 (.list (ys.map PyData.str)) = true from h1, decide_eq_true (show PyData.depth (.list (ys.map PyData.str)) ≤ 64 by
    show PyData.depthAll (ys.map PyData.str) + 1 ≤ 64
    omega)]
  rfl
theorem ne_nil {K : PySem.W.Frag} {H : Hp} {p q : Addr} {ys : List Str} {Q : VK} (e : H p = some (.lst (ys.map V.str))) (f : H q = some (.lst [])) (ok : ∀ z ∈ ys, PyData.strOk z = true) (h : Q (.bl (!ys.isEmpty)) H) : rNeD K (.ref p) (.ref q) H Q := by
  refine ⟨.list (ys.map PyData.str), .list [], .lst (.inl (.inl e)) (dp_strs ys), .lst (.inl (.inl f)) .nil, list_shaped ok, rfl, ?_⟩
  have : PyData.eqv (.list (ys.map PyData.str)) (.list []) = ys.isEmpty := by
    cases ys <;> rfl
  rw [this]
  exact h
theorem neg_ix (n d : Nat) : HT.sIx n d (some (-1)) = n - 1 := by
  show (if (-1 : Int) < 0 then ((-1 : Int) + (n : Int)).toNat else min (-1 : Int).toNat n) = n - 1
  rw [if_pos (by omega)]
  omega
/-- xs[-1:] -/
theorem cut_last {K : PySem.W.Frag} {H : Hp} {a : Addr} {xs : List V} {Q : VK} (sq : SqT K H a xs) (q : ∀ H' p, Same H H' → SqT K H' p (xs.drop (xs.length - 1)) → Q (.ref p) H') : rSlA K (.ref a) (some (-1)) none H Q := by
  refine ⟨a, xs, rfl, sq, fun z => ?_, fun _ p np => q _ p (same_upd np) (.inl (.inl ?_))⟩
  · have e := z.1
    rw [neg_ix] at e
    have := q H a (.refl H)
    rw [e] at this
    exact this sq
  · rw [upd_same]
    show some (HO.tup ((xs.drop (HT.sIx xs.length 0 (some (-1)))).take (xs.length - HT.sIx xs.length 0 (some (-1))))) = _
    rw [neg_ix, List.take_of_length_le (by rw [List.length_drop]; exact Nat.le_refl _)]
/-- xs[:-1] -/
theorem cut_init {K : PySem.W.Frag} {H : Hp} {a : Addr} {xs : List V} {Q : VK} (sq : SqT K H a xs) (q : ∀ H' p, Same H H' → SqT K H' p (xs.take (xs.length - 1)) → Q (.ref p) H') : rSlA K (.ref a) none (some (-1)) H Q := by
  refine ⟨a, xs, rfl, sq, fun z => ?_, fun _ p np => q _ p (same_upd np) (.inl (.inl ?_))⟩
  · have e := z.2
    rw [neg_ix] at e
    have := q H a (.refl H)
    rw [e, List.take_length] at this
    exact this sq
  · rw [upd_same]
    show some (HO.tup ((xs.drop 0).take (HT.sIx xs.length xs.length (some (-1)) - 0))) = _
    rw [neg_ix]
    rfl
/-- xs + ys, of tuples -/
theorem cat_tup {K : PySem.W.Frag} {H : Hp} {a b : Addr} {xs ys : List V} {Q : VK} (sx : SqT K H a xs) (sy : SqT K H b ys) (hne : xs ≠ []) (hl : xs.length + ys.length < 16000) (q : ∀ H' p, Same H H' → SqT K H' p (xs ++ ys) → Q (.ref p) H') : rCatA K (.ref a) (.ref b) H Q := by
  refine ⟨a, b, xs, ys, rfl, rfl, sx, sy, Nat.le_of_lt (small16 hl), fun z => absurd z hne, fun _ e => ?_, fun _ _ p np => q _ p (same_upd np) (.inl (.inl upd_same))⟩
  subst e
  have := q H a (.refl H)
  rw [List.append_nil] at this
  exact this sx
theorem gives_deep {us : List Tm} {j c : Nat} (h : ∀ u ∈ us, u.deep ≤ j ∧ u.count ≤ c) : deeps us ≤ j ∧ counts us ≤ us.length * c := by
  induction us with
  | nil => exact ⟨Nat.zero_le _, Nat.zero_le _⟩
  | cons u r ih =>
    obtain ⟨h1, h2⟩ := ih fun z hz => h z (List.mem_cons_of_mem _ hz)
    obtain ⟨h3, h4⟩ := h u List.mem_cons_self
    refine ⟨?_, ?_⟩
    · show max u.deep (deeps r) ≤ j
      omega
    · rw [counts_cons, List.length_cons, Nat.succ_mul]
      omega
theorem names_ok {own : List (Str × Bool)} {k : Bool} {z : Str} (h : z ∈ namesOf own k) : (z, k) ∈ own := by
  obtain ⟨p, hp, rfl⟩ := List.mem_map.mp h
  obtain ⟨h1, h2⟩ := List.mem_filter.mp hp
  rw [← beq_iff_eq.mp h2]
  exact h1
theorem names_word {own : List (Str × Bool)} (po : ParOk own) {k : Bool} {z : Str} (h : z ∈ namesOf own k) : PyData.strOk z = true := (word_ok (po.nms _ (names_ok h))).1
theorem names_few {own : List (Str × Bool)} (po : ParOk own) (k : Bool) : (namesOf own k).length ≤ 3 := by
  unfold namesOf
  rw [List.length_map]
  exact Nat.le_trans (List.length_filter_le _ _) po.few
theorem cb_pos {n : Nat} (h : 1 ≤ n) : 1 ≤ cb n := by
  cases n with
  | zero => omega
  | succ n =>
    show 1 ≤ 1 + 3 * cb n
    omega
/-- own and run -/
theorem got_leaf {K : PySem.W.Frag} {H : Hp} {mo : Int} {tb : Tbl} {own : List (Str × Bool)} {n : Nat} {p : Addr} {z : Str} {k : Bool} (hn : 1 ≤ n) (e : SqT K H p [V.str (if k then "own" else "run"), V.str z]) (m : (z, k) ∈ own) : ∃ t, Got K H mo tb own n k (.ref p) t := by
  have c1 := cb_pos hn
  cases k with
  | true => exact ⟨.mk (.own z) [], .tup e (.cons (.str _) (.cons (.str _) .nil)), .mk (by show (decide ((z, true) ∈ own) && decide (([] : List Tm).length = 0)) = true; rw [decide_eq_true m]; rfl) rfl (fun t h => nomatch h) rfl, rfl, hn, c1⟩
  | false => exact ⟨.mk (.run z) [], .tup e (.cons (.str _) (.cons (.str _) .nil)), .mk (by show (decide ((z, false) ∈ own) && decide (([] : List Tm).length = 0)) = true; rw [decide_eq_true m]; rfl) rfl (fun t h => nomatch h) rfl, rfl, hn, c1⟩
/-- a call, or with, of given parts -/
theorem got_call {K : PySem.W.Frag} {H : Hp} {mo : Int} {tb : Tbl} {own : List (Str × Bool)} {j : Nat} {p : Addr} {x : Str} {vs : List V} {us : List Tm} {ks : List Bool} (b : Bool) (wd : wordB x = true) (e : SqT K H p (V.str (if b then "with" else "call") :: V.str x :: vs)) (r : DpAll K H vs (datas us)) (g : Gives K H mo tb own j ks us) (k3 : ks.length ≤ 3) (ft : (tb.lookup x).map (fun o => o.map (·.2)) = some (if b then ks ++ [false] else ks)) : ∃ t, Got K H mo tb own (j + 1) b (.ref p) t := by
  obtain ⟨g1, g2⟩ := g
  obtain ⟨d1, d2⟩ := gives_deep fun u hu => (g1 u hu).2
  have l : us.length ≤ 3 := by rw [← g2, List.length_map] at k3; exact k3
  have c : 1 + counts us ≤ cb (j + 1) := by
    show 1 + counts us ≤ 1 + 3 * cb j
    have := Nat.mul_le_mul_right (cb j) l
    omega
  cases b with
  | true => exact ⟨.mk (.wth x) us, .tup e (.cons (.str _) (.cons (.str _) r)), .mk wd rfl (fun u hu => (g1 u hu).1) (by rw [g2]; exact decide_eq_true ft), rfl, Nat.succ_le_succ d1, by rw [count_eq]; exact c⟩
  | false => exact ⟨.mk (.call x) us, .tup e (.cons (.str _) (.cons (.str _) r)), .mk wd rfl (fun u hu => (g1 u hu).1) (by rw [g2]; exact decide_eq_true ft), rfl, Nat.succ_le_succ d1, by rw [count_eq]; exact c⟩
end FS
namespace FS
open PySem PySem.Spec PyProof.Rows L2
theorem ParOk.sub {o l : List (Str × Bool)} (h : ParOk o) (s : l.Sublist o) : ParOk l := ⟨Nat.le_trans s.length_le h.few, fun p hp => h.nms p (s.mem hp), (h.nd.sublist (s.map _))⟩
theorem eqv_pars (l : List (Str × Bool)) : PyData.eqv (.tuple (l.map parD)) (.tuple []) = l.isEmpty := by
  cases l <;> rfl
theorem last_empty {α : Type} (l : List α) : (l.drop (l.length - 1)).isEmpty = l.isEmpty := by
  cases l with
  | nil => rfl
  | cons x r =>
    have h : ((x :: r).drop ((x :: r).length - 1)).length = 1 := by
      rw [List.length_drop, List.length_cons]
      omega
    cases e : (x :: r).drop ((x :: r).length - 1) with
    | nil => rw [e] at h; cases h
    | cons a b => rfl
theorem at_last {l : List V} {x : V} (h : l[l.length - 1]? = some x) : atI l (-1) = some x := by
  have hl : 0 < l.length := by
    have := (List.getElem?_eq_some_iff.mp h).1
    omega
  unfold atI ixN
  rw [if_neg (by omega)]
  have e : (((-1 : Int) + (l.length : Int)).toNat) = l.length - 1 := by omega
  first
    | (rw [if_pos (by omega)]; show l[((-1 : Int) + (l.length : Int)).toNat]? = _; rw [e]; exact h)
    | (simp; rw [e]; exact h)
theorem DpAll.take9 {K : PySem.W.Frag} {H : Hp} : ∀ (n : Nat) {vs : List V} {ds : List PyData}, DpAll K H vs ds → DpAll K H (vs.take n) (ds.take n)
  | 0, _, _, _ => .nil
  | n + 1, _, _, .nil => .nil
  | n + 1, _, _, .cons h r => .cons h (DpAll.take9 n r)
theorem cb_mono {n : Nat} : cb 1 ≤ cb (n + 1) := by
  show 1 + 3 * 0 ≤ 1 + 3 * cb n
  omega
theorem got_up {K : PySem.W.Frag} {H : Hp} {mo : Int} {tb : Tbl} {own : List (Str × Bool)} {n : Nat} {b : Bool} {v : V} {t : Tm} (g : Got K H mo tb own 1 b v t) : Got K H mo tb own (n + 1) b v t := ⟨g.dp, g.good, g.kind, Nat.le_trans g.deep (by omega), Nat.le_trans g.few cb_mono⟩
/-- seq and or -/
theorem got_seq {K : PySem.W.Frag} {H : Hp} {mo : Int} {tb : Tbl} {own : List (Str × Bool)} {j : Nat} {p : Addr} {vs : List V} {us : List Tm} (b : Bool) (hb : b = true → 0 < us.length) (e : SqT K H p (V.str (if b then "or" else "seq") :: vs)) (r : DpAll K H vs (datas us)) (g : ∀ u ∈ us, GF mo tb own u ∧ u.isW = false ∧ u.deep ≤ j ∧ u.count ≤ cb j) (k3 : us.length ≤ 3) : ∃ t, Got K H mo tb own (j + 1) false (.ref p) t := by
  obtain ⟨d1, d2⟩ := gives_deep fun u hu => (g u hu).2.2
  have c : 1 + counts us ≤ cb (j + 1) := by
    show 1 + counts us ≤ 1 + 3 * cb j
    have := Nat.mul_le_mul_right (cb j) k3
    omega
  have al : (us.map Tm.isW).all (! ·) = true := by
    rw [List.all_map]
    exact List.all_eq_true.mpr fun u hu => by
      show (!u.isW) = true
      rw [(g u hu).2.1]
      rfl
  cases b with
  | true => exact ⟨.mk .alt us, .tup e (.cons (.str _) r), .mk (decide_eq_true (hb rfl)) al (fun u hu => (g u hu).1) rfl, rfl, Nat.succ_le_succ d1, by rw [count_eq]; exact c⟩
  | false => exact ⟨.mk .seq us, .tup e (.cons (.str _) r), .mk rfl al (fun u hu => (g u hu).1) rfl, rfl, Nat.succ_le_succ d1, by rw [count_eq]; exact c⟩
theorem got_wrap {K : PySem.W.Frag} {H : Hp} {mo : Int} {tb : Tbl} {own : List (Str × Bool)} {j : Nat} {p : Addr} {v1 v2 : V} {t1 t2 : Tm} (e : SqT K H p [V.str "wrap", v1, v2]) (g1 : Got K H mo tb own j true v1 t1) (g2 : Got K H mo tb own j false v2 t2) : ∃ t, Got K H mo tb own (j + 1) false (.ref p) t := by
  refine ⟨.mk .wrp [t1, t2], .tup e (.cons (.str _) (.cons g1.dp (.cons g2.dp .nil))), .mk rfl ?_ ?_ rfl, rfl, ?_, ?_⟩
  · show decide ([t1.isW, t2.isW] = [true, false]) = true
    rw [g1.kind, g2.kind]
    rfl
  · intro u hu
    rcases List.mem_cons.mp hu with rfl | hu
    · exact g1.good
    · rw [List.mem_singleton.mp hu]
      exact g2.good
  · show max t1.deep (max t2.deep 0) + 1 ≤ j + 1
    have := g1.deep
    have := g2.deep
    omega
  · rw [count_eq]
    show 1 + counts [t1, t2] ≤ 1 + 3 * cb j
    have := g1.few
    have := g2.few
    rw [counts_cons, counts_cons]
    show 1 + (t1.count + (t2.count + 0)) ≤ _
    omega
theorem last_block {o : List (Str × Bool)} (h : o.length - 1 < o.length) (e : (o[o.length - 1]).2 = false) : o.map (·.2) = (o.take (o.length - 1)).map (·.2) ++ [false] := by
  have : o.take (o.length - 1) ++ [o[o.length - 1]] = o := by
    rw [List.take_append_getElem h, show o.length - 1 + 1 = o.length by omega, List.take_length]
  conv => lhs; rw [← this, List.map_append]
  show _ ++ [(o[o.length - 1]).2] = _
  rw [e]
theorem kd_block {b : Bool} (h : decide (V.str (kd b) = V.str "block") = true) : b = false := by
  cases b with
  | false => rfl
  | true => exact absurd (V.str.inj (of_decide_eq_true h)) (by decide +kernel)
end FS

set_option Elab.async false
set_option linter.all false
set_option maxRecDepth 100000
set_option maxHeartbeats 4000000
namespace FS
open PySem PySem.Spec PyProof.Rows L2
section
variable {P : Program} {w : World} {K : PySem.W.Frag} {mg : Str → Option Value} {base : Heap}
abbrev N_law_any_wrap : List Str := ["_law_die", "_law_modes", "_law_table", "_law_own", "_law_deep", "_law_wraps", "_law_some", "_law_name", "_law_kinds", "_law_given", "_law_one"]
theorem sc_law_any_wrap : FnScope N_law_any_wrap ["_law_die", "_law_modes", "_law_table", "_law_own", "_law_deep"] (defScope s_law_any_wrap) := ⟨rfl, rfl, rfl, by decide +kernel, rfl, by decide +kernel, by decide +kernel⟩
theorem ok_l_any_wrap {f : Addr} {fd : FuncData} (F : Fun K "_law_any_wrap" "_law_any_wrap" s_law_any_wrap f fd) (T : Nm K mg) {n k : Nat} (hk : 2 ≤ k) (Cl_own_names : Cal P w K mg base 1 "_law_own_names" ["_law_own", "_law_kind"] (spOwn K)) (Cl_cast : Cal P w K mg base 1 "_law_cast" ["_law_die", "_law_total"] spCast) (Cl_pick : Cal P w K mg base 2 "_law_pick" ["_law_die", "_law_items"] (spPick K)) (Cl_any_given : Cal P w K mg base k "_law_any_given" ["_law_die", "_law_modes", "_law_table", "_law_own", "_law_kinds", "_law_deep"] (spGiven K n)) : FnOk P w K mg base CX0 (k + 1) f fd ["_law_die", "_law_modes", "_law_table", "_law_own", "_law_deep"] (spWrap K (n + 1)) := by
  have nd := sc_law_any_wrap.nd
  refine F.ok sc_law_any_wrap (fun vs H Q E h => ?_) (fun cdv A outer s H vs Q E hr h => ?_)
  · obtain ⟨D, ta, m, tb, ov, own, rfl, ak, n1, n6, q0, q⟩ := h
    rfl
  · obtain ⟨D, ta, m, tb, ov, own, rfl, ak, n1, n6, q0, q⟩ := h
    skip
    refine ⟨_, (pss_cons (ps_set (i := 5) nd rfl (Or.inl rfl) (pe_own Cl_own_names (hr.mono (by omega)) (by rfl) (pa_cons (pv 3) (pa_cons pe_str pa_nil))))
  (pss_cons (ps_if (PW.pt (pw_and (pt_cmpR (op_neD hr.units) (pv 5) (pe_lst pa_nil) (nomark _)) (pw_and1 (pt_cmpR op_eq (pe_own Cl_cast (hr.mono (by omega)) (by rfl) (pa_cons (pv 0) (pa_cons pe_int pa_nil))) pe_int (nomark _)))))
  (pss_one (ps_ret (pe_tup (pa_cons pe_str (pa_cons (pe_own Cl_pick (hr.mono (by omega)) (by rfl) (pa_cons (pv 0) (pa_cons (pv 5) pa_nil))) pa_nil)))))
  pss_nil)
  (pss_cons (ps_setLc (i := 6) (own := [("_law_name", 7)]) (g := gName 7) rfl nd rfl rfl (sw_true rfl rfl rfl (by decide +kernel)) (pi_list (pe_callB (call_sortedD rfl) (by rfl) T.b_sorted (by decide +kernel) (pa_cons (pv 2) pa_nil))) (blkOk_by (own := [("_law_name", 7)]) (N := N_law_any_wrap) (sc := defScope s_law_any_wrap) (by decide +kernel)) (fun _ _ _ _ _ => (pg_name (i := 7) nd rfl (Or.inl rfl))) (fun _ _ _ _ _ => pts_one (pt_cmpR (op_neDK (K := K) rfl hr.units) (pe_slice (sl_tupK (K := K) rfl) (pe_dget (u1 hr) (pv 2) (pv 7) (fun _ _ => rfl)) (po_some (pe_un un_neg pe_int)) po_none) (pe_tup pa_nil) (nomark _))) (fun _ _ _ _ _ => (pv 7)))
  (pss_cons (ps_setLc (i := 6) (own := [("_law_name", 7)]) (g := gName 7) rfl nd rfl rfl (sw_true rfl rfl rfl (by decide +kernel)) (pi_list (pv 6)) (blkOk_by (own := [("_law_name", 7)]) (N := N_law_any_wrap) (sc := defScope s_law_any_wrap) (by decide +kernel)) (fun _ _ _ _ _ => (pg_name (i := 7) nd rfl (Or.inl rfl))) (fun _ _ _ _ _ => pts_one (pt_cmpR op_eq (pe_ix (ix_tupK (K := K) rfl) (pe_ix (ix_tupK (K := K) rfl) (pe_dget (u1 hr) (pv 2) (pv 7) (fun _ _ => rfl)) (pe_un un_neg pe_int) (fun _ _ => rfl)) pe_int (fun _ _ => rfl)) pe_str (nomark _))) (fun _ _ _ _ _ => (pv 7)))
  (pss_cons (ps_if (PW.pt (pw_and (pt_cmpR (op_neD hr.units) (pv 6) (pe_lst pa_nil) (nomark _)) (pw_and1 (pt_cmpR op_gt (pv 4) pe_int (nomark _)))))
  (pss_cons (ps_set (i := 7) nd rfl (Or.inl rfl) (pe_own Cl_pick (hr.mono (by omega)) (by rfl) (pa_cons (pv 0) (pa_cons (pv 6) pa_nil))))
  (pss_cons (ps_setLc (i := 8) (own := [("_law_one", 10)]) (g := gName 10) (tt := tYes) rfl nd rfl rfl (sw_true rfl rfl rfl (by decide +kernel)) (pi_tup (pe_slice sl_tupA (pe_dget (u1 hr) (pv 2) (pv 7) (fun _ _ => rfl)) po_none (po_some (pe_un un_neg pe_int)))) (blkOk_by (own := [("_law_one", 10)]) (N := N_law_any_wrap) (sc := defScope s_law_any_wrap) (by decide +kernel)) (fun _ _ _ _ _ => (pg_name (i := 10) nd rfl (Or.inl rfl))) (fun _ _ _ _ _ => pts_nil) (fun _ _ _ _ _ => (pe_ix (ix_tupK (K := K) rfl) (pv 10) pe_int (fun _ _ => rfl))))
  (pss_cons (ps_set (i := 9) nd rfl (Or.inl rfl) (pe_own Cl_any_given (hr.mono (by omega)) (by rfl) (pa_cons (pv 0) (pa_cons (pv 1) (pa_cons (pv 2) (pa_cons (pv 3) (pa_cons (pv 8) (pa_cons (pe_op op_sub (pv 4) pe_int) pa_nil))))))))
  (pss_one (ps_if (pt_cmpR op_notN (pv 9) pe_non (nomark _))
  (pss_one (ps_ret (pe_op op_catA (pe_tup (pa_cons pe_str (pa_cons (pv 7) pa_nil))) (pv 9))))
  pss_nil)))))
  pss_nil)
  (pss_one (ps_ret (pe_ifExp (pt_cmpR (op_neD hr.units) (pv 5) (pe_lst pa_nil) (nomark _)) (pe_tup (pa_cons pe_str (pa_cons (pe_ix ix_list (pv 5) pe_int (fun _ _ => rfl)) pa_nil))) pe_non)))))))), ?_⟩

    have po := ak.po
    refine ⟨_, rfl, ov, own, true, rfl, ak.par, by have := po.few; omega, fun H1 p1 s1 np1 e1 => ?_⟩
    have g1 : Go D H H1 := .of ak.die s1
    have np1D := ak.die.ne np1
    have nf := names_few po true
    refine ⟨_, rfl, Nat.zero_le _, fun p2 n2 => ?_⟩
    have g2 := g1.same (same_upd (o := .lst []) n2)
    have e2 := same_upd (o := .lst []) n2 _ _ e1
    refine ne_nil e2 upd_same (fun z hz => names_word po hz) ?_
    refine ⟨_, rfl, ite2 (fun e => ?A) (fun e => ?B)⟩
    case' A =>
      refine ⟨_, rfl, D, 2, rfl, g2.2, by omega, by omega, fun r HH r0 r1 g3 f3 => ?_⟩
      have gg := g2.trans g3
      have ee := g3.1 _ _ np1D e2
      refine ⟨rfl, _, rfl, ite2 (fun _ => ?C) (fun _ => ?D)⟩
      case' C =>
        have ne : (namesOf own true).map V.str ≠ [] := fun z => by
          cases hn : namesOf own true with
          | nil => rw [hn] at e; cases e
          | cons a b => rw [hn] at z; cases z
        refine ⟨_, rfl, _, rfl, D, p1, _, gg.2, rfl, .inl (.inl ee), np1D, ne, by rw [List.length_map]; omega, fun v H4 hv g4 f4 => ?_⟩
        obtain ⟨z, hz, rfl⟩ := List.mem_map.mp hv
        refine ⟨by show 2 ≤ sizeLine; decide, fun p5 n5 => ?_⟩
        obtain ⟨t, gt⟩ := got_leaf (K := K) (H := upd H4 p5 (.tup [V.str "own", V.str z])) (k := true) n1 (.inl (.inl upd_same)) (names_ok hz)
        exact q _ _ t ((gg.trans g4).same (same_upd n5)) gt
      case' D => clear r0 r1 g3 f3
    case' B =>
      generalize upd H1 p2 (.lst []) = HH at g2 e2 ⊢
      have gg := g2
      have ee := e2
    all_goals
      clear e2 g2 g1 s1 e1 n2
      have ak2 := ak.go gg
      obtain ⟨kvs, ht, tv, t8⟩ := ak2.tab
      refine ⟨_, rfl, ta, kvs, tb.map (·.1), rfl, .of ht, tv.keys, by rw [List.length_map]; omega, fun ys p3 pm so n3 => ?_⟩
      have s3 := same_upd (o := .lst (ys.map V.str)) n3
      have e3 : upd HH p3 (.lst (ys.map V.str)) p3 = some (.lst (ys.map V.str)) := upd_same
      generalize upd HH p3 (.lst (ys.map V.str)) = H3 at s3 e3 ⊢
      have ht3 := s3 _ _ ht
      have tv3 := tv.tk (.of s3)
      have ly : ys.length ≤ 8 := by rw [pm.length_eq, List.length_map]; exact t8
      refine ⟨p3, rfl, ⟨_, .inl (.inl e3)⟩, fun L nL => ?_⟩
      refine lc_list (xs := ys.map V.str) (fun i H' => Same H3 H' ∧ ∃ zs : List Str, H' L = some (.lst (zs.map V.str)) ∧ zs.length ≤ i ∧ ∀ z ∈ zs, z ∈ tb.map (·.1) ∧ ∀ o, tb.lookup z = some o → o ≠ []) ⟨same_upd nL, [], upd_same, Nat.le_refl _, (fun _ h => nomatch h)⟩ (fun i H' hi h => .inl (.inl (h.1 _ _ e3))) (fun i x H4 hx h => ?_) (fun H4 h => ?_)
      · obtain ⟨sm, zs, eL, lz, hz⟩ := h
        rw [List.getElem?_map] at hx
        obtain ⟨nm, hnm, rfl⟩ := Option.map_eq_some_iff.mp hx
        have mnm : nm ∈ tb.map (·.1) := pm.mem_iff.mp (List.mem_of_getElem? hnm)
        have li := (List.getElem?_eq_some_iff.mp hnm).1
        obtain ⟨v, o, hv, dv, po', mo, wd, lk⟩ := (tv3.tk (.of sm)).get mnm
        obtain ⟨av, xs, rfl, sv, rv⟩ := Dp.tup_inv (show Dp K H4 v (.tuple (o.map parD)) from dv)
        have lo : xs.length = o.length := by rw [DpAll.len rv, List.length_map]
        have dg : DGet H4 ta (.str nm) (some (V.ref av)) := hv ▸ DGet.k (k := Sum.inr nm) (sm _ _ ht3)
        refine ⟨rfl, _, rfl, _, rfl, ta, _, rfl, dg, ?_⟩
        refine ⟨_, rfl, _, rfl, ?_⟩
        dsimp only [tNoPart]
        refine cut_last sv (fun H5 p5 s5 sq5 => ?_)
        refine ⟨Nat.zero_le _, fun p6 n6' => ?_⟩
        have s6 := s5.trans (same_upd (o := .tup []) n6')
        have pd := po'.sub (List.drop_sublist (o.length - 1) o)
        have rd := DpAll.drop (xs.length - 1) rv
        rw [← List.map_drop, lo] at rd
        refine ⟨.tuple ((o.drop (o.length - 1)).map parD), .tuple [], .tup (Same.sqT (same_upd n6') sq5) (by rw [lo]; exact DpAll.stay (.of s6) (pars_noL (o.drop (o.length - 1))) rd), .tup (.inl (.inl upd_same)) .nil, pars_shaped pd, rfl, _, rfl, ?_⟩
        rw [eqv_pars, last_empty]
        refine ite2 (fun eo => ?_) (fun eo => ?_)
        · refine ⟨_, rfl, _, s6 _ _ eL, by rw [List.length_map]; exact small1000 (by omega), Same.set (sm.trans s6) nL, zs ++ [nm], ?_, ?_, ?_⟩
          · rw [upd_same, List.map_append]
            rfl
          · rw [List.length_append]
            show _ + 1 ≤ _
            omega
          · intro z hz'
            rcases List.mem_append.mp hz' with h | h
            · exact hz z h
            · rw [List.mem_singleton.mp h]
              refine ⟨mnm, fun o2 h2 => ?_⟩
              rw [lk] at h2
              cases Option.some.inj h2
              intro z0
              rw [z0] at eo
              cases eo
        · exact ⟨sm.trans s6, zs, s6 _ _ eL, by omega, hz⟩
      · obtain ⟨sm, zs, eL, lz, hz⟩ := h
        rw [List.length_map] at lz
        have gg4 := gg.same (s3.trans sm)
        have ee4 := sm _ _ (s3 _ _ ee)
        have ht4 := sm _ _ ht3
        have tv4 := tv3.tk (.of sm)
        clear sm ht3 tv3 e3 ht tv s3 ee gg ak2 nL
        refine ⟨_, rfl, L, rfl, ⟨_, .inl (.inl eL)⟩, fun LB nLB => ?_⟩
        refine lc_list (xs := zs.map V.str) (fun i H' => Same H4 H' ∧ ∃ ws : List Str, H' LB = some (.lst (ws.map V.str)) ∧ ws.length ≤ i ∧ (∀ z ∈ ws, z ∈ tb.map (·.1)) ∧ ∀ z ∈ ws, ∀ o, tb.lookup z = some o → o.map (·.2) = (o.take (o.length - 1)).map (·.2) ++ [false]) ⟨same_upd nLB, [], upd_same, Nat.le_refl _, (fun _ h => nomatch h), (fun _ h => nomatch h)⟩ (fun i H' hi h => .inl (.inl (h.1 _ _ eL))) (fun i x H5 hx h => ?_) (fun H5 h => ?_)
        · obtain ⟨sm, ws, eLB, lw, hw, hq⟩ := h
          rw [List.getElem?_map] at hx
          obtain ⟨nm, hnm, rfl⟩ := Option.map_eq_some_iff.mp hx
          obtain ⟨mnm, hne⟩ := hz nm (List.mem_of_getElem? hnm)
          have li := (List.getElem?_eq_some_iff.mp hnm).1
          obtain ⟨v, o, hv, dv, po', mo, wd, lk⟩ := (tv4.tk (.of sm)).get mnm
          have on := hne o lk
          obtain ⟨av, xs, rfl, sv, rv⟩ := Dp.tup_inv (show Dp K H5 v (.tuple (o.map parD)) from dv)
          have lo : xs.length = o.length := by rw [DpAll.len rv, List.length_map]
          have dg : DGet H5 ta (.str nm) (some (V.ref av)) := hv ▸ DGet.k (k := Sum.inr nm) (sm _ _ ht4)
          have hl : o.length - 1 < o.length := by
            have := List.length_pos_iff.mpr on
            omega
          obtain ⟨y, hy, dy⟩ := DpAll.put rv (i := o.length - 1) (d := parD o[o.length - 1]) (by rw [List.getElem?_map, List.getElem?_eq_getElem hl]; rfl)
          obtain ⟨b, ys2, rfl, sb, rb⟩ := Dp.tup_inv (show Dp K H5 y (.tuple [.str o[o.length - 1].1, .str (kd o[o.length - 1].2)]) from dy)
          cases rb with
          | cons y1 rb => cases rb with
            | cons y2 rb =>
            cases rb
            cases Dp.str_inv y1
            cases Dp.str_inv y2
            have al : atI xs (-1) = some (V.ref b) := at_last (by rw [lo]; exact hy)
            refine ⟨rfl, _, rfl, _, rfl, ta, _, rfl, dg, _, rfl, av, xs, -1, _, rfl, rfl, sv, al, b, _, 1, _, rfl, rfl, sb, at1, rfl, _, rfl, ?_⟩
            refine ite2 (fun eo => ?_) (fun eo => ?_)
            · refine ⟨_, rfl, _, eLB, by rw [List.length_map]; exact small1000 (by omega), Same.set sm nLB, ws ++ [nm], ?_, ?_, ?_, ?_⟩
              · rw [upd_same, List.map_append]
                rfl
              · rw [List.length_append]
                show _ + 1 ≤ _
                omega
              · intro z hz'
                rcases List.mem_append.mp hz' with h | h
                · exact hw z h
                · rw [List.mem_singleton.mp h]
                  exact mnm
              · intro z hz' o2 h2
                rcases List.mem_append.mp hz' with h | h
                · exact hq z h o2 h2
                · rw [List.mem_singleton.mp h, lk] at h2
                  cases Option.some.inj h2
                  exact last_block hl (kd_block eo)
            · exact ⟨sm, ws, eLB, by omega, hw, hq⟩
        · obtain ⟨sm, ws, eLB, lw, hw, hq⟩ := h
          rw [List.length_map] at lw
          have gg5 := gg4.same sm
          have ee5 := sm _ _ ee4
          have ht5 := sm _ _ ht4
          have tv5 := tv4.tk (.of sm)
          have wo : ∀ z ∈ ws, PyData.strOk z = true := fun z h => by
            obtain ⟨_, _, _, _, _, _, wd, _⟩ := tv5.get (hw z h)
            exact (word_ok wd).1
          have nLBD := gg4.2.ne nLB
          clear sm ht4 tv4 ee4 gg4 nLB eL hz
          refine ⟨_, rfl, Nat.zero_le _, fun p7 n7 => ?_⟩
          have gg7 := gg5.same (same_upd (o := .lst []) n7)
          have ee7 := same_upd (o := .lst []) n7 _ _ ee5
          have eL7 := same_upd (o := .lst []) n7 _ _ eLB
          have ht7 := same_upd (o := .lst []) n7 _ _ ht5
          have tv7 := tv5.tk (.of (same_upd (o := .lst []) n7))
          refine ne_nil eL7 upd_same wo ?_
          generalize upd H5 p7 (.lst []) = H7 at gg7 ee7 eL7 ht7 tv7 ⊢
          clear tv5 ht5 ee5 gg5 n7 eLB
          refine ⟨_, rfl, ite2 (fun ew => ?_) (fun ew => ?_)⟩
          have ne : ws.map V.str ≠ [] := fun z => by
            cases hn : ws with
            | nil => rw [hn] at ew; cases ew
            | cons a b => rw [hn] at z; cases z
          refine ⟨_, rfl, _, _, rfl, rfl, _, rfl, ite2 (fun _ => ?_) (fun z => absurd (decide_eq_true (by omega)) z)⟩
          refine ⟨_, rfl, _, rfl, D, LB, _, gg7.2, rfl, .inl (.inl eL7), nLBD, ne, by rw [List.length_map]; omega, fun v H8 hv8 g8 f8 => ?_⟩
          obtain ⟨nm, hnm, rfl⟩ := List.mem_map.mp hv8
          have gg8 := gg7.trans g8
          have ee8 := g8.1 _ _ np1D ee7
          have ak8 := ak.go gg8
          have ht8 := f8 ta (fun z => by
            subst z
            obtain ⟨x, y, w', q'⟩ := gg7.2
            rw [ht7] at q'
            cases q')
          rw [ht7] at ht8
          obtain ⟨v, o, hv, dv, po', mo, wd, lk⟩ := (tv7.tk (g8.tk gg7.2)).get (hw nm hnm)
          obtain ⟨av, xs, rfl, sv, rv⟩ := Dp.tup_inv (show Dp K H8 v (.tuple (o.map parD)) from dv)
          have lo : xs.length = o.length := by rw [DpAll.len rv, List.length_map]
          have dg : DGet H8 ta (.str nm) (some (V.ref av)) := hv ▸ DGet.k (k := Sum.inr nm) ht8
          have o3 := po'.few
          clear hv8 g8 f8 gg7 ee7 eL7 ht7 tv7 hv
          refine ⟨_, rfl, _, rfl, ta, _, rfl, dg, ?_⟩
          dsimp only [tNoPart]
          refine ⟨_, rfl, _, rfl, ?_⟩
          refine cut_init sv (fun H9 p9 s9 sq9 => ?_)
          have dxs : DpAll K H9 (xs.take (xs.length - 1)) ((o.take (o.length - 1)).map parD) := by
            rw [List.map_take, lo]
            exact DpAll.take9 _ (DpAll.stay (.of s9) (pars_noL o) rv)
          refine ⟨p9, rfl, ⟨_, sq9⟩, fun LK nLK => ?_⟩
          have lk9 : (xs.take (xs.length - 1)).length ≤ 3 := by
            rw [List.length_take]
            omega
          refine lc_tup (xs := xs.take (xs.length - 1)) (fun i H' => Same H9 H' ∧ H' LK = some (.lst (((((o.take (o.length - 1)).take i).map (·.2)).map kd).map V.str))) ⟨same_upd nLK, upd_same⟩ (fun i H' hi h => Same.sqT h.1 sq9) (fun i x G1 hx h => ?_) (fun G1 h => ?_)
          · obtain ⟨sm, eK⟩ := h
            obtain ⟨d, hd, dx'⟩ := DpAll.get (DpAll.stay (.of sm) (pars_noL _) dxs) hx
            rw [List.getElem?_map] at hd
            obtain ⟨z, hz, rfl⟩ := Option.map_eq_some_iff.mp hd
            have li := (List.getElem?_eq_some_iff.mp hx).1
            obtain ⟨b, ys2, rfl, sb, rb⟩ := Dp.tup_inv (show Dp K G1 x (.tuple [.str z.1, .str (kd z.2)]) from dx')
            cases rb with
            | cons y1 rb => cases rb with
              | cons y2 rb =>
              cases rb
              cases Dp.str_inv y1
              cases Dp.str_inv y2
              refine ⟨rfl, _, rfl, b, _, 1, _, rfl, rfl, sb, at1, _, eK, ?_, Same.set sm nLK, ?_⟩
              · rw [List.length_map, List.length_map, List.length_map, List.length_take]
                exact Nat.lt_of_le_of_lt (Nat.min_le_left _ _) (small1000 (by omega))
              · rw [upd_same, take_more hz, List.map_append, List.map_append, List.map_append]
                rfl
          · obtain ⟨sm, eK⟩ := h
            have le : (xs.take (xs.length - 1)).length = (o.take (o.length - 1)).length := by rw [List.length_take, List.length_take, lo]
            rw [le, List.take_length] at eK
            have gg10 := gg8.same (s9.trans sm)
            have ee10 := sm _ _ (s9 _ _ ee8)
            have nKD := gg8.2.ne (Same.free s9 nLK)
            clear s9 sm ee8 gg8 dxs sq9 nLK ht8
            refine ⟨_, rfl, _, rfl, _, rfl, _, rfl, _, rfl, _, rfl, _, _, rfl, rfl, ?_⟩
            refine ⟨D, ta, LK, m, tb, ov, own, (o.take (o.length - 1)).map (·.2), congrArg (fun z => [V.ref D, V.int m, V.ref ta, ov, V.ref LK, V.int z]) (by omega : ((n + 1 : Nat) : Int) - 1 = (n : Int)), ak.go gg10, by omega, eK, nKD, by rw [List.length_map]; omega, fun G2 g11 => ?_, fun pg vs' us G2 g11 sg rg gv => ?_⟩
            rotate_left
            · -- with
              refine ⟨_, rfl, rfl, _, rfl, iteT ?_⟩
              refine ⟨_, rfl, by show 2 ≤ sizeLine; decide, fun p12 n12 => ?_⟩
              have s12 := same_upd (o := .tup [V.str "with", V.str nm]) n12
              refine ⟨_, rfl, ?_⟩
              have lv : vs'.length ≤ 3 := by
                rw [DpAll.len rg, datas_len, ← List.length_map (f := Tm.isW), gv.2, List.length_map]
                omega
              refine cat_tup (.inl (.inl upd_same)) (Same.sqT s12 sg) (List.cons_ne_nil _ _) (by show 2 + vs'.length < 16000; omega) fun G3 p13 s13 sq13 => ?_
              have s14 := s12.trans s13
              obtain ⟨t, gt⟩ := got_call (K := K) (H := G3) (own := own) true wd sq13 (DpAll.tk (.of s14) (noL_datas _) rg) gv (by rw [List.length_map]; omega) (by rw [lk]; exact congrArg some (hq nm hnm o lk))
              exact q _ _ t ((gg10.trans g11).same s14) gt
            refine ⟨_, rfl, rfl, _, rfl, iteF ?_⟩
            have gg7 := gg10.trans g11
            have ee7 := g11.1 _ _ np1D ee10
            refine ⟨_, rfl, Nat.zero_le _, fun p15 n15 => ?_⟩
            refine ne_nil (same_upd n15 _ _ ee7) upd_same (fun z hz => names_word po hz) ?_
            have g15 := gg7.same (same_upd (o := .lst []) n15)
            have e15 := same_upd (o := .lst []) n15 _ _ ee7
            generalize upd G2 p15 (.lst []) = G4 at g15 e15 ⊢
            refine ⟨_, rfl, ite2 (fun ez => ?_) (fun ez => ?_)⟩
            · cases hn : namesOf own true with
              | nil => rw [hn] at ez; cases ez
              | cons z0 zr =>
                rw [hn] at e15
                refine ⟨_, rfl, p1, _, 0, _, rfl, rfl, .inl (.inl e15), at0, by show 2 ≤ sizeLine; decide, fun p16 n16 => ?_⟩
                obtain ⟨t, gt⟩ := got_leaf (K := K) (H := upd G4 p16 (.tup [V.str "own", V.str z0])) (k := true) n1 (.inl (.inl upd_same)) (names_ok (by rw [hn]; exact List.mem_cons_self))
                exact q _ _ t (g15.same (same_upd n16)) gt
            · exact q0 _ g15
          refine ⟨_, rfl, Nat.zero_le _, fun p15 n15 => ?_⟩
          refine ne_nil (same_upd n15 _ _ ee7) upd_same (fun z hz => names_word po hz) ?_
          have g15 := gg7.same (same_upd (o := .lst []) n15)
          have e15 := same_upd (o := .lst []) n15 _ _ ee7
          generalize upd H7 p15 (.lst []) = G4 at g15 e15 ⊢
          refine ⟨_, rfl, ite2 (fun ez => ?_) (fun ez => ?_)⟩
          · cases hn : namesOf own true with
            | nil => rw [hn] at ez; cases ez
            | cons z0 zr =>
              rw [hn] at e15
              refine ⟨_, rfl, p1, _, 0, _, rfl, rfl, .inl (.inl e15), at0, by show 2 ≤ sizeLine; decide, fun p16 n16 => ?_⟩
              obtain ⟨t, gt⟩ := got_leaf (K := K) (H := upd G4 p16 (.tup [V.str "own", V.str z0])) (k := true) n1 (.inl (.inl upd_same)) (names_ok (by rw [hn]; exact List.mem_cons_self))
              exact q _ _ t (g15.same (same_upd n16)) gt
          · exact q0 _ g15
end
end FS

set_option Elab.async false
set_option linter.all false
set_option maxRecDepth 100000
set_option maxHeartbeats 4000000
namespace FS
open PySem PySem.Spec PyProof.Rows L2
section
variable {P : Program} {w : World} {K : PySem.W.Frag} {mg : Str → Option Value} {base : Heap}
abbrev N_law_any_term : List Str := ["_law_die", "_law_modes", "_law_table", "_law_own", "_law_deep", "_law_way", "_law_blocks", "_law_many", "_law_some", "_law_name", "_law_kinds", "_law_given", "_law_wrap", "_law_turn", "_law_one"]
theorem sc_law_any_term : FnScope N_law_any_term ["_law_die", "_law_modes", "_law_table", "_law_own", "_law_deep"] (defScope s_law_any_term) := ⟨rfl, rfl, rfl, by decide +kernel, rfl, by decide +kernel, by decide +kernel⟩
theorem ok_l_any_term {f : Addr} {fd : FuncData} (F : Fun K "_law_any_term" "_law_any_term" s_law_any_term f fd) (T : Nm K mg) {n k : Nat} (hk : 3 ≤ k) (Cl_own_names : Cal P w K mg base 1 "_law_own_names" ["_law_own", "_law_kind"] (spOwn K)) (Cl_cast : Cal P w K mg base 1 "_law_cast" ["_law_die", "_law_total"] spCast) (Cl_pick : Cal P w K mg base 2 "_law_pick" ["_law_die", "_law_items"] (spPick K)) (Cl_any_deed : Cal P w K mg base 3 "_law_any_deed" ["_law_die", "_law_modes"] (spDeed K)) (Cl_any_given : Cal P w K mg base k "_law_any_given" ["_law_die", "_law_modes", "_law_table", "_law_own", "_law_kinds", "_law_deep"] (spGiven K n)) (Cl_any_wrap : Cal P w K mg base k "_law_any_wrap" ["_law_die", "_law_modes", "_law_table", "_law_own", "_law_deep"] (spWrap K n)) (Cl_any_term : Cal P w K mg base k "_law_any_term" ["_law_die", "_law_modes", "_law_table", "_law_own", "_law_deep"] (spTermD K n)) : FnOk P w K mg base CX0 (k + 1) f fd ["_law_die", "_law_modes", "_law_table", "_law_own", "_law_deep"] (spTermD K (n + 1)) := by
  have nd := sc_law_any_term.nd
  refine F.ok sc_law_any_term (fun vs H Q E h => ?_) (fun cdv A outer s H vs Q E hr h => ?_)
  · obtain ⟨D, ta, m, tb, ov, own, rfl, ak, n1, n6, q⟩ := h
    rfl
  · obtain ⟨D, ta, m, tb, ov, own, rfl, ak, n1, n6, q⟩ := h
    skip
    refine ⟨_, (pss_cons (ps_set (i := 5) nd rfl (Or.inl rfl) (pe_own Cl_pick (hr.mono (by omega)) (by rfl) (pa_cons (pv 0) (pa_cons (pe_lst (pa_cons pe_str (pa_cons pe_str (pa_cons pe_str (pa_cons pe_str (pa_cons pe_str (pa_cons pe_str (pa_cons pe_str pa_nil)))))))) pa_nil))))
  (pss_cons (ps_set (i := 5) nd rfl (Or.inl rfl) (pe_ifExp (pt_cmpR op_gt (pv 4) pe_int (nomark _)) (pv 5) (pe_own Cl_pick (hr.mono (by omega)) (by rfl) (pa_cons (pv 0) (pa_cons (pe_lst (pa_cons pe_str (pa_cons pe_str pa_nil))) pa_nil)))))
  (pss_cons (ps_set (i := 6) nd rfl (Or.inl rfl) (pe_own Cl_own_names (hr.mono (by omega)) (by rfl) (pa_cons (pv 3) (pa_cons pe_str pa_nil))))
  (pss_cons (ps_if (PW.pt (pw_and (pt_cmpR op_eq (pv 5) pe_str (nomark _)) (pw_and1 (pt_cmpR (op_neD hr.units) (pv 6) (pe_lst pa_nil) (nomark _)))))
  (pss_one (ps_ret (pe_tup (pa_cons pe_str (pa_cons (pe_own Cl_pick (hr.mono (by omega)) (by rfl) (pa_cons (pv 0) (pa_cons (pv 6) pa_nil))) pa_nil)))))
  pss_nil)
  (pss_cons (ps_if (pt_cmpR op_in_seq (pv 5) (pe_tup (pa_cons pe_str (pa_cons pe_str pa_nil))) (by rfl))
  (pss_cons (ps_set (i := 7) nd rfl (Or.inl rfl) (pe_op op_add (pe_own Cl_cast (hr.mono (by omega)) (by rfl) (pa_cons (pv 0) (pa_cons pe_int pa_nil))) (pe_callTy call_int1 (by rfl) T.b_int (by decide +kernel) (pa_cons (pe_cmpR op_eq (pv 5) pe_str (nomark _)) pa_nil))))
  (pss_cons (ps_setLc (i := 8) (own := [("_law_turn", 13)]) (g := gName 13) (tt := tYes) rfl nd rfl rfl (sw_true rfl rfl rfl (by decide +kernel)) (pi_range1 rfl T.b_range (pa_cons (pv 7) pa_nil)) (blkOk_by (own := [("_law_turn", 13)]) (N := N_law_any_term) (sc := defScope s_law_any_term) (by decide +kernel)) (fun _ _ _ _ _ => (pg_name (i := 13) nd rfl (Or.inl rfl))) (fun _ _ _ _ _ => pts_nil) (fun _ _ _ _ _ => (pe_own Cl_any_term (hr.mono (by omega)) (by rfl) (pa_cons (pv 0) (pa_cons (pv 1) (pa_cons (pv 2) (pa_cons (pv 3) (pa_cons (pe_op op_sub (pv 4) pe_int) pa_nil))))))))
  (pss_one (ps_ret (pe_op op_catA (pe_tup (pa_cons (pv 5) pa_nil)) (pe_callTy call_tuple_of (by rfl) T.b_tuple (by decide +kernel) (pa_cons (pv 8) pa_nil)))))))
  pss_nil)
  (pss_cons (ps_if (pt_cmpR op_eq (pv 5) pe_str (nomark _))
  (pss_cons (ps_set (i := 9) nd rfl (Or.inl rfl) (pe_own Cl_pick (hr.mono (by omega)) (by rfl) (pa_cons (pv 0) (pa_cons (pe_callB (call_sortedD rfl) (by rfl) T.b_sorted (by decide +kernel) (pa_cons (pv 2) pa_nil)) pa_nil))))
  (pss_cons (ps_setLc (i := 10) (own := [("_law_one", 14)]) (g := gName 14) (tt := tYes) rfl nd rfl rfl (sw_true rfl rfl rfl (by decide +kernel)) (pi_tup (pe_dget (u1 hr) (pv 2) (pv 9) (fun _ _ => rfl))) (blkOk_by (own := [("_law_one", 14)]) (N := N_law_any_term) (sc := defScope s_law_any_term) (by decide +kernel)) (fun _ _ _ _ _ => (pg_name (i := 14) nd rfl (Or.inl rfl))) (fun _ _ _ _ _ => pts_nil) (fun _ _ _ _ _ => (pe_ix (ix_tupK (K := K) rfl) (pv 14) pe_int (fun _ _ => rfl))))
  (pss_cons (ps_set (i := 11) nd rfl (Or.inl rfl) (pe_own Cl_any_given (hr.mono (by omega)) (by rfl) (pa_cons (pv 0) (pa_cons (pv 1) (pa_cons (pv 2) (pa_cons (pv 3) (pa_cons (pv 10) (pa_cons (pe_op op_sub (pv 4) pe_int) pa_nil))))))))
  (pss_one (ps_if (pt_cmpR op_notN (pv 11) pe_non (nomark _))
  (pss_one (ps_ret (pe_op op_catA (pe_tup (pa_cons pe_str (pa_cons (pv 9) pa_nil))) (pv 11))))
  pss_nil)))))
  pss_nil)
  (pss_cons (ps_if (pt_cmpR op_eq (pv 5) pe_str (nomark _))
  (pss_cons (ps_set (i := 12) nd rfl (Or.inl rfl) (pe_own Cl_any_wrap (hr.mono (by omega)) (by rfl) (pa_cons (pv 0) (pa_cons (pv 1) (pa_cons (pv 2) (pa_cons (pv 3) (pa_cons (pe_op op_sub (pv 4) pe_int) pa_nil)))))))
  (pss_one (ps_if (pt_cmpR op_notN (pv 12) pe_non (nomark _))
  (pss_one (ps_ret (pe_tup (pa_cons pe_str (pa_cons (pv 12) (pa_cons (pe_own Cl_any_term (hr.mono (by omega)) (by rfl) (pa_cons (pv 0) (pa_cons (pv 1) (pa_cons (pv 2) (pa_cons (pv 3) (pa_cons (pe_op op_sub (pv 4) pe_int) pa_nil)))))) pa_nil))))))
  pss_nil)))
  pss_nil)
  (pss_one (ps_ret (pe_own Cl_any_deed (hr.mono (by omega)) (by rfl) (pa_cons (pv 0) (pa_cons (pv 1) pa_nil)))))))))))), ?_⟩

    have po := ak.po
    have nf := names_few po false
    refine ⟨_, rfl, by show 7 ≤ sizeLine; decide, fun p1 n1' => ?_⟩
    have g1 : Go D H (upd H p1 (.lst [V.str "seq", V.str "or", V.str "call", V.str "run", V.str "wrap", V.str "do", V.str "call"])) := .new ak.die n1'
    have e1 : upd H p1 (.lst [V.str "seq", V.str "or", V.str "call", V.str "run", V.str "wrap", V.str "do", V.str "call"]) p1 = some (.lst [V.str "seq", V.str "or", V.str "call", V.str "run", V.str "wrap", V.str "do", V.str "call"]) := upd_same
    have np1 := ak.die.ne n1'
    generalize upd H p1 (.lst [V.str "seq", V.str "or", V.str "call", V.str "run", V.str "wrap", V.str "do", V.str "call"]) = H1 at g1 e1 ⊢
    refine ⟨D, p1, _, g1.2, rfl, .inl (.inl e1), np1, (fun z => nomatch z), by show 7 < 1000; decide, fun v HA hv gA _ => ?_⟩
    have hv2 : ∃ wy : Str, v = .str wy ∧ (wy = "do" ∨ wy = "run" ∨ wy = "seq" ∨ wy = "or" ∨ wy = "call" ∨ wy = "wrap") := by
      simp only [List.mem_cons, List.not_mem_nil, or_false] at hv
      rcases hv with rfl | rfl | rfl | rfl | rfl | rfl | rfl <;> exact ⟨_, rfl, by simp⟩
    obtain ⟨wy0, rfl, hwy⟩ := hv2
    have gA1 := g1.trans gA
    clear hv gA g1 e1 n1'
    refine ⟨_, rfl, _, _, rfl, rfl, _, rfl, ite2 (fun ed => ?_) (fun ed => ?_)⟩
    rotate_left
    · refine ⟨_, rfl, by show 2 ≤ sizeLine; decide, fun p2 n2' => ?_⟩
      have g2 := gA1.same (same_upd (o := .lst [V.str "do", V.str "run"]) n2')
      have e2 : upd HA p2 (.lst [V.str "do", V.str "run"]) p2 = some (.lst [V.str "do", V.str "run"]) := upd_same
      have np2 := gA1.2.ne n2'
      generalize upd HA p2 (.lst [V.str "do", V.str "run"]) = H2 at g2 e2 ⊢
      clear gA1 hwy
      refine ⟨D, p2, _, g2.2, rfl, .inl (.inl e2), np2, (fun z => nomatch z), by show 2 < 1000; decide, fun v HB hv gB _ => ?_⟩
      have hv2 : ∃ wy : Str, v = .str wy ∧ (wy = "do" ∨ wy = "run" ∨ ((wy = "seq" ∨ wy = "or" ∨ wy = "call" ∨ wy = "wrap") ∧ 1 ≤ n)) := by
        simp only [List.mem_cons, List.not_mem_nil, or_false] at hv
        rcases hv with rfl | rfl <;> exact ⟨_, rfl, by simp⟩
      obtain ⟨wy, rfl, hw⟩ := hv2
      have gH := g2.trans gB
      clear hv gB g2 e2 n2'
      have akH := ak.go gH
      refine ⟨_, rfl, ov, own, false, rfl, akH.par, by have := po.few; omega, fun HC pb sC nb eb => ?_⟩
      have gC := gH.same sC
      have npb := gH.2.ne nb
      clear akH
      rcases hw with rfl | rfl | ⟨rfl | rfl | rfl | rfl, hn⟩
      · -- do
        refine ⟨_, rfl, rfl, _, rfl, iteF ?_⟩
        refine ⟨_, rfl, by show 2 ≤ sizeLine; decide, fun pi ni => ?_⟩
        have gi := (gC).same (same_upd (o := .tup ([("seq" : Str), "or"].map V.str)) ni)
        have si := same_upd (o := .tup ([("seq" : Str), "or"].map V.str)) ni
        refine ⟨pi, [("seq" : Str), "or"].map V.str, rfl, .inr (.inl (.inl upd_same)), rfl, flat_strs _, _, rfl, ?_⟩
        rw [inV_strs]
        change Go D H (upd HC pi (.tup [V.str "seq", V.str "or"])) at gi
        change Same HC (upd HC pi (.tup [V.str "seq", V.str "or"])) at si
        generalize upd HC pi (.tup [V.str "seq", V.str "or"]) = HI at gi si ⊢
        refine iteF ?_
        refine ⟨_, rfl, rfl, _, rfl, iteF ?_⟩
        refine ⟨_, rfl, rfl, _, rfl, iteF ?_⟩
        refine ⟨_, rfl, _, rfl, D, m, rfl, (gi).2, ak.m1, ak.m3, fun v G9 t g9 gt => ?_⟩
        exact q v G9 t ((gi).trans g9) (got_up (gt tb own))
      · -- run
        refine ⟨_, rfl, rfl, _, rfl, iteT ?_⟩
        refine ⟨_, rfl, Nat.zero_le _, fun p3 n3 => ?_⟩
        refine ne_nil (same_upd n3 _ _ eb) upd_same (fun z hz => names_word po hz) ?_
        have gD := gC.same (same_upd (o := .lst []) n3)
        have eD := same_upd (o := .lst []) n3 _ _ eb
        generalize upd HC p3 (.lst []) = HD at gD eD ⊢
        refine ⟨_, rfl, ite2 (fun e => ?_) (fun e => ?_)⟩
        · have ne : (namesOf own false).map V.str ≠ [] := fun z => by
            cases hz : namesOf own false with
            | nil => rw [hz] at e; cases e
            | cons a b => rw [hz] at z; cases z
          refine ⟨_, rfl, _, rfl, D, pb, _, gD.2, rfl, .inl (.inl eD), npb, ne, by rw [List.length_map]; omega, fun v H4 hv g4 f4 => ?_⟩
          obtain ⟨z, hz, rfl⟩ := List.mem_map.mp hv
          refine ⟨by show 2 ≤ sizeLine; decide, fun p5 n5 => ?_⟩
          obtain ⟨t, gt⟩ := got_leaf (K := K) (H := upd H4 p5 (.tup [V.str "run", V.str z])) (k := false) n1 (.inl (.inl upd_same)) (names_ok hz)
          exact q _ _ t ((gD.trans g4).same (same_upd n5)) gt
        · refine ⟨_, rfl, by show 2 ≤ sizeLine; decide, fun pi ni => ?_⟩
          have gi := (gD).same (same_upd (o := .tup ([("seq" : Str), "or"].map V.str)) ni)
          have si := same_upd (o := .tup ([("seq" : Str), "or"].map V.str)) ni
          refine ⟨pi, [("seq" : Str), "or"].map V.str, rfl, .inr (.inl (.inl upd_same)), rfl, flat_strs _, _, rfl, ?_⟩
          rw [inV_strs]
          change Go D H (upd HD pi (.tup [V.str "seq", V.str "or"])) at gi
          change Same HD (upd HD pi (.tup [V.str "seq", V.str "or"])) at si
          generalize upd HD pi (.tup [V.str "seq", V.str "or"]) = HI at gi si ⊢
          refine iteF ?_
          refine ⟨_, rfl, rfl, _, rfl, iteF ?_⟩
          refine ⟨_, rfl, rfl, _, rfl, iteF ?_⟩
          refine ⟨_, rfl, _, rfl, D, m, rfl, (gi).2, ak.m1, ak.m3, fun v G9 t g9 gt => ?_⟩
          exact q v G9 t ((gi).trans g9) (got_up (gt tb own))
      · -- seq
        refine ⟨_, rfl, rfl, _, rfl, iteF ?_⟩
        refine ⟨_, rfl, by show 2 ≤ sizeLine; decide, fun pi ni => ?_⟩
        have gi := (gC).same (same_upd (o := .tup ([("seq" : Str), "or"].map V.str)) ni)
        have si := same_upd (o := .tup ([("seq" : Str), "or"].map V.str)) ni
        refine ⟨pi, [("seq" : Str), "or"].map V.str, rfl, .inr (.inl (.inl upd_same)), rfl, flat_strs _, _, rfl, ?_⟩
        rw [inV_strs]
        change Go D H (upd HC pi (.tup [V.str "seq", V.str "or"])) at gi
        change Same HC (upd HC pi (.tup [V.str "seq", V.str "or"])) at si
        generalize upd HC pi (.tup [V.str "seq", V.str "or"]) = HI at gi si ⊢
        refine iteT ?_
        refine ⟨_, rfl, D, 3, rfl, gi.2, by omega, by omega, fun r HE r0 r1 gE fE => ?_⟩
        refine ⟨_, rfl, rfl, .inr ⟨_, rfl, ?_⟩⟩
        refine ⟨_, _, rfl, rfl, ?_⟩
        obtain ⟨M, rfl⟩ : ∃ M : Nat, r = (M : Int) := ⟨r.toNat, by omega⟩
        have hd : decide (V.str ("seq" : Str) = V.str "or") = false := by decide +kernel
        rw [hd]
        simp only [Bool.false_eq_true, if_false, if_true, Int.add_zero]
        have gE2 := gi.trans gE
        refine ⟨_, rfl, _, rfl, by omega, by omega, fun L nL => ?_⟩
        have nLD := gE2.2.ne nL
        have nL0 : H L = none := by
          cases e : H L with
          | none => rfl
          | some o =>
            rw [gE2.1 _ _ nLD e] at nL
            cases nL
        refine lc_range (lo := 0) (n := (M : Int).toNat) (fun i H' => Go D H H' ∧ ∃ (vs : List V) (us : List Tm), us.length = i ∧ H' L = some (.lst vs) ∧ DpAll K H' vs (datas us) ∧ ∀ u ∈ us, GF m tb own u ∧ u.isW = false ∧ u.deep ≤ n ∧ u.count ≤ cb n) ⟨gE2.upd nL0 nLD, [], [], rfl, upd_same, .nil, (fun _ h => nomatch h)⟩ (fun i H5 hi h => ?_) (fun H5 h => ?_)
        · obtain ⟨g5, vs, us, lu, eL, ru, hu⟩ := h
          refine ⟨rfl, _, rfl, _, rfl, _, rfl, _, rfl, _, rfl, _, _, rfl, rfl, ?_⟩
          refine ⟨D, ta, m, tb, ov, own, congrArg (fun z => [V.ref D, V.int m, V.ref ta, ov, V.int z]) (by omega : ((n + 1 : Nat) : Int) - 1 = (n : Int)), ak.go g5, hn, by omega, fun v H6 t g6 gt => ?_⟩
          have eL6 := g6.1 _ _ nLD eL
          have st := Stay.set (ys := vs ++ [v]) eL6
          have tk6 := (g6.tk g5.2).trans (.stay st)
          refine ⟨vs, eL6, ?_, (g5.trans g6).upd nL0 nLD, vs ++ [v], us ++ [t], ?_, upd_same, ?_, ?_⟩
          · rw [DpAll.len ru, datas_len, lu]
            exact small1000 (by omega)
          · rw [List.length_append, lu]
            rfl
          · rw [datas_app]
            exact DpAll.app (DpAll.tk tk6 (noL_datas _) ru) (.cons (Dp.tk (.stay st) t.noL gt.dp) .nil)
          · intro u h
            rcases List.mem_append.mp h with h | h
            · exact hu u h
            · rw [List.mem_singleton.mp h]
              exact ⟨gt.good, gt.kind, gt.deep, gt.few⟩
        · obtain ⟨g5, vs, us, lu, eL, ru, hu⟩ := h
          have lv : vs.length = us.length := by rw [DpAll.len ru, datas_len]
          refine ⟨_, rfl, by show 1 ≤ sizeLine; decide, fun p6 n6' => ?_⟩
          have s6 := same_upd (o := .tup [V.str "seq"]) n6'
          have eL6 := s6 _ _ eL
          refine ⟨_, rfl, L, vs, rfl, .inl ⟨.inl (.inl eL6), fun p7 n7 => ?_⟩⟩
          have s7 := same_upd (o := .tup vs) n7
          refine cat_tup (Same.sqT s7 (.inl (.inl upd_same))) (.inl (.inl upd_same)) (List.cons_ne_nil _ _) (by show 1 + vs.length < 16000; omega) fun G p8 s8 sq8 => ?_
          have s9 := (s6.trans s7).trans s8
          obtain ⟨t, gt⟩ := got_seq (K := K) (H := G) (own := own) false (fun z => nomatch z) sq8 (DpAll.tk (.of s9) (noL_datas _) ru) hu (by omega)
          exact q _ _ t (g5.same s9) gt
      · -- or
        refine ⟨_, rfl, rfl, _, rfl, iteF ?_⟩
        refine ⟨_, rfl, by show 2 ≤ sizeLine; decide, fun pi ni => ?_⟩
        have gi := (gC).same (same_upd (o := .tup ([("seq" : Str), "or"].map V.str)) ni)
        have si := same_upd (o := .tup ([("seq" : Str), "or"].map V.str)) ni
        refine ⟨pi, [("seq" : Str), "or"].map V.str, rfl, .inr (.inl (.inl upd_same)), rfl, flat_strs _, _, rfl, ?_⟩
        rw [inV_strs]
        change Go D H (upd HC pi (.tup [V.str "seq", V.str "or"])) at gi
        change Same HC (upd HC pi (.tup [V.str "seq", V.str "or"])) at si
        generalize upd HC pi (.tup [V.str "seq", V.str "or"]) = HI at gi si ⊢
        refine iteT ?_
        refine ⟨_, rfl, D, 3, rfl, gi.2, by omega, by omega, fun r HE r0 r1 gE fE => ?_⟩
        refine ⟨_, rfl, rfl, .inr ⟨_, rfl, ?_⟩⟩
        refine ⟨_, _, rfl, rfl, ?_⟩
        obtain ⟨M, rfl⟩ : ∃ M : Nat, r = (M : Int) := ⟨r.toNat, by omega⟩
        have hd : decide (V.str ("or" : Str) = V.str "or") = true := by decide +kernel
        rw [hd]
        simp only [Bool.false_eq_true, if_false, if_true, Int.add_zero]
        have gE2 := gi.trans gE
        refine ⟨_, rfl, _, rfl, by omega, by omega, fun L nL => ?_⟩
        have nLD := gE2.2.ne nL
        have nL0 : H L = none := by
          cases e : H L with
          | none => rfl
          | some o =>
            rw [gE2.1 _ _ nLD e] at nL
            cases nL
        refine lc_range (lo := 0) (n := ((M : Int) + 1).toNat) (fun i H' => Go D H H' ∧ ∃ (vs : List V) (us : List Tm), us.length = i ∧ H' L = some (.lst vs) ∧ DpAll K H' vs (datas us) ∧ ∀ u ∈ us, GF m tb own u ∧ u.isW = false ∧ u.deep ≤ n ∧ u.count ≤ cb n) ⟨gE2.upd nL0 nLD, [], [], rfl, upd_same, .nil, (fun _ h => nomatch h)⟩ (fun i H5 hi h => ?_) (fun H5 h => ?_)
        · obtain ⟨g5, vs, us, lu, eL, ru, hu⟩ := h
          refine ⟨rfl, _, rfl, _, rfl, _, rfl, _, rfl, _, rfl, _, _, rfl, rfl, ?_⟩
          refine ⟨D, ta, m, tb, ov, own, congrArg (fun z => [V.ref D, V.int m, V.ref ta, ov, V.int z]) (by omega : ((n + 1 : Nat) : Int) - 1 = (n : Int)), ak.go g5, hn, by omega, fun v H6 t g6 gt => ?_⟩
          have eL6 := g6.1 _ _ nLD eL
          have st := Stay.set (ys := vs ++ [v]) eL6
          have tk6 := (g6.tk g5.2).trans (.stay st)
          refine ⟨vs, eL6, ?_, (g5.trans g6).upd nL0 nLD, vs ++ [v], us ++ [t], ?_, upd_same, ?_, ?_⟩
          · rw [DpAll.len ru, datas_len, lu]
            exact small1000 (by omega)
          · rw [List.length_append, lu]
            rfl
          · rw [datas_app]
            exact DpAll.app (DpAll.tk tk6 (noL_datas _) ru) (.cons (Dp.tk (.stay st) t.noL gt.dp) .nil)
          · intro u h
            rcases List.mem_append.mp h with h | h
            · exact hu u h
            · rw [List.mem_singleton.mp h]
              exact ⟨gt.good, gt.kind, gt.deep, gt.few⟩
        · obtain ⟨g5, vs, us, lu, eL, ru, hu⟩ := h
          have lv : vs.length = us.length := by rw [DpAll.len ru, datas_len]
          refine ⟨_, rfl, by show 1 ≤ sizeLine; decide, fun p6 n6' => ?_⟩
          have s6 := same_upd (o := .tup [V.str "or"]) n6'
          have eL6 := s6 _ _ eL
          refine ⟨_, rfl, L, vs, rfl, .inl ⟨.inl (.inl eL6), fun p7 n7 => ?_⟩⟩
          have s7 := same_upd (o := .tup vs) n7
          refine cat_tup (Same.sqT s7 (.inl (.inl upd_same))) (.inl (.inl upd_same)) (List.cons_ne_nil _ _) (by show 1 + vs.length < 16000; omega) fun G p8 s8 sq8 => ?_
          have s9 := (s6.trans s7).trans s8
          obtain ⟨t, gt⟩ := got_seq (K := K) (H := G) (own := own) true (fun _ => by omega) sq8 (DpAll.tk (.of s9) (noL_datas _) ru) hu (by omega)
          exact q _ _ t (g5.same s9) gt
      · -- call
        refine ⟨_, rfl, rfl, _, rfl, iteF ?_⟩
        refine ⟨_, rfl, by show 2 ≤ sizeLine; decide, fun pi ni => ?_⟩
        have gi := (gC).same (same_upd (o := .tup ([("seq" : Str), "or"].map V.str)) ni)
        have si := same_upd (o := .tup ([("seq" : Str), "or"].map V.str)) ni
        refine ⟨pi, [("seq" : Str), "or"].map V.str, rfl, .inr (.inl (.inl upd_same)), rfl, flat_strs _, _, rfl, ?_⟩
        rw [inV_strs]
        change Go D H (upd HC pi (.tup [V.str "seq", V.str "or"])) at gi
        change Same HC (upd HC pi (.tup [V.str "seq", V.str "or"])) at si
        generalize upd HC pi (.tup [V.str "seq", V.str "or"]) = HI at gi si ⊢
        refine iteF ?_
        refine ⟨_, rfl, rfl, _, rfl, iteT ?_⟩
        have akC := ak.go gi
        obtain ⟨kvs, ht, tv, t8⟩ := akC.tab
        refine ⟨_, rfl, _, rfl, ta, kvs, tb.map (·.1), rfl, .of ht, tv.keys, by rw [List.length_map]; omega, fun ys p3 pm so n3 => ?_⟩
        have s3 := same_upd (o := .lst (ys.map V.str)) n3
        have e3 : upd HI p3 (.lst (ys.map V.str)) p3 = some (.lst (ys.map V.str)) := upd_same
        have np3 := gi.2.ne n3
        generalize upd HI p3 (.lst (ys.map V.str)) = H3 at s3 e3 ⊢
        have g3 := gi.same s3
        have ht3 := s3 _ _ ht
        have tv3 := tv.tk (.of s3)
        have ly : ys.length ≤ 8 := by rw [pm.length_eq, List.length_map]; exact t8
        have ne : ys.map V.str ≠ [] := fun z => by
          have l1 : ys.length = 0 := by rw [← List.length_map (f := V.str), z]; rfl
          have l2 := pm.length_eq
          rw [List.length_map] at l2
          exact ak.ne (List.eq_nil_of_length_eq_zero (by omega))
        refine ⟨D, p3, _, g3.2, rfl, .inl (.inl e3), np3, ne, by rw [List.length_map]; omega, fun v H8 hv8 g8 f8 => ?_⟩
        obtain ⟨nm, hnm, rfl⟩ := List.mem_map.mp hv8
        have gg8 := g3.trans g8
        have ht8 := f8 ta (fun z => by
          subst z
          obtain ⟨x, y, w', q'⟩ := g3.2
          rw [ht3] at q'
          cases q')
        rw [ht3] at ht8
        obtain ⟨v, o, hv, dv, po', mo, wd, lk⟩ := (tv3.tk (g8.tk g3.2)).get (pm.mem_iff.mp hnm)
        obtain ⟨av, xs, rfl, sv, rv⟩ := Dp.tup_inv (show Dp K H8 v (.tuple (o.map parD)) from dv)
        have lo : xs.length = o.length := by rw [DpAll.len rv, List.length_map]
        have dg : DGet H8 ta (.str nm) (some (V.ref av)) := hv ▸ DGet.k (k := Sum.inr nm) ht8
        have o3 := po'.few
        clear hv8 g8 f8 g3 e3 ht3 tv3 hv ht tv akC s3
        refine ⟨_, rfl, _, rfl, ta, _, rfl, dg, av, rfl, ⟨xs, sv⟩, fun LK nLK => ?_⟩
        refine lc_tup (xs := xs) (fun i H' => Same H8 H' ∧ H' LK = some (.lst ((((o.take i).map (·.2)).map kd).map V.str))) ⟨same_upd nLK, upd_same⟩ (fun i H' hi h => Same.sqT h.1 sv) (fun i x G1 hx h => ?_) (fun G1 h => ?_)
        · obtain ⟨sm, eK⟩ := h
          obtain ⟨d, hd, dx'⟩ := DpAll.get (DpAll.stay (.of sm) (pars_noL o) rv) hx
          rw [List.getElem?_map] at hd
          obtain ⟨z, hz, rfl⟩ := Option.map_eq_some_iff.mp hd
          have li := (List.getElem?_eq_some_iff.mp hx).1
          obtain ⟨b, ys2, rfl, sb, rb⟩ := Dp.tup_inv (show Dp K G1 x (.tuple [.str z.1, .str (kd z.2)]) from dx')
          cases rb with
          | cons y1 rb => cases rb with
            | cons y2 rb =>
            cases rb
            cases Dp.str_inv y1
            cases Dp.str_inv y2
            refine ⟨rfl, _, rfl, b, _, 1, _, rfl, rfl, sb, at1, _, eK, ?_, Same.set sm nLK, ?_⟩
            · rw [List.length_map, List.length_map, List.length_map, List.length_take]
              exact Nat.lt_of_le_of_lt (Nat.min_le_left _ _) (small1000 (by omega))
            · rw [upd_same, take_more hz, List.map_append, List.map_append, List.map_append]
              rfl
        · obtain ⟨sm, eK⟩ := h
          rw [lo, List.take_length] at eK
          have gg10 := gg8.same sm
          have nKD := gg8.2.ne nLK
          refine ⟨_, rfl, _, rfl, _, rfl, _, rfl, _, rfl, _, rfl, _, _, rfl, rfl, ?_⟩
          refine ⟨D, ta, LK, m, tb, ov, own, o.map (·.2), congrArg (fun z => [V.ref D, V.int m, V.ref ta, ov, V.ref LK, V.int z]) (by omega : ((n + 1 : Nat) : Int) - 1 = (n : Int)), ak.go gg10, by omega, eK, nKD, by rw [List.length_map]; omega, fun G2 g11 => ?_, fun pg vs' us G2 g11 sg rg gv => ?_⟩
          · refine ⟨_, rfl, rfl, _, rfl, iteF ?_⟩
            refine ⟨_, rfl, rfl, _, rfl, iteF ?_⟩
            refine ⟨_, rfl, _, rfl, D, m, rfl, (gg10.trans g11).2, ak.m1, ak.m3, fun v G9 t g9 gt => ?_⟩
            exact q v G9 t ((gg10.trans g11).trans g9) (got_up (gt tb own))
          · refine ⟨_, rfl, rfl, _, rfl, iteT ?_⟩
            refine ⟨_, rfl, by show 2 ≤ sizeLine; decide, fun p12 n12 => ?_⟩
            have s12 := same_upd (o := .tup [V.str "call", V.str nm]) n12
            refine ⟨_, rfl, ?_⟩
            have lv : vs'.length ≤ 3 := by
              rw [DpAll.len rg, datas_len, ← List.length_map (f := Tm.isW), gv.2, List.length_map]
              omega
            refine cat_tup (.inl (.inl upd_same)) (Same.sqT s12 sg) (List.cons_ne_nil _ _) (by show 2 + vs'.length < 16000; omega) fun G3 p13 s13 sq13 => ?_
            have s14 := s12.trans s13
            obtain ⟨t, gt⟩ := got_call (K := K) (H := G3) (own := own) false wd sq13 (DpAll.tk (.of s14) (noL_datas _) rg) gv (by rw [List.length_map]; omega) (by rw [lk]; rfl)
            exact q _ _ t ((gg10.trans g11).same s14) gt
      · -- wrap
        refine ⟨_, rfl, rfl, _, rfl, iteF ?_⟩
        refine ⟨_, rfl, by show 2 ≤ sizeLine; decide, fun pi ni => ?_⟩
        have gi := (gC).same (same_upd (o := .tup ([("seq" : Str), "or"].map V.str)) ni)
        have si := same_upd (o := .tup ([("seq" : Str), "or"].map V.str)) ni
        refine ⟨pi, [("seq" : Str), "or"].map V.str, rfl, .inr (.inl (.inl upd_same)), rfl, flat_strs _, _, rfl, ?_⟩
        rw [inV_strs]
        change Go D H (upd HC pi (.tup [V.str "seq", V.str "or"])) at gi
        change Same HC (upd HC pi (.tup [V.str "seq", V.str "or"])) at si
        generalize upd HC pi (.tup [V.str "seq", V.str "or"]) = HI at gi si ⊢
        refine iteF ?_
        refine ⟨_, rfl, rfl, _, rfl, iteF ?_⟩
        refine ⟨_, rfl, rfl, _, rfl, iteT ?_⟩
        refine ⟨_, rfl, _, rfl, _, rfl, _, rfl, _, rfl, _, _, rfl, rfl, ?_⟩
        refine ⟨D, ta, m, tb, ov, own, congrArg (fun z => [V.ref D, V.int m, V.ref ta, ov, V.int z]) (by omega : ((n + 1 : Nat) : Int) - 1 = (n : Int)), ak.go gi, hn, by omega, fun H5 g5 => ?_, fun v1 H5 t1 g5 gt1 => ?_⟩
        · refine ⟨_, rfl, rfl, _, rfl, iteF ?_⟩
          refine ⟨_, rfl, _, rfl, D, m, rfl, (gi.trans g5).2, ak.m1, ak.m3, fun v G9 t g9 gt => ?_⟩
          exact q v G9 t ((gi.trans g5).trans g9) (got_up (gt tb own))
        · have nv : (!decide (v1 = V.non)) = true := by
            rw [decide_eq_false (got_ne gt1)]
            rfl
          refine ⟨_, rfl, rfl, _, rfl, ?_⟩
          rw [nv]
          refine iteT ?_
          have g15 := gi.trans g5
          refine ⟨_, rfl, _, rfl, _, rfl, _, rfl, _, rfl, _, rfl, _, _, rfl, rfl, ?_⟩
          refine ⟨D, ta, m, tb, ov, own, congrArg (fun z => [V.ref D, V.int m, V.ref ta, ov, V.int z]) (by omega : ((n + 1 : Nat) : Int) - 1 = (n : Int)), ak.go g15, hn, by omega, fun v2 H6 t2 g6 gt2 => ?_⟩
          refine ⟨by show 3 ≤ sizeLine; decide, fun p7 n7 => ?_⟩
          have s7 := same_upd (o := .tup [V.str "wrap", v1, v2]) n7
          obtain ⟨t, gt⟩ := got_wrap (K := K) (H := upd H6 p7 (.tup [V.str "wrap", v1, v2])) (own := own) (.inl (.inl upd_same)) (gt1.tk ((g6.tk g15.2).trans (.of s7))) (gt2.tk (.of s7))
          exact q _ _ t ((g15.trans g6).same s7) gt
    · have hn1 : 1 ≤ n := by
        have := of_decide_eq_true ed
        omega
      have hw : wy0 = "do" ∨ wy0 = "run" ∨ ((wy0 = "seq" ∨ wy0 = "or" ∨ wy0 = "call" ∨ wy0 = "wrap") ∧ 1 ≤ n) := by
        rcases hwy with h | h | h | h | h | h
        · exact .inl h
        · exact .inr (.inl h)
        · exact .inr (.inr ⟨.inl h, hn1⟩)
        · exact .inr (.inr ⟨.inr (.inl h), hn1⟩)
        · exact .inr (.inr ⟨.inr (.inr (.inl h)), hn1⟩)
        · exact .inr (.inr ⟨.inr (.inr (.inr h)), hn1⟩)
      have gH := gA1
      refine ⟨_, rfl, ?_⟩
      have akH := ak.go gH
      refine ⟨_, rfl, ov, own, false, rfl, akH.par, by have := po.few; omega, fun HC pb sC nb eb => ?_⟩
      have gC := gH.same sC
      have npb := gH.2.ne nb
      clear akH
      rcases hw with rfl | rfl | ⟨rfl | rfl | rfl | rfl, hn⟩
      · -- do
        refine ⟨_, rfl, rfl, _, rfl, iteF ?_⟩
        refine ⟨_, rfl, by show 2 ≤ sizeLine; decide, fun pi ni => ?_⟩
        have gi := (gC).same (same_upd (o := .tup ([("seq" : Str), "or"].map V.str)) ni)
        have si := same_upd (o := .tup ([("seq" : Str), "or"].map V.str)) ni
        refine ⟨pi, [("seq" : Str), "or"].map V.str, rfl, .inr (.inl (.inl upd_same)), rfl, flat_strs _, _, rfl, ?_⟩
        rw [inV_strs]
        change Go D H (upd HC pi (.tup [V.str "seq", V.str "or"])) at gi
        change Same HC (upd HC pi (.tup [V.str "seq", V.str "or"])) at si
        generalize upd HC pi (.tup [V.str "seq", V.str "or"]) = HI at gi si ⊢
        refine iteF ?_
        refine ⟨_, rfl, rfl, _, rfl, iteF ?_⟩
        refine ⟨_, rfl, rfl, _, rfl, iteF ?_⟩
        refine ⟨_, rfl, _, rfl, D, m, rfl, (gi).2, ak.m1, ak.m3, fun v G9 t g9 gt => ?_⟩
        exact q v G9 t ((gi).trans g9) (got_up (gt tb own))
      · -- run
        refine ⟨_, rfl, rfl, _, rfl, iteT ?_⟩
        refine ⟨_, rfl, Nat.zero_le _, fun p3 n3 => ?_⟩
        refine ne_nil (same_upd n3 _ _ eb) upd_same (fun z hz => names_word po hz) ?_
        have gD := gC.same (same_upd (o := .lst []) n3)
        have eD := same_upd (o := .lst []) n3 _ _ eb
        generalize upd HC p3 (.lst []) = HD at gD eD ⊢
        refine ⟨_, rfl, ite2 (fun e => ?_) (fun e => ?_)⟩
        · have ne : (namesOf own false).map V.str ≠ [] := fun z => by
            cases hz : namesOf own false with
            | nil => rw [hz] at e; cases e
            | cons a b => rw [hz] at z; cases z
          refine ⟨_, rfl, _, rfl, D, pb, _, gD.2, rfl, .inl (.inl eD), npb, ne, by rw [List.length_map]; omega, fun v H4 hv g4 f4 => ?_⟩
          obtain ⟨z, hz, rfl⟩ := List.mem_map.mp hv
          refine ⟨by show 2 ≤ sizeLine; decide, fun p5 n5 => ?_⟩
          obtain ⟨t, gt⟩ := got_leaf (K := K) (H := upd H4 p5 (.tup [V.str "run", V.str z])) (k := false) n1 (.inl (.inl upd_same)) (names_ok hz)
          exact q _ _ t ((gD.trans g4).same (same_upd n5)) gt
        · refine ⟨_, rfl, by show 2 ≤ sizeLine; decide, fun pi ni => ?_⟩
          have gi := (gD).same (same_upd (o := .tup ([("seq" : Str), "or"].map V.str)) ni)
          have si := same_upd (o := .tup ([("seq" : Str), "or"].map V.str)) ni
          refine ⟨pi, [("seq" : Str), "or"].map V.str, rfl, .inr (.inl (.inl upd_same)), rfl, flat_strs _, _, rfl, ?_⟩
          rw [inV_strs]
          change Go D H (upd HD pi (.tup [V.str "seq", V.str "or"])) at gi
          change Same HD (upd HD pi (.tup [V.str "seq", V.str "or"])) at si
          generalize upd HD pi (.tup [V.str "seq", V.str "or"]) = HI at gi si ⊢
          refine iteF ?_
          refine ⟨_, rfl, rfl, _, rfl, iteF ?_⟩
          refine ⟨_, rfl, rfl, _, rfl, iteF ?_⟩
          refine ⟨_, rfl, _, rfl, D, m, rfl, (gi).2, ak.m1, ak.m3, fun v G9 t g9 gt => ?_⟩
          exact q v G9 t ((gi).trans g9) (got_up (gt tb own))
      · -- seq
        refine ⟨_, rfl, rfl, _, rfl, iteF ?_⟩
        refine ⟨_, rfl, by show 2 ≤ sizeLine; decide, fun pi ni => ?_⟩
        have gi := (gC).same (same_upd (o := .tup ([("seq" : Str), "or"].map V.str)) ni)
        have si := same_upd (o := .tup ([("seq" : Str), "or"].map V.str)) ni
        refine ⟨pi, [("seq" : Str), "or"].map V.str, rfl, .inr (.inl (.inl upd_same)), rfl, flat_strs _, _, rfl, ?_⟩
        rw [inV_strs]
        change Go D H (upd HC pi (.tup [V.str "seq", V.str "or"])) at gi
        change Same HC (upd HC pi (.tup [V.str "seq", V.str "or"])) at si
        generalize upd HC pi (.tup [V.str "seq", V.str "or"]) = HI at gi si ⊢
        refine iteT ?_
        refine ⟨_, rfl, D, 3, rfl, gi.2, by omega, by omega, fun r HE r0 r1 gE fE => ?_⟩
        refine ⟨_, rfl, rfl, .inr ⟨_, rfl, ?_⟩⟩
        refine ⟨_, _, rfl, rfl, ?_⟩
        obtain ⟨M, rfl⟩ : ∃ M : Nat, r = (M : Int) := ⟨r.toNat, by omega⟩
        have hd : decide (V.str ("seq" : Str) = V.str "or") = false := by decide +kernel
        rw [hd]
        simp only [Bool.false_eq_true, if_false, if_true, Int.add_zero]
        have gE2 := gi.trans gE
        refine ⟨_, rfl, _, rfl, by omega, by omega, fun L nL => ?_⟩
        have nLD := gE2.2.ne nL
        have nL0 : H L = none := by
          cases e : H L with
          | none => rfl
          | some o =>
            rw [gE2.1 _ _ nLD e] at nL
            cases nL
        refine lc_range (lo := 0) (n := (M : Int).toNat) (fun i H' => Go D H H' ∧ ∃ (vs : List V) (us : List Tm), us.length = i ∧ H' L = some (.lst vs) ∧ DpAll K H' vs (datas us) ∧ ∀ u ∈ us, GF m tb own u ∧ u.isW = false ∧ u.deep ≤ n ∧ u.count ≤ cb n) ⟨gE2.upd nL0 nLD, [], [], rfl, upd_same, .nil, (fun _ h => nomatch h)⟩ (fun i H5 hi h => ?_) (fun H5 h => ?_)
        · obtain ⟨g5, vs, us, lu, eL, ru, hu⟩ := h
          refine ⟨rfl, _, rfl, _, rfl, _, rfl, _, rfl, _, rfl, _, _, rfl, rfl, ?_⟩
          refine ⟨D, ta, m, tb, ov, own, congrArg (fun z => [V.ref D, V.int m, V.ref ta, ov, V.int z]) (by omega : ((n + 1 : Nat) : Int) - 1 = (n : Int)), ak.go g5, hn, by omega, fun v H6 t g6 gt => ?_⟩
          have eL6 := g6.1 _ _ nLD eL
          have st := Stay.set (ys := vs ++ [v]) eL6
          have tk6 := (g6.tk g5.2).trans (.stay st)
          refine ⟨vs, eL6, ?_, (g5.trans g6).upd nL0 nLD, vs ++ [v], us ++ [t], ?_, upd_same, ?_, ?_⟩
          · rw [DpAll.len ru, datas_len, lu]
            exact small1000 (by omega)
          · rw [List.length_append, lu]
            rfl
          · rw [datas_app]
            exact DpAll.app (DpAll.tk tk6 (noL_datas _) ru) (.cons (Dp.tk (.stay st) t.noL gt.dp) .nil)
          · intro u h
            rcases List.mem_append.mp h with h | h
            · exact hu u h
            · rw [List.mem_singleton.mp h]
              exact ⟨gt.good, gt.kind, gt.deep, gt.few⟩
        · obtain ⟨g5, vs, us, lu, eL, ru, hu⟩ := h
          have lv : vs.length = us.length := by rw [DpAll.len ru, datas_len]
          refine ⟨_, rfl, by show 1 ≤ sizeLine; decide, fun p6 n6' => ?_⟩
          have s6 := same_upd (o := .tup [V.str "seq"]) n6'
          have eL6 := s6 _ _ eL
          refine ⟨_, rfl, L, vs, rfl, .inl ⟨.inl (.inl eL6), fun p7 n7 => ?_⟩⟩
          have s7 := same_upd (o := .tup vs) n7
          refine cat_tup (Same.sqT s7 (.inl (.inl upd_same))) (.inl (.inl upd_same)) (List.cons_ne_nil _ _) (by show 1 + vs.length < 16000; omega) fun G p8 s8 sq8 => ?_
          have s9 := (s6.trans s7).trans s8
          obtain ⟨t, gt⟩ := got_seq (K := K) (H := G) (own := own) false (fun z => nomatch z) sq8 (DpAll.tk (.of s9) (noL_datas _) ru) hu (by omega)
          exact q _ _ t (g5.same s9) gt
      · -- or
        refine ⟨_, rfl, rfl, _, rfl, iteF ?_⟩
        refine ⟨_, rfl, by show 2 ≤ sizeLine; decide, fun pi ni => ?_⟩
        have gi := (gC).same (same_upd (o := .tup ([("seq" : Str), "or"].map V.str)) ni)
        have si := same_upd (o := .tup ([("seq" : Str), "or"].map V.str)) ni
        refine ⟨pi, [("seq" : Str), "or"].map V.str, rfl, .inr (.inl (.inl upd_same)), rfl, flat_strs _, _, rfl, ?_⟩
        rw [inV_strs]
        change Go D H (upd HC pi (.tup [V.str "seq", V.str "or"])) at gi
        change Same HC (upd HC pi (.tup [V.str "seq", V.str "or"])) at si
        generalize upd HC pi (.tup [V.str "seq", V.str "or"]) = HI at gi si ⊢
        refine iteT ?_
        refine ⟨_, rfl, D, 3, rfl, gi.2, by omega, by omega, fun r HE r0 r1 gE fE => ?_⟩
        refine ⟨_, rfl, rfl, .inr ⟨_, rfl, ?_⟩⟩
        refine ⟨_, _, rfl, rfl, ?_⟩
        obtain ⟨M, rfl⟩ : ∃ M : Nat, r = (M : Int) := ⟨r.toNat, by omega⟩
        have hd : decide (V.str ("or" : Str) = V.str "or") = true := by decide +kernel
        rw [hd]
        simp only [Bool.false_eq_true, if_false, if_true, Int.add_zero]
        have gE2 := gi.trans gE
        refine ⟨_, rfl, _, rfl, by omega, by omega, fun L nL => ?_⟩
        have nLD := gE2.2.ne nL
        have nL0 : H L = none := by
          cases e : H L with
          | none => rfl
          | some o =>
            rw [gE2.1 _ _ nLD e] at nL
            cases nL
        refine lc_range (lo := 0) (n := ((M : Int) + 1).toNat) (fun i H' => Go D H H' ∧ ∃ (vs : List V) (us : List Tm), us.length = i ∧ H' L = some (.lst vs) ∧ DpAll K H' vs (datas us) ∧ ∀ u ∈ us, GF m tb own u ∧ u.isW = false ∧ u.deep ≤ n ∧ u.count ≤ cb n) ⟨gE2.upd nL0 nLD, [], [], rfl, upd_same, .nil, (fun _ h => nomatch h)⟩ (fun i H5 hi h => ?_) (fun H5 h => ?_)
        · obtain ⟨g5, vs, us, lu, eL, ru, hu⟩ := h
          refine ⟨rfl, _, rfl, _, rfl, _, rfl, _, rfl, _, rfl, _, _, rfl, rfl, ?_⟩
          refine ⟨D, ta, m, tb, ov, own, congrArg (fun z => [V.ref D, V.int m, V.ref ta, ov, V.int z]) (by omega : ((n + 1 : Nat) : Int) - 1 = (n : Int)), ak.go g5, hn, by omega, fun v H6 t g6 gt => ?_⟩
          have eL6 := g6.1 _ _ nLD eL
          have st := Stay.set (ys := vs ++ [v]) eL6
          have tk6 := (g6.tk g5.2).trans (.stay st)
          refine ⟨vs, eL6, ?_, (g5.trans g6).upd nL0 nLD, vs ++ [v], us ++ [t], ?_, upd_same, ?_, ?_⟩
          · rw [DpAll.len ru, datas_len, lu]
            exact small1000 (by omega)
          · rw [List.length_append, lu]
            rfl
          · rw [datas_app]
            exact DpAll.app (DpAll.tk tk6 (noL_datas _) ru) (.cons (Dp.tk (.stay st) t.noL gt.dp) .nil)
          · intro u h
            rcases List.mem_append.mp h with h | h
            · exact hu u h
            · rw [List.mem_singleton.mp h]
              exact ⟨gt.good, gt.kind, gt.deep, gt.few⟩
        · obtain ⟨g5, vs, us, lu, eL, ru, hu⟩ := h
          have lv : vs.length = us.length := by rw [DpAll.len ru, datas_len]
          refine ⟨_, rfl, by show 1 ≤ sizeLine; decide, fun p6 n6' => ?_⟩
          have s6 := same_upd (o := .tup [V.str "or"]) n6'
          have eL6 := s6 _ _ eL
          refine ⟨_, rfl, L, vs, rfl, .inl ⟨.inl (.inl eL6), fun p7 n7 => ?_⟩⟩
          have s7 := same_upd (o := .tup vs) n7
          refine cat_tup (Same.sqT s7 (.inl (.inl upd_same))) (.inl (.inl upd_same)) (List.cons_ne_nil _ _) (by show 1 + vs.length < 16000; omega) fun G p8 s8 sq8 => ?_
          have s9 := (s6.trans s7).trans s8
          obtain ⟨t, gt⟩ := got_seq (K := K) (H := G) (own := own) true (fun _ => by omega) sq8 (DpAll.tk (.of s9) (noL_datas _) ru) hu (by omega)
          exact q _ _ t (g5.same s9) gt
      · -- call
        refine ⟨_, rfl, rfl, _, rfl, iteF ?_⟩
        refine ⟨_, rfl, by show 2 ≤ sizeLine; decide, fun pi ni => ?_⟩
        have gi := (gC).same (same_upd (o := .tup ([("seq" : Str), "or"].map V.str)) ni)
        have si := same_upd (o := .tup ([("seq" : Str), "or"].map V.str)) ni
        refine ⟨pi, [("seq" : Str), "or"].map V.str, rfl, .inr (.inl (.inl upd_same)), rfl, flat_strs _, _, rfl, ?_⟩
        rw [inV_strs]
        change Go D H (upd HC pi (.tup [V.str "seq", V.str "or"])) at gi
        change Same HC (upd HC pi (.tup [V.str "seq", V.str "or"])) at si
        generalize upd HC pi (.tup [V.str "seq", V.str "or"]) = HI at gi si ⊢
        refine iteF ?_
        refine ⟨_, rfl, rfl, _, rfl, iteT ?_⟩
        have akC := ak.go gi
        obtain ⟨kvs, ht, tv, t8⟩ := akC.tab
        refine ⟨_, rfl, _, rfl, ta, kvs, tb.map (·.1), rfl, .of ht, tv.keys, by rw [List.length_map]; omega, fun ys p3 pm so n3 => ?_⟩
        have s3 := same_upd (o := .lst (ys.map V.str)) n3
        have e3 : upd HI p3 (.lst (ys.map V.str)) p3 = some (.lst (ys.map V.str)) := upd_same
        have np3 := gi.2.ne n3
        generalize upd HI p3 (.lst (ys.map V.str)) = H3 at s3 e3 ⊢
        have g3 := gi.same s3
        have ht3 := s3 _ _ ht
        have tv3 := tv.tk (.of s3)
        have ly : ys.length ≤ 8 := by rw [pm.length_eq, List.length_map]; exact t8
        have ne : ys.map V.str ≠ [] := fun z => by
          have l1 : ys.length = 0 := by rw [← List.length_map (f := V.str), z]; rfl
          have l2 := pm.length_eq
          rw [List.length_map] at l2
          exact ak.ne (List.eq_nil_of_length_eq_zero (by omega))
        refine ⟨D, p3, _, g3.2, rfl, .inl (.inl e3), np3, ne, by rw [List.length_map]; omega, fun v H8 hv8 g8 f8 => ?_⟩
        obtain ⟨nm, hnm, rfl⟩ := List.mem_map.mp hv8
        have gg8 := g3.trans g8
        have ht8 := f8 ta (fun z => by
          subst z
          obtain ⟨x, y, w', q'⟩ := g3.2
          rw [ht3] at q'
          cases q')
        rw [ht3] at ht8
        obtain ⟨v, o, hv, dv, po', mo, wd, lk⟩ := (tv3.tk (g8.tk g3.2)).get (pm.mem_iff.mp hnm)
        obtain ⟨av, xs, rfl, sv, rv⟩ := Dp.tup_inv (show Dp K H8 v (.tuple (o.map parD)) from dv)
        have lo : xs.length = o.length := by rw [DpAll.len rv, List.length_map]
        have dg : DGet H8 ta (.str nm) (some (V.ref av)) := hv ▸ DGet.k (k := Sum.inr nm) ht8
        have o3 := po'.few
        clear hv8 g8 f8 g3 e3 ht3 tv3 hv ht tv akC s3
        refine ⟨_, rfl, _, rfl, ta, _, rfl, dg, av, rfl, ⟨xs, sv⟩, fun LK nLK => ?_⟩
        refine lc_tup (xs := xs) (fun i H' => Same H8 H' ∧ H' LK = some (.lst ((((o.take i).map (·.2)).map kd).map V.str))) ⟨same_upd nLK, upd_same⟩ (fun i H' hi h => Same.sqT h.1 sv) (fun i x G1 hx h => ?_) (fun G1 h => ?_)
        · obtain ⟨sm, eK⟩ := h
          obtain ⟨d, hd, dx'⟩ := DpAll.get (DpAll.stay (.of sm) (pars_noL o) rv) hx
          rw [List.getElem?_map] at hd
          obtain ⟨z, hz, rfl⟩ := Option.map_eq_some_iff.mp hd
          have li := (List.getElem?_eq_some_iff.mp hx).1
          obtain ⟨b, ys2, rfl, sb, rb⟩ := Dp.tup_inv (show Dp K G1 x (.tuple [.str z.1, .str (kd z.2)]) from dx')
          cases rb with
          | cons y1 rb => cases rb with
            | cons y2 rb =>
            cases rb
            cases Dp.str_inv y1
            cases Dp.str_inv y2
            refine ⟨rfl, _, rfl, b, _, 1, _, rfl, rfl, sb, at1, _, eK, ?_, Same.set sm nLK, ?_⟩
            · rw [List.length_map, List.length_map, List.length_map, List.length_take]
              exact Nat.lt_of_le_of_lt (Nat.min_le_left _ _) (small1000 (by omega))
            · rw [upd_same, take_more hz, List.map_append, List.map_append, List.map_append]
              rfl
        · obtain ⟨sm, eK⟩ := h
          rw [lo, List.take_length] at eK
          have gg10 := gg8.same sm
          have nKD := gg8.2.ne nLK
          refine ⟨_, rfl, _, rfl, _, rfl, _, rfl, _, rfl, _, rfl, _, _, rfl, rfl, ?_⟩
          refine ⟨D, ta, LK, m, tb, ov, own, o.map (·.2), congrArg (fun z => [V.ref D, V.int m, V.ref ta, ov, V.ref LK, V.int z]) (by omega : ((n + 1 : Nat) : Int) - 1 = (n : Int)), ak.go gg10, by omega, eK, nKD, by rw [List.length_map]; omega, fun G2 g11 => ?_, fun pg vs' us G2 g11 sg rg gv => ?_⟩
          · refine ⟨_, rfl, rfl, _, rfl, iteF ?_⟩
            refine ⟨_, rfl, rfl, _, rfl, iteF ?_⟩
            refine ⟨_, rfl, _, rfl, D, m, rfl, (gg10.trans g11).2, ak.m1, ak.m3, fun v G9 t g9 gt => ?_⟩
            exact q v G9 t ((gg10.trans g11).trans g9) (got_up (gt tb own))
          · refine ⟨_, rfl, rfl, _, rfl, iteT ?_⟩
            refine ⟨_, rfl, by show 2 ≤ sizeLine; decide, fun p12 n12 => ?_⟩
            have s12 := same_upd (o := .tup [V.str "call", V.str nm]) n12
            refine ⟨_, rfl, ?_⟩
            have lv : vs'.length ≤ 3 := by
              rw [DpAll.len rg, datas_len, ← List.length_map (f := Tm.isW), gv.2, List.length_map]
              omega
            refine cat_tup (.inl (.inl upd_same)) (Same.sqT s12 sg) (List.cons_ne_nil _ _) (by show 2 + vs'.length < 16000; omega) fun G3 p13 s13 sq13 => ?_
            have s14 := s12.trans s13
            obtain ⟨t, gt⟩ := got_call (K := K) (H := G3) (own := own) false wd sq13 (DpAll.tk (.of s14) (noL_datas _) rg) gv (by rw [List.length_map]; omega) (by rw [lk]; rfl)
            exact q _ _ t ((gg10.trans g11).same s14) gt
      · -- wrap
        refine ⟨_, rfl, rfl, _, rfl, iteF ?_⟩
        refine ⟨_, rfl, by show 2 ≤ sizeLine; decide, fun pi ni => ?_⟩
        have gi := (gC).same (same_upd (o := .tup ([("seq" : Str), "or"].map V.str)) ni)
        have si := same_upd (o := .tup ([("seq" : Str), "or"].map V.str)) ni
        refine ⟨pi, [("seq" : Str), "or"].map V.str, rfl, .inr (.inl (.inl upd_same)), rfl, flat_strs _, _, rfl, ?_⟩
        rw [inV_strs]
        change Go D H (upd HC pi (.tup [V.str "seq", V.str "or"])) at gi
        change Same HC (upd HC pi (.tup [V.str "seq", V.str "or"])) at si
        generalize upd HC pi (.tup [V.str "seq", V.str "or"]) = HI at gi si ⊢
        refine iteF ?_
        refine ⟨_, rfl, rfl, _, rfl, iteF ?_⟩
        refine ⟨_, rfl, rfl, _, rfl, iteT ?_⟩
        refine ⟨_, rfl, _, rfl, _, rfl, _, rfl, _, rfl, _, _, rfl, rfl, ?_⟩
        refine ⟨D, ta, m, tb, ov, own, congrArg (fun z => [V.ref D, V.int m, V.ref ta, ov, V.int z]) (by omega : ((n + 1 : Nat) : Int) - 1 = (n : Int)), ak.go gi, hn, by omega, fun H5 g5 => ?_, fun v1 H5 t1 g5 gt1 => ?_⟩
        · refine ⟨_, rfl, rfl, _, rfl, iteF ?_⟩
          refine ⟨_, rfl, _, rfl, D, m, rfl, (gi.trans g5).2, ak.m1, ak.m3, fun v G9 t g9 gt => ?_⟩
          exact q v G9 t ((gi.trans g5).trans g9) (got_up (gt tb own))
        · have nv : (!decide (v1 = V.non)) = true := by
            rw [decide_eq_false (got_ne gt1)]
            rfl
          refine ⟨_, rfl, rfl, _, rfl, ?_⟩
          rw [nv]
          refine iteT ?_
          have g15 := gi.trans g5
          refine ⟨_, rfl, _, rfl, _, rfl, _, rfl, _, rfl, _, rfl, _, _, rfl, rfl, ?_⟩
          refine ⟨D, ta, m, tb, ov, own, congrArg (fun z => [V.ref D, V.int m, V.ref ta, ov, V.int z]) (by omega : ((n + 1 : Nat) : Int) - 1 = (n : Int)), ak.go g15, hn, by omega, fun v2 H6 t2 g6 gt2 => ?_⟩
          refine ⟨by show 3 ≤ sizeLine; decide, fun p7 n7 => ?_⟩
          have s7 := same_upd (o := .tup [V.str "wrap", v1, v2]) n7
          obtain ⟨t, gt⟩ := got_wrap (K := K) (H := upd H6 p7 (.tup [V.str "wrap", v1, v2])) (own := own) (.inl (.inl upd_same)) (gt1.tk ((g6.tk g15.2).trans (.of s7))) (gt2.tk (.of s7))
          exact q _ _ t ((g15.trans g6).same s7) gt
end
end FS

set_option Elab.async false
set_option linter.all false
set_option maxRecDepth 100000
set_option maxHeartbeats 4000000
namespace FS
open PySem PySem.Spec PyProof.Rows L2
section
variable {P : Program} {w : World} {K : PySem.W.Frag} {mg : Str → Option Value} {base : Heap}
theorem Cal.up {j k : Nat} {x : Str} {ps : List Str} {sp : Sp} (C : Cal P w K mg base j x ps sp) (h : j ≤ k) : Cal P w K mg base k x ps sp := by
  obtain ⟨f, fd, F, m, kp, b⟩ := C.ex
  exact ⟨f, fd, F.mono h, m, kp, b⟩
theorem no_all_in {f : Addr} {fd : FuncData} (F : Fun K "_law_all_in" "_law_all_in" s_law_all_in f fd) (T : Nm K mg) (m : mg "_law_all_in" = some (.ref f)) (kp : PySem.W.keepIn K (.ref f) = true) (b : Binds K fd ["_law_piece"] []) :
    ∀ n, Cal P w K mg base (1 + n) "_law_all_in" ["_law_piece"] (spAll K n)
  | 0 => by
    have no : ∀ {vs H Q E}, spAll K 0 vs H Q E → False := fun {vs H Q E} h => by
      obtain ⟨own, v, t, rfl, dp, gd, low, _⟩ := h
      obtain ⟨hd, ks⟩ := t
      have : deeps ks + 1 ≤ 0 := low
      omega
    exact ⟨f, fd, F.ok sc_law_all_in (fun vs H Q E h => (no h).elim) (fun cdv A outer s H vs Q E hr h => (no h).elim), m, kp, b⟩
  | n + 1 => ⟨f, fd, ok_l_all_in (k := 1 + n) F T (no_all_in F T m kp b n), m, kp, b⟩
abbrev ps5 : List Str := ["_law_die", "_law_modes", "_law_table", "_law_own", "_law_deep"]
abbrev ps6 : List Str := ["_law_die", "_law_modes", "_law_table", "_law_own", "_law_kinds", "_law_deep"]
theorem no_terms {f1 f2 f3 : Addr} {fd1 fd2 fd3 : FuncData} (F1 : Fun K "_law_any_term" "_law_any_term" s_law_any_term f1 fd1) (F2 : Fun K "_law_any_wrap" "_law_any_wrap" s_law_any_wrap f2 fd2) (F3 : Fun K "_law_any_given" "_law_any_given" s_law_any_given f3 fd3) (T : Nm K mg)
    (m1 : mg "_law_any_term" = some (.ref f1)) (m2 : mg "_law_any_wrap" = some (.ref f2)) (m3 : mg "_law_any_given" = some (.ref f3)) (k1 : PySem.W.keepIn K (.ref f1) = true) (k2 : PySem.W.keepIn K (.ref f2) = true) (k3 : PySem.W.keepIn K (.ref f3) = true)
    (b1 : Binds K fd1 ps5 []) (b2 : Binds K fd2 ps5 []) (b3 : Binds K fd3 ps6 []) (Cn : Cal P w K mg base 1 "_law_own_names" ["_law_own", "_law_kind"] (spOwn K)) (Cc : Cal P w K mg base 1 "_law_cast" ["_law_die", "_law_total"] spCast)
    (Cp : Cal P w K mg base 2 "_law_pick" ["_law_die", "_law_items"] (spPick K)) (Cd : Cal P w K mg base 3 "_law_any_deed" ["_law_die", "_law_modes"] (spDeed K)) :
    ∀ n, FnOk P w K mg base CX0 (4 + 2 * n) f1 fd1 ps5 (spTermD K n) ∧ Cal P w K mg base (4 + 2 * n) "_law_any_wrap" ps5 (spWrap K n) ∧ Cal P w K mg base (5 + 2 * n) "_law_any_given" ps6 (spGiven K n)
  | 0 => by
    have noT : ∀ {vs H Q E}, spTermD K 0 vs H Q E → False := fun {vs H Q E} h => by
      obtain ⟨D, ta, m, tb, ov, own, rfl, ak, n1, _⟩ := h
      omega
    have noW : ∀ {vs H Q E}, spWrap K 0 vs H Q E → False := fun {vs H Q E} h => by
      obtain ⟨D, ta, m, tb, ov, own, rfl, ak, n1, _⟩ := h
      omega
    have A0 : FnOk P w K mg base CX0 4 f1 fd1 ps5 (spTermD K 0) := FnOk.mono (j := 1) (F1.ok sc_law_any_term (fun vs H Q E h => (noT h).elim) (fun cdv A outer s H vs Q E hr h => (noT h).elim)) (by omega)
    have A1 : Cal P w K mg base 4 "_law_any_term" ps5 (spTermD K 0) := ⟨f1, fd1, A0, m1, k1, b1⟩
    have A2 : Cal P w K mg base 4 "_law_any_wrap" ps5 (spWrap K 0) := Cal.up (j := 1) ⟨f2, fd2, F2.ok sc_law_any_wrap (fun vs H Q E h => (noW h).elim) (fun cdv A outer s H vs Q E hr h => (noW h).elim), m2, k2, b2⟩ (by omega)
    exact ⟨A0, A2, ⟨f3, fd3, ok_l_any_given (k := 4) F3 T A2 A1, m3, k3, b3⟩⟩
  | n + 1 => by
    obtain ⟨A0, A2, A3⟩ := no_terms F1 F2 F3 T m1 m2 m3 k1 k2 k3 b1 b2 b3 Cn Cc Cp Cd n
    have A1 : Cal P w K mg base (4 + 2 * n) "_law_any_term" ps5 (spTermD K n) := ⟨f1, fd1, A0, m1, k1, b1⟩
    have B0 : FnOk P w K mg base CX0 (4 + 2 * (n + 1)) f1 fd1 ps5 (spTermD K (n + 1)) := (ok_l_any_term (k := 5 + 2 * n) F1 T (by omega) Cn Cc Cp Cd A3 (A2.up (by omega)) (A1.up (by omega))).mono (by omega)
    have B1 : Cal P w K mg base (4 + 2 * (n + 1)) "_law_any_term" ps5 (spTermD K (n + 1)) := ⟨f1, fd1, B0, m1, k1, b1⟩
    have B2 : Cal P w K mg base (4 + 2 * (n + 1)) "_law_any_wrap" ps5 (spWrap K (n + 1)) := ⟨f2, fd2, (ok_l_any_wrap (k := 5 + 2 * n) F2 T (by omega) Cn Cc Cp A3).mono (by omega), m2, k2, b2⟩
    exact ⟨B0, B2, ⟨f3, fd3, (ok_l_any_given (k := 4 + 2 * (n + 1)) F3 T B2 B1).mono (by omega), m3, k3, b3⟩⟩
/-- of some depth -/
def spTermU (K : PySem.W.Frag) : Sp := fun vs H Q E => ∃ n, 2 ≤ n ∧ n ≤ 4 ∧ spTermD K n vs H Q E
theorem cal_union {k : Nat} {x : Str} {ps : List Str} {sp : Nat → Sp} {f : Addr} {fd : FuncData} {S : Nat → Prop} (F : ∀ n, S n → FnOk P w K mg base CX0 k f fd ps (sp n)) : FnOk P w K mg base CX0 k f fd ps (fun vs H Q E => ∃ n, S n ∧ sp n vs H Q E) :=
  ⟨fun vs H Q E h => by
    obtain ⟨n, s, h⟩ := h
    exact (F n s).len vs H Q E h, fun A outer s H args us vs Q E hr he hb hv hs => by
    obtain ⟨n, sn, h⟩ := hs
    exact (F n sn).run A outer s H args us vs Q E hr he hb hv h⟩
end
/-- a drawn body -/
structure Body (K : PySem.W.Frag) (H : Hp) (m : Int) (tb : Tbl) (own : List (Str × Bool)) (v : V) (t : Tm) : Prop where
  dp : Dp K H v t.data
  good : Good own t
  kind : t.isW = false
  deep : t.deep ≤ 4
  few : t.count ≤ 40
  fits : GF m tb own t
theorem Body.tk {K : PySem.W.Frag} {H H' : Hp} {m : Int} {tb : Tbl} {own : List (Str × Bool)} {v : V} {t : Tm} (g : Body K H m tb own v t) (e : TK H H') : Body K H' m tb own v t := ⟨Dp.tk e t.noL g.dp, g.good, g.kind, g.deep, g.few, g.fits⟩
def spBody (K : PySem.W.Frag) : Sp := fun vs H Q _ => ∃ (D ta : Addr) (m : Int) (tb : Tbl) (ov : V) (own : List (Str × Bool)), vs = [.ref D, .int m, .ref ta, ov] ∧ Ask K H D ta m tb ov own ∧ ∀ v H' t, Go D H H' → Body K H' m tb own v t → Q v H'
theorem cb4 {n : Nat} (h : n ≤ 4) : cb n ≤ 40 := by
  have : ∀ n, n ≤ 4 → cb n ≤ 40 := by decide
  exact this n h
end FS

set_option Elab.async false
set_option linter.all false
set_option maxRecDepth 100000
set_option maxHeartbeats 4000000
namespace FS
open PySem PySem.Spec PyProof.Rows L2
section
variable {P : Program} {w : World} {K : PySem.W.Frag} {mg : Str → Option Value} {base : Heap}
abbrev N_law_any_body : List Str := ["_law_die", "_law_modes", "_law_table", "_law_own", "_law_body"]
theorem sc_law_any_body : FnScope N_law_any_body ["_law_die", "_law_modes", "_law_table", "_law_own"] (defScope s_law_any_body) := ⟨rfl, rfl, rfl, by decide +kernel, rfl, by decide +kernel, by decide +kernel⟩
theorem ok_l_any_body {f : Addr} {fd : FuncData} (F : Fun K "_law_any_body" "_law_any_body" s_law_any_body f fd) (T : Nm K mg) (Cl_any_term : Cal P w K mg base 12 "_law_any_term" ["_law_die", "_law_modes", "_law_table", "_law_own", "_law_deep"] (fun vs H Q E => ∃ n, (2 ≤ n ∧ n ≤ 4) ∧ spTermD K n vs H Q E)) (Cl_cast : Cal P w K mg base 1 "_law_cast" ["_law_die", "_law_total"] spCast) (Cl_all_in : Cal P w K mg base 5 "_law_all_in" ["_law_piece"] (spAll K 4)) (Cl_any_deed : Cal P w K mg base 3 "_law_any_deed" ["_law_die", "_law_modes"] (spDeed K)) : FnOk P w K mg base CX0 13 f fd ["_law_die", "_law_modes", "_law_table", "_law_own"] (spBody K) := by
  have nd := sc_law_any_body.nd
  refine F.ok sc_law_any_body (fun vs H Q E h => ?_) (fun cdv A outer s H vs Q E hr h => ?_)
  · obtain ⟨D, ta, m, tb, ov, own, rfl, ak, q⟩ := h
    rfl
  · obtain ⟨D, ta, m, tb, ov, own, rfl, ak, q⟩ := h
    skip
    refine ⟨_, (pss_cons (ps_set (i := 4) nd rfl (Or.inl rfl) (pe_own Cl_any_term (hr.mono (by decide)) (by rfl) (pa_cons (pv 0) (pa_cons (pv 1) (pa_cons (pv 2) (pa_cons (pv 3) (pa_cons (pe_op op_add pe_int (pe_own Cl_cast (hr.mono (by decide)) (by rfl) (pa_cons (pv 0) (pa_cons pe_int pa_nil)))) pa_nil)))))))
  (pss_one (ps_ret (pe_ifExp (pt_cmpR op_le (pe_callB call_len (by rfl) T.b_len PySem.boot_len (pa_cons (pe_own Cl_all_in (hr.mono (by decide)) (by rfl) (pa_cons (pv 4) pa_nil)) pa_nil)) pe_int (nomark _)) (pv 4) (pe_own Cl_any_deed (hr.mono (by decide)) (by rfl) (pa_cons (pv 0) (pa_cons (pv 1) pa_nil))))))), ?_⟩

    refine ⟨_, rfl, _, rfl, _, rfl, _, rfl, _, rfl, D, 3, rfl, ak.die, by omega, by omega, fun r H1 r0 r1 g1 f1 => ?_⟩
    obtain ⟨M, rfl⟩ : ∃ M : Nat, r = (M : Int) := ⟨r.toNat, by omega⟩
    refine ⟨_, _, rfl, rfl, ?_⟩
    refine ⟨2 + M, ⟨by omega, by omega⟩, D, ta, m, tb, ov, own, congrArg (fun z => [V.ref D, V.int m, V.ref ta, ov, V.int z]) (by omega : (2 : Int) + (M : Int) = ((2 + M : Nat) : Int)), ak.go g1, by omega, by omega, fun v H2 t g2 gt => ?_⟩
    have g12 := g1.trans g2
    have c40 : t.count ≤ 40 := Nat.le_trans gt.few (cb4 (by omega))
    have d4 : t.deep ≤ 4 := Nat.le_trans gt.deep (by omega)
    refine ⟨_, rfl, own, v, t, rfl, gt.dp, gt.good.good, d4, by omega, fun H3 p xs s3 np ep rx => ?_⟩
    have lx : xs.length = t.count := by rw [DpAll.len rx, datas_len]; rfl
    refine ⟨_, _, rfl, .inl ⟨_, .inl (.inl ep), rfl⟩, _, _, rfl, rfl, _, rfl, ?_⟩
    have b := gt.tk (.of s3)
    refine ite2 (fun _ => ?_) (fun e => absurd (decide_eq_true (by rw [lx]; omega)) e)
    exact ⟨_, rfl, q v H3 t (g12.same s3) ⟨b.dp, b.good.good, b.kind, d4, c40, b.good⟩⟩
end
end FS

set_option Elab.async false
set_option linter.all false
set_option maxRecDepth 100000
set_option maxHeartbeats 4000000
namespace FS
open PySem PySem.Spec PyProof.Rows L2
theorem cut_take (xs : List V) (k : Nat) : cutV xs none (some (k : Int)) = xs.take k := by
  unfold cutV
  rw [HT.sIx_nat, HT.sIx_none, List.drop_zero, Nat.sub_zero]
  by_cases h : k ≤ xs.length
  · rw [Nat.min_eq_left h]
  · rw [Nat.min_eq_right (by omega), List.take_length, List.take_of_length_le (by omega)]
theorem Go.free {H H' : Hp} {D p : Addr} (g : Go D H H') (n : H' p = none) : H p = none := by
  cases e : H p with
  | none => rfl
  | some o =>
    have ne := g.2.ne n
    rw [g.1 _ _ ne e] at n
    cases n
theorem take_str (ys : List Str) (k : Nat) : (ys.map V.str).take k = (ys.take k).map V.str := (List.map_take).symm
theorem TabV.app {K : PySem.W.Frag} {H : Hp} {kvs : List (Key × V)} {tb : Tbl} (t : TabV K H kvs tb) {x : Str} {v : V} {own : List (Str × Bool)} (h : Dp K H v (parsD own)) (po : ParOk own) (wd : wordB x = true) : TabV K H (kvs ++ [(Sum.inr x, v)]) (tb ++ [(x, own)]) := by
  induction t with
  | nil => exact .cons h po wd .nil
  | cons h' po' wd' r ih => exact .cons h' po' wd' ih
theorem TabV.map {K : PySem.W.Frag} {H : Hp} {kvs : List (Key × V)} {tb : Tbl} (t : TabV K H kvs tb) {x : Str} {v : V} {own : List (Str × Bool)} (h : Dp K H v (parsD own)) (po : ParOk own) (wd : wordB x = true) : ∃ tb', TabV K H (kvs.map fun kv => if kv.1 = Sum.inr x then (kv.1, v) else kv) tb' ∧ tb'.length = tb.length := by
  induction t with
  | nil => exact ⟨[], .nil, rfl⟩
  | @cons y u o kvs tb h' po' wd' r ih =>
    obtain ⟨tb', i1, i2⟩ := ih
    by_cases e : (Sum.inr y : Key) = Sum.inr x
    · refine ⟨(y, own) :: tb', ?_, by rw [List.length_cons, List.length_cons, i2]⟩
      rw [List.map_cons, if_pos e]
      exact .cons h po wd' i1
    · refine ⟨(y, o) :: tb', ?_, by rw [List.length_cons, List.length_cons, i2]⟩
      rw [List.map_cons, if_neg e]
      exact .cons h' po' wd' i1
theorem TabV.len {K : PySem.W.Frag} {H : Hp} {kvs : List (Key × V)} {tb : Tbl} (t : TabV K H kvs tb) : kvs.length = tb.length := by
  induction t with
  | nil => rfl
  | cons _ _ _ _ ih => rw [List.length_cons, List.length_cons, ih]
theorem TabV.putN {K : PySem.W.Frag} {H : Hp} {kvs : List (Key × V)} {tb : Tbl} (t : TabV K H kvs tb) {x : Str} {v : V} {own : List (Str × Bool)} (h : Dp K H v (parsD own)) (po : ParOk own) (wd : wordB x = true) (ne : x ∉ tb.map (·.1)) : TabV K H (putK kvs (Sum.inr x) v) (tb ++ [(x, own)]) := by
  unfold putK
  by_cases e : (kvs.any fun kv => decide (kv.1 = Sum.inr x)) = true
  · obtain ⟨kv, hkv, hx⟩ := List.any_eq_true.mp e
    have hm : (Sum.inr x : Key) ∈ kvs.map (·.1) := by
      rw [← of_decide_eq_true hx]
      exact List.mem_map_of_mem hkv
    rw [t.keys] at hm
    obtain ⟨z, hz, ez⟩ := List.mem_map.mp hm
    rw [Sum.inr.inj ez] at hz
    exact absurd hz ne
  · rw [if_neg e]
    exact t.app h po wd
theorem look_app {tb : Tbl} {x : Str} {v : List (Str × Bool)} {l : Tbl} (h : tb.lookup x = some v) : (tb ++ l).lookup x = some v := by
  induction tb with
  | nil => cases h
  | cons p r ih =>
    obtain ⟨y, o⟩ := p
    simp only [List.cons_append, List.lookup] at h ⊢
    cases e : x == y with
    | true => rw [e] at h; exact h
    | false => rw [e] at h; exact ih h
theorem fresh_name {ws : List Str} {i : Nat} {nm : Str} (nz : (("main" : Str) :: ws).Nodup) (h : ws[i]? = some nm) : nm ∉ ("main" : Str) :: ws.take i := fun hm => by
  obtain ⟨n1, n2⟩ := List.nodup_cons.mp nz
  rcases List.mem_cons.mp hm with e | e
  · exact n1 (e ▸ List.mem_of_getElem? h)
  · have hw : ws.take (i + 1) = ws.take i ++ [nm] := take_more h
    have := n2.sublist (List.take_sublist (i + 1) ws)
    rw [hw] at this
    exact (List.nodup_append.mp this).2.2 _ e _ List.mem_cons_self rfl
theorem wraps_app {m : Int} {tb : Tbl} {nm : Str} {own : List (Str × Bool)} (h : m = 3 → ∀ p ∈ tb, ∀ q ∈ p.2, q.2 = false) (g : m = 3 → ∀ q ∈ own, q.2 = false) : m = 3 → ∀ p ∈ tb ++ [(nm, own)], ∀ q ∈ p.2, q.2 = false := fun e p hp => by
  rcases List.mem_append.mp hp with a | a
  · exact h e p a
  · rw [List.mem_singleton.mp a]
    exact g e
/-- a drawn row -/
structure RowAt (K : PySem.W.Frag) (H : Hp) (m : Int) (tb : Tbl) (r : Addr) (nm : Str) (own : List (Str × Bool)) (t : Tm) : Prop where
  ex : ∃ ov bv, H r = some (.lst [.str nm, ov, bv]) ∧ Dp K H ov (parsD own) ∧ Body K H m tb own bv t
  po : ParOk own
  wd : wordB nm = true
  lk : tb.lookup nm = some own
theorem RowAt.go {K : PySem.W.Frag} {H H' : Hp} {m : Int} {tb : Tbl} {D r : Addr} {nm : Str} {own : List (Str × Bool)} {t : Tm} (d : Die H D) (g : Go D H H') (x : RowAt K H m tb r nm own t) : RowAt K H' m tb r nm own t := by
  obtain ⟨⟨ov, bv, h1, h2, h3⟩, po, wd, lk⟩ := x
  have k := g.tk d
  refine ⟨⟨ov, bv, g.1 _ _ (fun z => ?_) h1, Dp.tk k (pars_noL own) h2, h3.tk k⟩, po, wd, lk⟩
  subst z
  obtain ⟨a, b, c, q⟩ := d
  rw [q] at h1
  cases Option.some.inj h1
theorem RowAt.same {K : PySem.W.Frag} {H H' : Hp} {m : Int} {tb : Tbl} {r : Addr} {nm : Str} {own : List (Str × Bool)} {t : Tm} (s : Same H H') (x : RowAt K H m tb r nm own t) : RowAt K H' m tb r nm own t := by
  obtain ⟨⟨ov, bv, h1, h2, h3⟩, po, wd, lk⟩ := x
  exact ⟨⟨ov, bv, s _ _ h1, Dp.tk (.of s) (pars_noL own) h2, h3.tk (.of s)⟩, po, wd, lk⟩
theorem RowAt.set {K : PySem.W.Frag} {H : Hp} {m : Int} {tb : Tbl} {r l : Addr} {nm : Str} {own : List (Str × Bool)} {t : Tm} {rs : List Addr} {ys : List V} (e : H l = some (.lst (rs.map V.ref))) (x : RowAt K H m tb r nm own t) : RowAt K (upd H l (.lst ys)) m tb r nm own t := by
  obtain ⟨⟨ov, bv, h1, h2, h3⟩, po, wd, lk⟩ := x
  have k := TK.stay (Stay.set (ys := ys) e)
  have n : r ≠ l := fun z => by
    subst z
    rw [e] at h1
    have h4 := HO.lst.inj (Option.some.inj h1)
    cases rs with
    | nil => cases h4
    | cons a b => cases (List.cons.inj h4).1
  exact ⟨⟨ov, bv, by rw [upd_ne n]; exact h1, Dp.tk k (pars_noL own) h2, h3.tk k⟩, po, wd, lk⟩
abbrev RowU := Str × List (Str × Bool) × Tm
/-- the rows of a drawn program -/
inductive RowsAt (K : PySem.W.Frag) (H : Hp) (m : Int) (tb : Tbl) : List Addr → List RowU → Prop
  | nil : RowsAt K H m tb [] []
  | cons {r : Addr} {u : RowU} {rs : List Addr} {us : List RowU} (h : RowAt K H m tb r u.1 u.2.1 u.2.2) (k : RowsAt K H m tb rs us) : RowsAt K H m tb (r :: rs) (u :: us)
theorem RowsAt.map {K : PySem.W.Frag} {H H' : Hp} {m : Int} {tb : Tbl} {rs : List Addr} {us : List RowU} (x : RowsAt K H m tb rs us) (f : ∀ {r : Addr} {nm : Str} {own : List (Str × Bool)} {t : Tm}, RowAt K H m tb r nm own t → RowAt K H' m tb r nm own t) : RowsAt K H' m tb rs us := by
  induction x with
  | nil => exact .nil
  | cons h _ ih => exact .cons (f h) ih
theorem RowsAt.app {K : PySem.W.Frag} {H : Hp} {m : Int} {tb : Tbl} {rs : List Addr} {us : List RowU} (x : RowsAt K H m tb rs us) {r : Addr} {u : RowU} (h : RowAt K H m tb r u.1 u.2.1 u.2.2) : RowsAt K H m tb (rs ++ [r]) (us ++ [u]) := by
  induction x with
  | nil => exact .cons h .nil
  | cons k _ ih => exact .cons k ih
theorem RowsAt.len {K : PySem.W.Frag} {H : Hp} {m : Int} {tb : Tbl} {rs : List Addr} {us : List RowU} (x : RowsAt K H m tb rs us) : rs.length = us.length := by
  induction x with
  | nil => rfl
  | cons _ _ ih => rw [List.length_cons, List.length_cons, ih]
/-- what is known of a drawn program -/
structure PlainOk (m : Int) (tb : Tbl) (us : List RowU) : Prop where
  m1 : 1 ≤ m
  m3 : m ≤ 3
  nms : (us.map (·.1)).Perm (tb.map (·.1))
  nd : (tb.map (·.1)).Nodup
  main : tb.lookup ("main" : Str) = some []
  inm : ("main" : Str) ∈ tb.map (·.1)
  wr : m = 3 → ∀ p ∈ tb, ∀ q ∈ p.2, q.2 = false
  few : us.length ≤ 8
  zz : ("zz" : Str) ∉ tb.map (·.1)
def spPlain (K : PySem.W.Frag) : Sp := fun vs H Q _ => ∃ (D : Addr) (b : Bool), vs = [.ref D, .bl b] ∧ Die H D ∧ ∀ (H' : Hp) (p rl : Addr) (m : Int) (rs : List Addr) (us : List RowU) (tb : Tbl), Go D H H' → H' p = some (.lst [.int m, .ref rl]) → H' rl = some (.lst (rs.map V.ref)) → RowsAt K H' m tb rs us → PlainOk m tb us → p ≠ D → rl ≠ D → Q (.ref p) H'
end FS

set_option Elab.async false
set_option linter.all false
set_option maxRecDepth 100000
set_option maxHeartbeats 4000000
namespace FS
open PySem PySem.Spec PyProof.Rows L2
section
variable {P : Program} {w : World} {K : PySem.W.Frag} {mg : Str → Option Value} {base : Heap}
abbrev N_law_any_plain : List Str := ["_law_die", "_law_wraps", "_law_modes", "_law_table", "_law_name", "_law_some", "_law_kinds", "_law_rows", "_law_one"]
theorem sc_law_any_plain : FnScope N_law_any_plain ["_law_die", "_law_wraps"] (defScope s_law_any_plain) := ⟨rfl, rfl, rfl, by decide +kernel, rfl, by decide +kernel, by decide +kernel⟩
theorem ok_l_any_plain {f : Addr} {fd : FuncData} (F : Fun K "_law_any_plain" "_law_any_plain" s_law_any_plain f fd) (T : Nm K mg) (Cl_cast : Cal P w K mg base 1 "_law_cast" ["_law_die", "_law_total"] spCast) (Cl_pick : Cal P w K mg base 2 "_law_pick" ["_law_die", "_law_items"] (spPick K)) (Cl_shuffle : Cal P w K mg base 2 "_law_shuffle" ["_law_die", "_law_items"] (spShuffle K)) (Cl_any_body : Cal P w K mg base 13 "_law_any_body" ["_law_die", "_law_modes", "_law_table", "_law_own"] (spBody K)) : FnOk P w K mg base CX0 14 f fd ["_law_die", "_law_wraps"] (spPlain K) := by
  have nd := sc_law_any_plain.nd
  refine F.ok sc_law_any_plain (fun vs H Q E h => ?_) (fun cdv A outer s H vs Q E hr h => ?_)
  · obtain ⟨D, wb, rfl, d, q⟩ := h
    rfl
  · obtain ⟨D, wb, rfl, d, q⟩ := h
    skip
    refine ⟨_, (pss_cons (ps_par (i := 2) (j := 3) (by rfl) nd rfl rfl (by decide) rfl rfl (pa_cons (pe_own Cl_pick (hr.mono (by decide)) (by rfl) (pa_cons (pv 0) (pa_cons (pe_lst (pa_cons pe_int (pa_cons pe_int (pa_cons pe_int (pa_cons pe_int pa_nil))))) pa_nil))) (pa_cons (pe_disp (pps_cons pe_str (pe_tup pa_nil) pps_nil) rfl rfl (List.cons_ne_nil _ _) (Nat.le_of_ble_eq_true rfl)) pa_nil)) (by rfl))
  (pss_cons (ps_for PassesOwn.never rfl (pi_list (pe_slice sl_list (pe_own Cl_shuffle (hr.mono (by decide)) (by rfl) (pa_cons (pv 0) (pa_cons (pe_lst (pa_cons pe_str (pa_cons pe_str (pa_cons pe_str (pa_cons pe_str pa_nil))))) pa_nil))) po_none (po_some (pe_own Cl_cast (hr.mono (by decide)) (by rfl) (pa_cons (pv 0) (pa_cons pe_int pa_nil)))))) (pg_name (i := 4) nd rfl (Or.inl rfl))
  (pss_cons (ps_set (i := 5) nd rfl (Or.inl rfl) (pe_slice sl_list (pe_own Cl_shuffle (hr.mono (by decide)) (by rfl) (pa_cons (pv 0) (pa_cons (pe_lst (pa_cons pe_str (pa_cons pe_str (pa_cons pe_str pa_nil)))) pa_nil))) po_none (po_some (pe_own Cl_pick (hr.mono (by decide)) (by rfl) (pa_cons (pv 0) (pa_cons (pe_lst (pa_cons pe_int (pa_cons pe_int (pa_cons pe_int (pa_cons pe_int pa_nil))))) pa_nil))))))
  (pss_cons (ps_set (i := 6) nd rfl (Or.inr rfl) (pe_ifExp (PW.pt (pw_and (pt_val (pv 1)) (pw_and1 (pt_cmpR op_lt (pv 2) pe_int (nomark _))))) (pe_lst (pa_cons pe_str (pa_cons pe_str (pa_cons pe_str pa_nil)))) (pe_lst (pa_cons pe_str pa_nil))))
  (pss_one (ps_asg (pe_callTy call_tuple_of (by rfl) T.b_tuple (by decide +kernel) (pa_cons (pe_lc (own := [("_law_one", 8)]) (g := gName 8) (tt := tYes) rfl nd (pi_list (pv 5)) (blkOk_by (own := [("_law_one", 8)]) (N := N_law_any_plain) (sc := defScope s_law_any_plain) (by decide +kernel)) (fun _ _ _ _ _ => (pg_name (i := 8) nd rfl (Or.inl rfl))) (fun _ _ _ _ _ => pts_nil) (fun _ _ _ _ _ => (pe_tup (pa_cons (pv 8) (pa_cons (pe_own Cl_pick (hr.mono (by decide)) (by rfl) (pa_cons (pv 0) (pa_cons (pv 6) pa_nil))) pa_nil))))) pa_nil)) (pg_sub (pv 3) (pv 4) (set_dict (u1 hr))))))))
  (pss_cons (ps_set (i := 7) nd rfl (Or.inl rfl) (pe_lst pa_nil))
  (pss_cons (ps_for PassesOwn.never rfl (pi_list (pe_own Cl_shuffle (hr.mono (by decide)) (by rfl) (pa_cons (pv 0) (pa_cons (pe_callB (call_sortedD rfl) (by rfl) T.b_sorted (by decide +kernel) (pa_cons (pv 3) pa_nil)) pa_nil)))) (pg_name (i := 4) nd rfl (Or.inl rfl))
  (pss_one (ps_expr (pe_bm PySem.F.plainAttrs_list PySem.F.slot_list_append PySem.F.type_list_append mt_append (pv 7) (pa_cons (pe_lst (pa_cons (pv 4) (pa_cons (pe_dget (u1 hr) (pv 3) (pv 4) (fun _ _ => rfl)) (pa_cons (pe_own Cl_any_body (hr.mono (by decide)) (by rfl) (pa_cons (pv 0) (pa_cons (pv 2) (pa_cons (pv 3) (pa_cons (pe_dget (u1 hr) (pv 3) (pv 4) (fun _ _ => rfl)) pa_nil))))) pa_nil)))) pa_nil)))))
  (pss_one (ps_ret (pe_lst (pa_cons (pv 2) (pa_cons (pv 7) pa_nil))))))))), ?_⟩

    refine ⟨_, rfl, by show 4 ≤ sizeLine; decide, fun p1 n1 => ?_⟩
    have g1 : Go D H (upd H p1 (.lst [V.int 2, V.int 1, V.int 2, V.int 3])) := .new d n1
    have e1 : upd H p1 (.lst [V.int 2, V.int 1, V.int 2, V.int 3]) p1 = some (.lst [V.int 2, V.int 1, V.int 2, V.int 3]) := upd_same
    have np1 := d.ne n1
    generalize upd H p1 (.lst [V.int 2, V.int 1, V.int 2, V.int 3]) = H1 at g1 e1 ⊢
    refine ⟨D, p1, _, g1.2, rfl, .inl (.inl e1), np1, (fun z => nomatch z), by show 4 < 1000; decide, fun v H2 hv g2' _ => ?_⟩
    obtain ⟨m, m1, m3, rfl⟩ : ∃ m : Int, 1 ≤ m ∧ m ≤ 3 ∧ v = .int m := by
      simp only [List.mem_cons, List.not_mem_nil, or_false] at hv
      rcases hv with rfl | rfl | rfl | rfl
      · exact ⟨2, by omega, by omega, rfl⟩
      · exact ⟨1, by omega, by omega, rfl⟩
      · exact ⟨2, by omega, by omega, rfl⟩
      · exact ⟨3, by omega, by omega, rfl⟩
    have g2 := g1.trans g2'
    clear hv g1 e1 n1 g2'
    refine fun ta nta => ?_
    have ntaD := g2.2.ne nta
    have nta0 := g2.free nta
    have g3 := g2.same (same_upd (o := .dK []) nta)
    have e3 : upd H2 ta (.dK []) ta = some (.dK []) := upd_same
    generalize upd H2 ta (.dK []) = H3 at g3 e3 ⊢
    refine ⟨Nat.zero_le _, fun p3 n3 => ?_⟩
    have g4 := g3.same (same_upd (o := .tup []) n3)
    have e4 := same_upd (o := .tup []) n3 _ _ e3
    have f4 : upd H3 p3 (.tup []) p3 = some (.tup []) := upd_same
    generalize upd H3 p3 (.tup []) = H4 at g4 e4 f4 ⊢
    refine ⟨e4, [(Sum.inr "main", .ref p3)], rfl, by show 1 ≤ 15; decide, ?_⟩
    have t5 : TabAt K (upd H4 ta (.dK (mergeK [] [(Sum.inr "main", V.ref p3)]))) ta [("main", [])] := ⟨[(Sum.inr "main", .ref p3)], upd_same, .cons (.tup (.inl (.inl (by rw [upd_ne (fun z => by rw [z, e4] at f4; cases f4)]; exact f4))) .nil) ⟨Nat.zero_le _, (fun _ h => nomatch h), .nil⟩ (by decide +kernel) .nil, by show 1 ≤ 8; decide⟩
    have g5 := g4.upd (o := .dK (mergeK [] [(Sum.inr "main", V.ref p3)])) nta0 ntaD
    generalize upd H4 ta (.dK (mergeK [] [(Sum.inr "main", V.ref p3)])) = H5 at t5 g5 ⊢
    refine ⟨_, _, rfl, ?_⟩
    clear g4 e4 f4 g3 e3 g2 nta n3
    -- the names
    refine ⟨_, rfl, by show 4 ≤ sizeLine; decide, fun p6 n6 => ?_⟩
    have g6 := g5.same (same_upd (o := .lst ([("twice" : Str), "deep", "p", "locked"].map V.str)) n6)
    have t6 := t5.same (same_upd (o := .lst ([("twice" : Str), "deep", "p", "locked"].map V.str)) n6)
    have np6 := g5.2.ne n6
    refine ⟨D, p6, [("twice" : Str), "deep", "p", "locked"], rfl, g6.2, .inl (.inl upd_same), np6, by show 4 ≤ 100; decide, fun zs H7 p7 pm g7' n7 np7 e7 => ?_⟩
    have t7 := t6.go g6.2 g7'
    have g7 := g6.trans g7'
    clear g7' n7
    refine ⟨_, rfl, D, 4, rfl, g7.2, by omega, by omega, fun r H8 r0 r1 g8' _ => ?_⟩
    obtain ⟨k, rfl⟩ : ∃ k : Nat, r = (k : Int) := ⟨r.toNat, by omega⟩
    have t8 := t7.go g7.2 g8'
    have e8 := g8'.1 _ _ np7 e7
    have g8 := g7.trans g8'
    clear g8' e7 t7 t6 t5 g5 g6 g7 n6
    refine ⟨_, rfl, p7, _, rfl, .inl (.inl e8), fun p9 n9 => ?_⟩
    have ec : cutV (zs.map V.str) none (some (k : Int)) = (zs.take k).map V.str := by rw [cut_take, take_str]
    rw [ec]
    have wz : ∀ z ∈ zs.take k, wordB z = true := fun z hz => by
      have h := pm.mem_iff.mp (List.mem_of_mem_take hz)
      have : ∀ z ∈ [("twice" : Str), "deep", "p", "locked"], wordB z = true := by decide +kernel
      exact this z h
    have zz : ("zz" : Str) ∉ zs.take k := fun hz => by
      have h := pm.mem_iff.mp (List.mem_of_mem_take hz)
      have : ("zz" : Str) ∉ [("twice" : Str), "deep", "p", "locked"] := by decide +kernel
      exact this h
    have lz : (zs.take k).length ≤ 4 := by
      have := pm.length_eq
      rw [List.length_take]
      have e : ([("twice" : Str), "deep", "p", "locked"] : List Str).length = 4 := rfl
      omega
    have nz : (("main" : Str) :: zs.take k).Nodup := by
      have h0 : (("main" : Str) :: [("twice" : Str), "deep", "p", "locked"] : List Str).Nodup := by decide +kernel
      have h1 : (("main" : Str) :: zs).Nodup := (List.Perm.nodup_iff (pm.cons ("main" : Str))).mpr h0
      exact h1.sublist ((List.take_sublist k zs).cons₂ _)
    generalize zs.take k = ws at wz lz nz zz ⊢
    have g9 := g8.same (same_upd (o := .lst (ws.map V.str)) n9)
    have t9 := t8.same (same_upd (o := .lst (ws.map V.str)) n9)
    have e9 : upd H8 p9 (.lst (ws.map V.str)) p9 = some (.lst (ws.map V.str)) := upd_same
    have np9 := g8.2.ne n9
    have n90 := g8.free n9
    have nt9 : p9 ≠ ta := fun z => by
      obtain ⟨_, h, _⟩ := t8
      rw [z, h] at n9
      cases n9
    generalize upd H8 p9 (.lst (ws.map V.str)) = H9 at g9 t9 e9 ⊢
    clear g8 t8 e8 n9 ec pm
    refine ⟨p9, rfl, ⟨_, .inl (.inl e9)⟩, for_list (xs := ws.map V.str) (fun i σ H' => ∃ (y4 y5 y6 : Option V) (tb : Tbl), σ = [some (.ref D), some (.bl wb), some (.int m), some (.ref ta), y4, y5, y6, none, none] ∧ Go D H H' ∧ H' p9 = some (.lst (ws.map V.str)) ∧ (∃ kvs, H' ta = some (.dK kvs) ∧ TabV K H' kvs tb) ∧ tb.map (·.1) = ("main" : Str) :: ws.take i ∧ tb.lookup ("main" : Str) = some [] ∧ (m = 3 → ∀ p ∈ tb, ∀ q ∈ p.2, q.2 = false)) ?_ ?_ ?_ ?_⟩
    · obtain ⟨kvs, h1, h2, h3⟩ := t9
      exact ⟨_, _, _, _, rfl, g9, e9, ⟨kvs, h1, h2⟩, rfl, rfl, fun _ p hp q hq => by rw [List.mem_singleton.mp hp] at hq; cases hq⟩
    · rintro i σ H' hi ⟨_, _, _, _, _, _, e, _⟩
      exact .inl (.inl e)
    · rintro i x σ G0 hx ⟨y4, y5, y6, tb, rfl, g0, e0, ⟨kvs, ht, tv⟩, en, lm, m3k⟩
      have lt : tb.length ≤ i + 1 := by
        rw [← List.length_map (f := fun z : Str × List (Str × Bool) => z.1), en, List.length_cons, List.length_take]
        omega
      rw [List.getElem?_map] at hx
      obtain ⟨nm, hnm, rfl⟩ := Option.map_eq_some_iff.mp hx
      have wd := wz nm (List.mem_of_getElem? hnm)
      have nn : nm ∉ tb.map (·.1) := by rw [en]; exact fresh_name nz hnm
      have li := (List.getElem?_eq_some_iff.mp hnm).1
      clear hx
      have hta : ∀ {G' : Hp}, Go D G0 G' → G' ta = some (.dK kvs) := fun g => g.1 _ _ ntaD ht
      refine ⟨_, rfl, by show 3 ≤ sizeLine; decide, fun q1 m1' => ?_⟩
      have h1 := Go.new (o := .lst ([("b" : Str), "w", "x"].map V.str)) g0.2 m1'
      have mq1 := g0.2.ne m1'
      refine ⟨D, q1, [("b" : Str), "w", "x"], rfl, h1.2, .inl (.inl upd_same), mq1, by show 3 ≤ 100; decide, fun zs' G1 q2 pm' h1' m2 mq2 f2 => ?_⟩
      have h2 := h1.trans h1'
      clear h1 h1' m2
      refine ⟨_, rfl, by show 4 ≤ sizeLine; decide, fun q3 m3' => ?_⟩
      have h3 := h2.same (same_upd (o := .lst [V.int 1, V.int 2, V.int 0, V.int 1]) m3')
      have f3 := same_upd (o := .lst [V.int 1, V.int 2, V.int 0, V.int 1]) m3' _ _ f2
      have e3 : upd G1 q3 (.lst [V.int 1, V.int 2, V.int 0, V.int 1]) q3 = some (.lst [V.int 1, V.int 2, V.int 0, V.int 1]) := upd_same
      have mq3 := h2.2.ne m3'
      generalize upd G1 q3 (.lst [V.int 1, V.int 2, V.int 0, V.int 1]) = G3 at h3 f3 e3 ⊢
      refine ⟨D, q3, _, h3.2, rfl, .inl (.inl e3), mq3, (fun z => nomatch z), by show 4 < 1000; decide, fun v G4 hv h4' _ => ?_⟩
      obtain ⟨c, rfl⟩ : ∃ c : Nat, v = .int (c : Int) := by
        simp only [List.mem_cons, List.not_mem_nil, or_false] at hv
        rcases hv with rfl | rfl | rfl | rfl
        · exact ⟨1, rfl⟩
        · exact ⟨2, rfl⟩
        · exact ⟨0, rfl⟩
        · exact ⟨1, rfl⟩
      have h4 := h3.trans h4'
      have f4 := h4'.1 _ _ mq2 f3
      clear hv h4' h3 f3 e3 h2 f2 m3'
      refine ⟨_, rfl, q2, _, rfl, .inl (.inl f4), fun ps m5 => ?_⟩
      have ec : cutV (zs'.map V.str) none (some (c : Int)) = (zs'.take c).map V.str := by rw [cut_take, take_str]
      rw [ec]
      have wn : (∀ z ∈ zs'.take c, wordB z = true) ∧ (zs'.take c).Nodup ∧ (zs'.take c).length ≤ 3 := by
        refine ⟨fun z hz => ?_, ?_, ?_⟩
        · have h := pm'.mem_iff.mp (List.mem_of_mem_take hz)
          have : ∀ z ∈ [("b" : Str), "w", "x"], wordB z = true := by decide +kernel
          exact this z h
        · have : ([("b" : Str), "w", "x"] : List Str).Nodup := by decide +kernel
          exact ((pm'.nodup_iff).mpr this).sublist (List.take_sublist _ _)
        · have := pm'.length_eq
          rw [List.length_take]
          have e : ([("b" : Str), "w", "x"] : List Str).length = 3 := rfl
          omega
      generalize zs'.take c = xs at wn ⊢
      obtain ⟨wx, ndx, lx⟩ := wn
      have h5 := h4.same (same_upd (o := .lst (xs.map V.str)) m5)
      have e5 : upd G4 ps (.lst (xs.map V.str)) ps = some (.lst (xs.map V.str)) := upd_same
      have mps := h4.2.ne m5
      generalize upd G4 ps (.lst (xs.map V.str)) = G5 at h5 e5 ⊢
      clear h4 f4 m5 ec pm'
      refine ⟨_, rfl, wb, rfl, ite2 (fun _ => ?_) (fun _ => ?_)⟩
      · refine ⟨_, rfl, _, _, rfl, rfl, _, rfl, ite2 (fun cm => ?_) (fun _ => ?_)⟩
        · refine ⟨by show 3 ≤ sizeLine; decide, fun pk mk => ?_⟩
          obtain ⟨kl, ekl, klne, kl3, hk⟩ : ∃ kl : List Bool, [V.str "block", V.str "wrap", V.str "block"] = kl.map (fun b => V.str (kd b)) ∧ kl ≠ [] ∧ kl.length ≤ 3 ∧ (m = 3 → ∀ b ∈ kl, b = false) := ⟨[false, true, false], rfl, (fun z => nomatch z), Nat.le_refl _, fun e => absurd (of_decide_eq_true cm) (by omega)⟩
          have sK : Same G5 (upd G5 pk (.lst [V.str "block", V.str "wrap", V.str "block"])) := same_upd mk
          have eK : upd G5 pk (.lst [V.str "block", V.str "wrap", V.str "block"]) pk = some (.lst (kl.map (fun b => V.str (kd b)))) := by rw [upd_same, ekl]
          generalize upd G5 pk (.lst [V.str "block", V.str "wrap", V.str "block"]) = GK at sK eK ⊢
          clear ekl
          have hK := h5.same sK
          have mpk := h5.2.ne mk
          have esK := sK _ _ e5
          clear h5 e5 sK mk
          refine ⟨_, rfl, ps, rfl, ⟨_, .inl (.inl esK)⟩, fun L nL => ?_⟩
          have nLD := hK.2.ne nL
          refine lc_list (xs := xs.map V.str) (fun i H' => Go D GK H' ∧ ∃ (own : List (Str × Bool)) (vs : List V), own.map (·.1) = xs.take i ∧ (∀ q ∈ own, q.2 ∈ kl) ∧ H' L = some (.lst vs) ∧ DpAll K H' vs (own.map parD)) ⟨(Go.refl hK.2).upd nL nLD, [], [], rfl, (fun _ h => nomatch h), upd_same, .nil⟩ (fun i H' hi h => h.1.seq mps (.inl (.inl esK))) (fun i x GA hx h => ?_) (fun GA h => ?_)
          · obtain ⟨ga, own, vs, eo, ek, eL, rv⟩ := h
            rw [List.getElem?_map] at hx
            obtain ⟨z, hz, rfl⟩ := Option.map_eq_some_iff.mp hx
            have li2 := (List.getElem?_eq_some_iff.mp hz).1
            have kne : kl.map (fun b => V.str (kd b)) ≠ [] := fun z => klne (List.map_eq_nil_iff.mp z)
            refine ⟨rfl, _, rfl, _, rfl, _, rfl, D, pk, _, ga.2, rfl, .inl (.inl (ga.1 _ _ mpk eK)), mpk, kne, by rw [List.length_map]; omega, fun v GB hv gb _ => ?_⟩
            obtain ⟨b, hb, rfl⟩ := List.mem_map.mp hv
            refine ⟨by show 2 ≤ sizeLine; decide, fun pt nt => ?_⟩
            have st := same_upd (o := .tup [V.str z, V.str (kd b)]) nt
            have eLB := st _ _ (gb.1 _ _ nLD eL)
            have et : upd GB pt (.tup [V.str z, V.str (kd b)]) pt = some (.tup [V.str z, V.str (kd b)]) := upd_same
            have gt := (ga.trans gb).same st
            have tkB := (gb.tk ga.2).trans (.of st)
            generalize upd GB pt (.tup [V.str z, V.str (kd b)]) = GC at st eLB et gt tkB ⊢
            have sl := Stay.set (ys := vs ++ [V.ref pt]) eLB
            have lv : vs.length ≤ 3 := by
              rw [DpAll.len rv, List.length_map, ← List.length_map (f := fun z : Str × Bool => z.1), eo, List.length_take]
              omega
            refine ⟨vs, eLB, small1000 (by omega), gt.upd nL nLD, own ++ [(z, b)], vs ++ [.ref pt], ?_, (fun q hq => (List.mem_append.mp hq).elim (ek q) fun h => by rw [List.mem_singleton.mp h]; exact hb), upd_same, ?_⟩
            · rw [List.map_append, eo, take_more hz]
              rfl
            · rw [List.map_append]
              exact DpAll.app (DpAll.tk (tkB.trans (.stay sl)) (pars_noL own) rv) (.cons (.tup (sl.sqT (.inl (.inl et))) (.cons (.str _) (.cons (.str _) .nil))) .nil)
          · obtain ⟨ga, own, vs, eo, ek, eL, rv⟩ := h
            rw [List.length_map, List.take_length] at eo
            have lo : own.length = xs.length := by rw [← eo, List.length_map]
            have poO : ParOk own := ⟨by omega, fun p hp => wx _ (by rw [← eo]; exact List.mem_map_of_mem hp), by rw [eo]; exact ndx⟩
            refine ⟨L, vs, rfl, .inl ⟨.inl (.inl eL), fun pT nT => ?_⟩⟩
            have sT := same_upd (o := .tup vs) nT
            have eT : upd GA pT (.tup vs) pT = some (.tup vs) := upd_same
            have gT := (hK.trans ga).same sT
            have rvT := DpAll.tk (.of sT) (pars_noL own) rv
            generalize upd GA pT (.tup vs) = GT at sT eT gT rvT ⊢
            have htT := hta gT
            have tvT := tv.tk (gT.tk g0.2)
            have np9D := np9
            refine ⟨_, rfl, _, rfl, ta, _, rfl, DPut.k (k := Sum.inr nm) htT (by rw [tv.len]; exact small1000 (by omega)), ?_⟩
            have gU := gT.upd (o := .dK (putK kvs (Sum.inr nm) (V.ref pT))) (a := D) (p := ta)
            have k1 := tvT.putN (v := .ref pT) (own := own) (.tup (.inl (.inl eT)) rvT) poO wd nn
            have tkU : TK GT (upd GT ta (.dK (putK kvs (Sum.inr nm) (V.ref pT)))) := TK.set htT rfl
            refine ⟨_, _, _, _, rfl, (g0.trans gT).upd nta0 ntaD, ?_, ⟨_, upd_same, k1.tk tkU⟩, by rw [List.map_append, en, take_more hnm]; rfl, look_app lm, wraps_app m3k fun e3 q hq => hk e3 _ (ek q hq)⟩
            rw [upd_ne nt9]
            exact gT.1 _ _ np9 e0
        · refine ⟨by show 1 ≤ sizeLine; decide, fun pk mk => ?_⟩
          obtain ⟨kl, ekl, klne, kl3, hk⟩ : ∃ kl : List Bool, [V.str "block"] = kl.map (fun b => V.str (kd b)) ∧ kl ≠ [] ∧ kl.length ≤ 3 ∧ (m = 3 → ∀ b ∈ kl, b = false) := ⟨[false], rfl, (fun z => nomatch z), by show 1 ≤ 3; decide, fun _ b hb => List.mem_singleton.mp hb⟩
          have sK : Same G5 (upd G5 pk (.lst [V.str "block"])) := same_upd mk
          have eK : upd G5 pk (.lst [V.str "block"]) pk = some (.lst (kl.map (fun b => V.str (kd b)))) := by rw [upd_same, ekl]
          generalize upd G5 pk (.lst [V.str "block"]) = GK at sK eK ⊢
          clear ekl
          have hK := h5.same sK
          have mpk := h5.2.ne mk
          have esK := sK _ _ e5
          clear h5 e5 sK mk
          refine ⟨_, rfl, ps, rfl, ⟨_, .inl (.inl esK)⟩, fun L nL => ?_⟩
          have nLD := hK.2.ne nL
          refine lc_list (xs := xs.map V.str) (fun i H' => Go D GK H' ∧ ∃ (own : List (Str × Bool)) (vs : List V), own.map (·.1) = xs.take i ∧ (∀ q ∈ own, q.2 ∈ kl) ∧ H' L = some (.lst vs) ∧ DpAll K H' vs (own.map parD)) ⟨(Go.refl hK.2).upd nL nLD, [], [], rfl, (fun _ h => nomatch h), upd_same, .nil⟩ (fun i H' hi h => h.1.seq mps (.inl (.inl esK))) (fun i x GA hx h => ?_) (fun GA h => ?_)
          · obtain ⟨ga, own, vs, eo, ek, eL, rv⟩ := h
            rw [List.getElem?_map] at hx
            obtain ⟨z, hz, rfl⟩ := Option.map_eq_some_iff.mp hx
            have li2 := (List.getElem?_eq_some_iff.mp hz).1
            have kne : kl.map (fun b => V.str (kd b)) ≠ [] := fun z => klne (List.map_eq_nil_iff.mp z)
            refine ⟨rfl, _, rfl, _, rfl, _, rfl, D, pk, _, ga.2, rfl, .inl (.inl (ga.1 _ _ mpk eK)), mpk, kne, by rw [List.length_map]; omega, fun v GB hv gb _ => ?_⟩
            obtain ⟨b, hb, rfl⟩ := List.mem_map.mp hv
            refine ⟨by show 2 ≤ sizeLine; decide, fun pt nt => ?_⟩
            have st := same_upd (o := .tup [V.str z, V.str (kd b)]) nt
            have eLB := st _ _ (gb.1 _ _ nLD eL)
            have et : upd GB pt (.tup [V.str z, V.str (kd b)]) pt = some (.tup [V.str z, V.str (kd b)]) := upd_same
            have gt := (ga.trans gb).same st
            have tkB := (gb.tk ga.2).trans (.of st)
            generalize upd GB pt (.tup [V.str z, V.str (kd b)]) = GC at st eLB et gt tkB ⊢
            have sl := Stay.set (ys := vs ++ [V.ref pt]) eLB
            have lv : vs.length ≤ 3 := by
              rw [DpAll.len rv, List.length_map, ← List.length_map (f := fun z : Str × Bool => z.1), eo, List.length_take]
              omega
            refine ⟨vs, eLB, small1000 (by omega), gt.upd nL nLD, own ++ [(z, b)], vs ++ [.ref pt], ?_, (fun q hq => (List.mem_append.mp hq).elim (ek q) fun h => by rw [List.mem_singleton.mp h]; exact hb), upd_same, ?_⟩
            · rw [List.map_append, eo, take_more hz]
              rfl
            · rw [List.map_append]
              exact DpAll.app (DpAll.tk (tkB.trans (.stay sl)) (pars_noL own) rv) (.cons (.tup (sl.sqT (.inl (.inl et))) (.cons (.str _) (.cons (.str _) .nil))) .nil)
          · obtain ⟨ga, own, vs, eo, ek, eL, rv⟩ := h
            rw [List.length_map, List.take_length] at eo
            have lo : own.length = xs.length := by rw [← eo, List.length_map]
            have poO : ParOk own := ⟨by omega, fun p hp => wx _ (by rw [← eo]; exact List.mem_map_of_mem hp), by rw [eo]; exact ndx⟩
            refine ⟨L, vs, rfl, .inl ⟨.inl (.inl eL), fun pT nT => ?_⟩⟩
            have sT := same_upd (o := .tup vs) nT
            have eT : upd GA pT (.tup vs) pT = some (.tup vs) := upd_same
            have gT := (hK.trans ga).same sT
            have rvT := DpAll.tk (.of sT) (pars_noL own) rv
            generalize upd GA pT (.tup vs) = GT at sT eT gT rvT ⊢
            have htT := hta gT
            have tvT := tv.tk (gT.tk g0.2)
            have np9D := np9
            refine ⟨_, rfl, _, rfl, ta, _, rfl, DPut.k (k := Sum.inr nm) htT (by rw [tv.len]; exact small1000 (by omega)), ?_⟩
            have gU := gT.upd (o := .dK (putK kvs (Sum.inr nm) (V.ref pT))) (a := D) (p := ta)
            have k1 := tvT.putN (v := .ref pT) (own := own) (.tup (.inl (.inl eT)) rvT) poO wd nn
            have tkU : TK GT (upd GT ta (.dK (putK kvs (Sum.inr nm) (V.ref pT)))) := TK.set htT rfl
            refine ⟨_, _, _, _, rfl, (g0.trans gT).upd nta0 ntaD, ?_, ⟨_, upd_same, k1.tk tkU⟩, by rw [List.map_append, en, take_more hnm]; rfl, look_app lm, wraps_app m3k fun e3 q hq => hk e3 _ (ek q hq)⟩
            rw [upd_ne nt9]
            exact gT.1 _ _ np9 e0
      · refine ⟨by show 1 ≤ sizeLine; decide, fun pk mk => ?_⟩
        obtain ⟨kl, ekl, klne, kl3, hk⟩ : ∃ kl : List Bool, [V.str "block"] = kl.map (fun b => V.str (kd b)) ∧ kl ≠ [] ∧ kl.length ≤ 3 ∧ (m = 3 → ∀ b ∈ kl, b = false) := ⟨[false], rfl, (fun z => nomatch z), by show 1 ≤ 3; decide, fun _ b hb => List.mem_singleton.mp hb⟩
        have sK : Same G5 (upd G5 pk (.lst [V.str "block"])) := same_upd mk
        have eK : upd G5 pk (.lst [V.str "block"]) pk = some (.lst (kl.map (fun b => V.str (kd b)))) := by rw [upd_same, ekl]
        generalize upd G5 pk (.lst [V.str "block"]) = GK at sK eK ⊢
        clear ekl
        have hK := h5.same sK
        have mpk := h5.2.ne mk
        have esK := sK _ _ e5
        clear h5 e5 sK mk
        refine ⟨_, rfl, ps, rfl, ⟨_, .inl (.inl esK)⟩, fun L nL => ?_⟩
        have nLD := hK.2.ne nL
        refine lc_list (xs := xs.map V.str) (fun i H' => Go D GK H' ∧ ∃ (own : List (Str × Bool)) (vs : List V), own.map (·.1) = xs.take i ∧ (∀ q ∈ own, q.2 ∈ kl) ∧ H' L = some (.lst vs) ∧ DpAll K H' vs (own.map parD)) ⟨(Go.refl hK.2).upd nL nLD, [], [], rfl, (fun _ h => nomatch h), upd_same, .nil⟩ (fun i H' hi h => h.1.seq mps (.inl (.inl esK))) (fun i x GA hx h => ?_) (fun GA h => ?_)
        · obtain ⟨ga, own, vs, eo, ek, eL, rv⟩ := h
          rw [List.getElem?_map] at hx
          obtain ⟨z, hz, rfl⟩ := Option.map_eq_some_iff.mp hx
          have li2 := (List.getElem?_eq_some_iff.mp hz).1
          have kne : kl.map (fun b => V.str (kd b)) ≠ [] := fun z => klne (List.map_eq_nil_iff.mp z)
          refine ⟨rfl, _, rfl, _, rfl, _, rfl, D, pk, _, ga.2, rfl, .inl (.inl (ga.1 _ _ mpk eK)), mpk, kne, by rw [List.length_map]; omega, fun v GB hv gb _ => ?_⟩
          obtain ⟨b, hb, rfl⟩ := List.mem_map.mp hv
          refine ⟨by show 2 ≤ sizeLine; decide, fun pt nt => ?_⟩
          have st := same_upd (o := .tup [V.str z, V.str (kd b)]) nt
          have eLB := st _ _ (gb.1 _ _ nLD eL)
          have et : upd GB pt (.tup [V.str z, V.str (kd b)]) pt = some (.tup [V.str z, V.str (kd b)]) := upd_same
          have gt := (ga.trans gb).same st
          have tkB := (gb.tk ga.2).trans (.of st)
          generalize upd GB pt (.tup [V.str z, V.str (kd b)]) = GC at st eLB et gt tkB ⊢
          have sl := Stay.set (ys := vs ++ [V.ref pt]) eLB
          have lv : vs.length ≤ 3 := by
            rw [DpAll.len rv, List.length_map, ← List.length_map (f := fun z : Str × Bool => z.1), eo, List.length_take]
            omega
          refine ⟨vs, eLB, small1000 (by omega), gt.upd nL nLD, own ++ [(z, b)], vs ++ [.ref pt], ?_, (fun q hq => (List.mem_append.mp hq).elim (ek q) fun h => by rw [List.mem_singleton.mp h]; exact hb), upd_same, ?_⟩
          · rw [List.map_append, eo, take_more hz]
            rfl
          · rw [List.map_append]
            exact DpAll.app (DpAll.tk (tkB.trans (.stay sl)) (pars_noL own) rv) (.cons (.tup (sl.sqT (.inl (.inl et))) (.cons (.str _) (.cons (.str _) .nil))) .nil)
        · obtain ⟨ga, own, vs, eo, ek, eL, rv⟩ := h
          rw [List.length_map, List.take_length] at eo
          have lo : own.length = xs.length := by rw [← eo, List.length_map]
          have poO : ParOk own := ⟨by omega, fun p hp => wx _ (by rw [← eo]; exact List.mem_map_of_mem hp), by rw [eo]; exact ndx⟩
          refine ⟨L, vs, rfl, .inl ⟨.inl (.inl eL), fun pT nT => ?_⟩⟩
          have sT := same_upd (o := .tup vs) nT
          have eT : upd GA pT (.tup vs) pT = some (.tup vs) := upd_same
          have gT := (hK.trans ga).same sT
          have rvT := DpAll.tk (.of sT) (pars_noL own) rv
          generalize upd GA pT (.tup vs) = GT at sT eT gT rvT ⊢
          have htT := hta gT
          have tvT := tv.tk (gT.tk g0.2)
          have np9D := np9
          refine ⟨_, rfl, _, rfl, ta, _, rfl, DPut.k (k := Sum.inr nm) htT (by rw [tv.len]; exact small1000 (by omega)), ?_⟩
          have gU := gT.upd (o := .dK (putK kvs (Sum.inr nm) (V.ref pT))) (a := D) (p := ta)
          have k1 := tvT.putN (v := .ref pT) (own := own) (.tup (.inl (.inl eT)) rvT) poO wd nn
          have tkU : TK GT (upd GT ta (.dK (putK kvs (Sum.inr nm) (V.ref pT)))) := TK.set htT rfl
          refine ⟨_, _, _, _, rfl, (g0.trans gT).upd nta0 ntaD, ?_, ⟨_, upd_same, k1.tk tkU⟩, by rw [List.map_append, en, take_more hnm]; rfl, look_app lm, wraps_app m3k fun e3 q hq => hk e3 _ (ek q hq)⟩
          rw [upd_ne nt9]
          exact gT.1 _ _ np9 e0
    · rintro σ G0 ⟨y4, y5, y6, tb, rfl, g0, e0, ⟨kvs, ht, tv⟩, en, lm, m3k⟩
      rw [List.length_map, List.take_length] at en
      have lt : tb.length ≤ 5 := by
        rw [← List.length_map (f := fun z : Str × List (Str × Bool) => z.1), en, List.length_cons]
        omega
      have tne : tb ≠ [] := fun z => by
        rw [z] at en
        cases en
      have tnd : (tb.map (·.1)).Nodup := by rw [en]; exact nz
      have tzz : ("zz" : Str) ∉ tb.map (·.1) := by
        rw [en]
        intro h
        rcases List.mem_cons.mp h with e | e
        · have : ("zz" : Str) ≠ "main" := by decide +kernel
          exact this e
        · exact zz e
      have tin : ("main" : Str) ∈ tb.map (·.1) := by rw [en]; exact List.mem_cons_self
      have tl : tb.length ≤ 8 := by omega
      clear e0 lt
      refine ⟨Nat.zero_le _, fun rl nrl => ?_⟩
      have nrlD := g0.2.ne nrl
      have nrl0 := g0.free nrl
      have nrt : ta ≠ rl := fun z => by
        rw [← z, ht] at nrl
        cases nrl
      have s1 := same_upd (o := .lst []) nrl
      have g1 := g0.same s1
      have f1 : upd G0 rl (.lst []) rl = some (.lst (([] : List Addr).map V.ref)) := upd_same
      have t1 := s1 _ _ ht
      have v1 := tv.tk (.of s1)
      generalize upd G0 rl (.lst []) = G1 at s1 g1 f1 t1 v1 ⊢
      clear ht tv nrl
      refine ⟨_, rfl, _, rfl, ta, kvs, tb.map (·.1), rfl, .of t1, v1.keys, by rw [List.length_map]; omega, fun ys p2 pm so n2 => ?_⟩
      have s2 := same_upd (o := .lst (ys.map V.str)) n2
      have e2 : upd G1 p2 (.lst (ys.map V.str)) p2 = some (.lst (ys.map V.str)) := upd_same
      have np2 := g1.2.ne n2
      have g2 := g1.same s2
      have f2 := s2 _ _ f1
      have t2 := s2 _ _ t1
      have v2 := v1.tk (.of s2)
      generalize upd G1 p2 (.lst (ys.map V.str)) = G2 at s2 e2 g2 f2 t2 v2 ⊢
      have ly : ys.length ≤ 8 := by rw [pm.length_eq, List.length_map]; exact tl
      clear s2 s1 g1 f1 t1 v1 n2
      refine ⟨D, p2, ys, rfl, g2.2, .inl (.inl e2), np2, by omega, fun ns G3 p3 pm3 g3' n3 np3 e3 => ?_⟩
      have g3 := g2.trans g3'
      have f3 := g3'.1 _ _ nrlD f2
      have t3 := g3'.1 _ _ ntaD t2
      have v3 := v2.tk (g3'.tk g2.2)
      have n3r : p3 ≠ rl := fun z => by
        rw [z, f2] at n3
        cases n3
      have ln : ns.length ≤ 8 := by rw [pm3.length_eq]; exact ly
      clear g3' n3 e2 g2 f2 t2 v2
      refine ⟨p3, rfl, ⟨_, .inl (.inl e3)⟩, for_list (xs := ns.map V.str) (fun i σ H' => ∃ (y4 y5 y6 : Option V) (rs : List Addr), σ = [some (.ref D), some (.bl wb), some (.int m), some (.ref ta), y4, y5, y6, some (.ref rl), none] ∧ Go D H H' ∧ H' p3 = some (.lst (ns.map V.str)) ∧ H' ta = some (.dK kvs) ∧ TabV K H' kvs tb ∧ H' rl = some (.lst (rs.map V.ref)) ∧ ∃ us : List RowU, us.map (·.1) = ns.take i ∧ RowsAt K H' m tb rs us) ?_ ?_ ?_ ?_⟩
      · exact ⟨_, _, _, [], rfl, g3, e3, t3, v3, f3, [], rfl, .nil⟩
      · rintro i σ H' hi ⟨_, _, _, _, _, _, e, _⟩
        exact .inl (.inl e)
      · rintro i x σ G4 hx ⟨y4, y5, y6, rs, rfl, g4, e4, t4, v4, f4, us, lr0, ra⟩
        rw [List.getElem?_map] at hx
        obtain ⟨nm, hnm, rfl⟩ := Option.map_eq_some_iff.mp hx
        have li := (List.getElem?_eq_some_iff.mp hnm).1
        obtain ⟨v, o, hv, dv, po', mo, wd, lk⟩ := v4.get (pm.mem_iff.mp (pm3.mem_iff.mp (List.mem_of_getElem? hnm)))
        have dg : DGet G4 ta (.str nm) (some v) := hv ▸ DGet.k (k := Sum.inr nm) t4
        have ak : Ask K G4 D ta m tb v o := ⟨g4.2, ⟨kvs, t4, v4, tl⟩, tne, dv, po', m1, m3⟩
        refine ⟨_, rfl, .inl ⟨rfl, _, .inl (.inl f4)⟩, _, rfl, _, rfl, _, rfl, ta, v, rfl, dg, _, rfl, _, rfl, _, rfl, _, rfl, _, rfl, ta, v, rfl, dg, D, ta, m, tb, v, o, rfl, ak, fun bv G5 t g5 bd => ?_⟩
        refine ⟨by show 3 ≤ sizeLine; decide, fun pr nr => ?_⟩
        have sr := same_upd (o := .lst [V.str nm, v, bv]) nr
        have er : upd G5 pr (.lst [V.str nm, v, bv]) pr = some (.lst [V.str nm, v, bv]) := upd_same
        have f5 := sr _ _ (g5.1 _ _ nrlD f4)
        have t5 := sr _ _ (g5.1 _ _ ntaD t4)
        have e5 := sr _ _ (g5.1 _ _ np3 e4)
        have g6 := (g4.trans g5).same sr
        have tk5 := (g5.tk g4.2).trans (.of sr)
        have v5 := v4.tk tk5
        have ra5 : RowsAt K (upd G5 pr (.lst [V.str nm, v, bv])) m tb rs us := ra.map fun h => (h.go g4.2 g5).same sr
        have lr : rs.length = i := by
          rw [ra.len, ← List.length_map (f := fun z : RowU => z.1), lr0, List.length_take]
          omega
        have new : RowAt K (upd G5 pr (.lst [V.str nm, v, bv])) m tb pr nm o t := ⟨⟨v, bv, er, Dp.tk tk5 (pars_noL o) dv, bd.tk (.of sr)⟩, po', wd, lk⟩
        generalize upd G5 pr (.lst [V.str nm, v, bv]) = G6 at sr er f5 t5 e5 g6 tk5 v5 ra5 new ⊢
        refine ⟨rl, rs.map V.ref, .ref pr, rfl, rfl, f5, by rw [List.length_map]; exact small1000 (by omega), ?_⟩
        refine ⟨_, _, _, rs ++ [pr], rfl, g6.upd nrl0 nrlD, ?_, ?_, v5.tk (TK.set f5 rfl), ?_, us ++ [(nm, o, t)], ?_, ?_⟩
        · rw [upd_ne n3r]
          exact e5
        · rw [upd_ne nrt]
          exact t5
        · rw [upd_same, List.map_append]
          rfl
        · rw [List.map_append, lr0, take_more hnm]
          rfl
        · exact (ra5.map fun h => h.set f5).app (new.set f5)
      · rintro σ G4 ⟨y4, y5, y6, rs, rfl, g4, e4, t4, v4, f4, us, lr0, ra⟩
        rw [List.length_map, List.take_length] at lr0
        refine ⟨_, rfl, _, rfl, by show 2 ≤ sizeLine; decide, fun pe ne => ?_⟩
        have se := same_upd (o := .lst [V.int m, V.ref rl]) ne
        have lu : us.length ≤ 8 := by rw [← List.length_map (f := fun z : RowU => z.1), lr0]; exact ln
        exact q _ pe rl m rs us tb (g4.same se) upd_same (se _ _ f4) (ra.map fun h => h.same se) ⟨m1, m3, by rw [lr0]; exact pm3.trans pm, tnd, lm, tin, m3k, lu, tzz⟩ (g4.2.ne ne) nrlD
end
end FS

set_option Elab.async false
set_option linter.all false
set_option maxRecDepth 100000
set_option maxHeartbeats 6400000
/-! set(a list of texts) -/
namespace FS
open PySem PySem.Spec PyProof.Rows L2
theorem SetS.kept {w : World} {h h' : Heap} {a : Addr} {xs : List Str} (R : SetS w h a xs) (k : ∀ o, h.get? a = some o → h'.get? a = some o) : SetS w h' a xs := by
  obtain ⟨o, ms, ep, t, ho, r⟩ := R
  exact ⟨o, ms, ep, t, k o ho, r⟩
section
variable {P : Program} {w : World} {A : Around} {E : Value → Shared → Prop} {s : Shared}
/-- the loop that fills it -/
theorem fill {I : Addr} {fp wr : List Addr} {G : Array GenState → Array GenState → Prop} {n : Nat} {Pv : Nat → Value → Prop} {St : Nat → Shared → Prop} {R : Result → Shared → Prop}
    (W : WalksS P w A.in1 I fp wr G n Pv St) (S : Addr) (hSf : S ∉ fp) (ks : List Str) (hn : n = ks.length) (room : ks.length + 1 < scanBound) (hval : ∀ i v, Pv i v → ∃ z t, ks[i]? = some z ∧ v = .str z t)
    (h0 : Heap) (hS0 : h0.get? S = none) (hw0 : ∀ b ∈ wr, h0.get? b = none) :
    ∀ (k i : Nat) (s : Shared), n - i = k → i ≤ n → St i s → (∀ b o, h0.get? b = some o → s.heap.get? b = some o) → SetS w s.heap S (uniq (ks.take i)) →
      (∀ s', Moved (S :: wr) G s s' → SetS w s'.heap S (uniq ks) → (∀ b o, h0.get? b = some o → s'.heap.get? b = some o) → R (.ok (.ret .none)) s') →
      codeAny (model P w) A (.builtin "set.update.loop" ⟨[.ref S, .ref I], []⟩) R s := by
  have hSw : S ∉ wr := fun h => hSf (W.sub _ h)
  have hsub : ∀ b ∈ wr, b ∈ S :: wr := fun b hb => List.mem_cons_of_mem _ hb
  have keepM : ∀ {s s' : Shared}, Moved wr G s s' → (∀ b o, h0.get? b = some o → s.heap.get? b = some o) → ∀ b o, h0.get? b = some o → s'.heap.get? b = some o := fun hm hkp b o e =>
    hm.heap b o (fun hb => by rw [hw0 b hb] at e; cases e) (hkp b o e)
  intro k
  induction k with
  | zero =>
    intro i s hk' hi hst hkp hS hR
    have hin : i = n := by omega
    subst hin
    refine codeAny_builtin PyProof.Rows.F.entry_set_update_loop ?_
    rw [Around.under_plainId PyProof.Rows.F.plain_set_update_loop _]
    show wpAny _ A.in1 (pyNext (.ref I) >>= _) _ _ s
    refine wpAny_bind (W.done s _ _ hst fun s' hm => ?_)
    show wpAny _ A.in1 (ret Value.none) _ _ s'
    have hkp' := keepM hm hkp
    rw [hn, List.take_length] at hS
    exact wpAny_pure (hR s' (hm.mono hsub) (hS.kept fun o e => hm.heap S o hSw e) hkp')
  | succ k ih =>
    intro i s hk' hi hst hkp hS hR
    have hlt : i < n := by omega
    refine codeAny_builtin PyProof.Rows.F.entry_set_update_loop ?_
    rw [Around.under_plainId PyProof.Rows.F.plain_set_update_loop _]
    show wpAny _ A.in1 (pyNext (.ref I) >>= _) _ _ s
    refine wpAny_bind (W.item i s _ _ hlt hst fun v s' hP hst' hm => ?_)
    obtain ⟨z, tk, hz, rfl⟩ := hval i v hP
    have hkp' := keepM hm hkp
    have hS' := hS.kept fun o e => hm.heap S o hSw e
    show wpAny _ A.in1 (holding [Value.str z tk] (setAdd S (.str z tk)) >>= _) _ _ s'
    refine wpAny_bind (wpAny_holding ?_)
    unfold setAdd
    refine wpAny_holding ?_
    refine wpAny_bind ((strKind P w).pyHash (strKind_is P w z tk) ?_)
    have rm : (uniq (ks.take i)).length + 1 < scanBound := by
      have h1 := uniq_len (ks.take i)
      rw [List.length_take] at h1
      omega
    refine put1 (s := { s' with toks := s'.toks + 1 }) hS' rm fun h' hsb hS2 b => ?_
    have hS3 : SetS w h' S (uniq (ks.take (i + 1))) := by
      rw [take_more hz, uniq_more]
      exact hS2
    have hkp2 : ∀ b o, h0.get? b = some o → h'.get? b = some o := fun b o e => (hsb.2 b (fun z => by rw [z, hS0] at e; cases e)).trans (hkp' b o e)
    refine wpAny_pure ⟨plainId_quiet PyProof.Rows.F.plain_set_update_loop _, ih (i + 1) _ (by omega) hlt (W.frame _ s' _ _ hst' (Nat.le_add_right _ _) fun b hb o e => ?_) hkp2 hS3 fun s'' hm'' hS'' hkp'' => ?_⟩
    · rw [hsb.2 b (fun h : b = S => hSf (by rw [← h]; exact hb))]; exact e
    · refine hR s'' (Moved.trans W.gtrans ((hm.mono hsub).then_heap (Nat.le_add_right _ _) fun b o hb e => ?_) hm'') hS'' hkp''
      rw [hsb.2 b (fun h : b = S => hb (by rw [h]; exact List.mem_cons_self))]; exact e
theorem none_at {h : Heap} {b : Addr} (hb : h.objs.size ≤ b) : h.get? b = none := by
  cases q : h.get? b with
  | none => rfl
  | some o => exact absurd (Nat.lt_of_lt_of_le (Heap.lt_size q) hb) (Nat.lt_irrefl _)
theorem made {l : Addr} {items : Array Value} {ks : List Str} {Q : Value → Shared → Prop} (hh : A.handled = none) (hl : s.heap.IsList l items) (hit : StrsAre items.toList ks) (room : ks.length + 1 < scanBound)
    (h : ∀ (h' : Heap) (tk : Nat), SetS w h' s.heap.objs.size (uniq ks) → (∀ b o, s.heap.get? b = some o → h'.get? b = some o) → Q (.ref s.heap.objs.size) { s with heap := h', toks := tk }) :
    wpAny (model P w) A (call (.type "set") [.ref l]) Q E s := by
  have hisz : items.size = ks.length := by
    rw [← Array.length_toList, ← hit.strs, List.length_map]
  obtain ⟨c, tl, hmro⟩ := PySem.F.called_set.mro
  have hmade := PySem.F.called_set.made
  have hsub := PySem.F.called_set.sub
  refine wpAny_call (codeAny_of_tree ?_)
  show wpAny _ _ (callAny (.type "set") _) _ _ _
  refine wpAny_pure ⟨Code.quiet_builtin _ (by decide +kernel), codeAny_builtin PySem.F.entry_type_call ?_⟩
  rw [Around.under_plain (weight_type_call_type "set" [.ref l] []) rfl]
  have h1 := PySem.F.called_set.notType
  have h2 := PySem.F.called_set.canCreate
  have hct := PySem.F.typeCall_set_1 (.ref l)
  repeat (any_goals (first | assumption | wp_step))
  refine codeAny_mono (L2.code_set_led1 (.ref l) (E := E) (Q₁ := fun obj s₁ => obj = .ref s.heap.objs.size ∧ s₁ = { s with heap := s.heap.push { cls := .type "set", dict := none, data := .set #[] 0 (.fresh 0 0 (!w.params.followText "set-order")) } }) ⟨rfl, rfl⟩) fun r s₁ hr => ?_
  cases r with
  | error e => exact hr
  | ok fl =>
    cases fl with
    | ret obj =>
      obtain ⟨rfl, rfl⟩ := hr
      have R0 : SetS w (s.heap.push { cls := .type "set", dict := none, data := .set #[] 0 (.fresh 0 0 (!w.params.followText "set-order")) }) s.heap.objs.size [] := SetS.new w
      have hS : (s.heap.push { cls := .type "set", dict := none, data := .set #[] 0 (.fresh 0 0 (!w.params.followText "set-order")) }).get? s.heap.objs.size = some { cls := .type "set", dict := none, data := .set #[] 0 (.fresh 0 0 (!w.params.followText "set-order")) } := Heap.get?_push_size _ rfl
      have hT : Shared.TypeIs { s with heap := s.heap.push { cls := .type "set", dict := none, data := .set #[] 0 (.fresh 0 0 (!w.params.followText "set-order")) } } (.ref s.heap.objs.size) "set" := ⟨_, hS, rfl⟩
      have hli := PySem.F.called_set.init.lookup
      have hbi := PySem.F.called_set.init.bind (.ref s.heap.objs.size)
      repeat (any_goals (first | assumption | wp_step))
      refine codeAny_mono (codeAny_call_builtin (R := wants (fun r s₂ => r = .none ∧ ∃ h' tk, s₂ = { s with heap := h', toks := tk } ∧ SetS w h' s.heap.objs.size (uniq ks) ∧
          (∀ b o, s.heap.get? b = some o → h'.get? b = some o)) E) PySem.F.called_set.init.plain PySem.F.entry_set_init (check_set_init_1 hT ?_)) fun r₂ s₂ hr₂ => ?_
      · obtain ⟨ol, hol, hcl, nl, hdl⟩ := hl
        obtain ⟨ocls, odict, odata, oslots⟩ := ol
        simp only at hcl hdl
        subst hcl; subst hdl
        have hol' : (s.heap.push { cls := .type "set", dict := none, data := .set #[] 0 (.fresh 0 0 (!w.params.followText "set-order")) }).get? l = some { cls := .type "list", dict := odict, data := .seq items nl, slots := oslots } := Heap.get?_push_of_some _ hol
        have hsls := PySem.F.sub_list_set
        have hslf := PySem.F.sub_list_frozenset
        have hne : (Value.type "list" == Value.type "dict") = false := by decide
        have hl1 : (s.heap.push { cls := .type "set", dict := none, data := .set #[] 0 (.fresh 0 0 (!w.params.followText "set-order")) }).IsList l items := ⟨_, hol', rfl, nl, rfl⟩
        unfold Builtin.«set.__init__» noKeywords Builtin.Frozenset.updateFrom
        generalize hPI : pyIter = PI
        wp_walk
        subst hPI
        refine wpAny_pyIter_list hl1 ?_
        refine wpAny_bind (wpAny_runValue ?_)
        have hlS : l < s.heap.objs.size := Heap.lt_size hol
        have hh3 : A.in1.in1.in1.handled = none := by simp [hh]
        have hneI : l ≠ (s.heap.push { cls := .type "set", dict := none, data := .set #[] 0 (.fresh 0 0 (!w.params.followText "set-order")) }).objs.size := by
          rw [Heap.size_push]; exact Nat.ne_of_lt (Nat.lt_succ_of_lt hlS)
        have hSf : s.heap.objs.size ∉ [(s.heap.push { cls := .type "set", dict := none, data := .set #[] 0 (.fresh 0 0 (!w.params.followText "set-order")) }).objs.size, l] := by
          rw [Heap.size_push]; simp only [List.mem_cons, List.not_mem_nil, or_false, not_or]
          exact ⟨Nat.ne_of_lt (Nat.lt_succ_self _), Nat.ne_of_gt hlS⟩
        have hval : ∀ (i : Nat) (v : Value), items[i]? = some v → ∃ z t, ks[i]? = some z ∧ v = .str z t := fun i v hv => by
          have q : items.toList[i]? = some v := by rw [Array.getElem?_toList]; exact hv
          obtain ⟨x, t, rfl⟩ := hit.all v (List.mem_of_getElem? q)
          refine ⟨x, t, ?_, rfl⟩
          rw [← hit.strs, List.getElem?_map, q]
          rfl
        refine fill ((Walks.list hh3 _ l hneI items).toS) s.heap.objs.size hSf ks hisz room hval s.heap (none_at (Nat.le_refl _)) (fun b hb => none_at (by
            rw [List.mem_singleton.mp hb, Heap.size_push]
            exact Nat.le_succ _)) (items.size - 0) 0 _ (by omega) (Nat.zero_le _)
          ⟨⟨_, Heap.get?_push_size _ rfl, rfl, rfl⟩, (hl1.push _)⟩ (fun b o e => Heap.get?_push_of_some _ (Heap.get?_push_of_some _ e)) ?hS0 ?hR
        case hS0 => exact R0.kept fun o e => Heap.get?_push_of_some _ e
        case hR =>
          intro s' hm hS' hkp
          obtain ⟨h', g2, d', tk', os'⟩ := s'
          have eg : g2 = s.gens := hm.gens
          have ed : d' = s.drawn := hm.drawn
          have eo : os' = s.os := hm.os
          subst eg; subst ed; subst eo
          show wpAny _ _ _ _ _ _
          refine wpAny_pure ?_
          show wpAny _ _ (ret Value.none) _ _ _
          exact wpAny_pure ⟨rfl, h', tk', rfl, hS', hkp⟩
      · cases r₂ with
        | error e => exact hr₂
        | ok fl₂ =>
          cases fl₂ with
          | ret r =>
            obtain ⟨rfl, h', tk, rfl, hS', hk'⟩ := hr₂
            repeat (any_goals (first | assumption | wp_step))
            exact h _ _ hS' hk'
          | _ => exact hr₂.elim
    | _ => exact hr.elim
end
theorem strs_of_vals : ∀ {ks : List Str} {us : List Value}, Vals (ks.map V.str) us → StrsAre us ks
  | [], _, .nil => .nil
  | k :: ks, _, .cons r t => by
    obtain ⟨tk, rfl⟩ := r
    exact .cons k tk (strs_of_vals t)
/-- set(a list of texts) -/
theorem cr_setS {X : Cx} (hc : X.calm = true) : CallR X (.type "set") (fun vs H Q => ∃ (l : Addr) (ks : List Str), vs = [V.ref l] ∧ SqL X.K H l (ks.map V.str) ∧ ks.length ≤ 1000 ∧ ∀ a, H a = none → Q (.ref a) (upd H a (SO X.w a (uniq ks)))) := by
  intro pins s σ H xs us Q I r h
  obtain ⟨l, ks, rfl, hl, hf, q⟩ := h
  rw [Vals.ref1 r]
  obtain ⟨its, rv, pl, hz⟩ := I.list hl
  have hn : H s.heap.objs.size = none := I.hok.fresh (Nat.le_refl _)
  have e : scanBound = 4096 := rfl
  refine made (P := X.prog) (w := X.w) (ks := ks) (I.ok.hd hc) pl.isList (by simpa using strs_of_vals rv) (by omega) fun h' tk R k => ?_
  exact ⟨.ref s.heap.objs.size, upd H s.heap.objs.size (SO X.w s.heap.objs.size (uniq ks)), I.laid (t' := tk) k (Nat.le_refl _) (SO.mk R), rfl, q _ hn⟩
end FS

set_option Elab.async false
set_option linter.all false
set_option maxRecDepth 100000
set_option maxHeartbeats 4000000
namespace FS
open PySem PySem.Spec PyProof.Rows L2
structure PrG (P : Program) (w : World) (K : PySem.W.Frag) (mg : Str → Option Value) (base : Heap) (C : Addr) : Prop where
  c : PrC K mg C
  n : NoP K C
  init : ∃ f fd, FnOk P w K mg base CX0 9 f fd ["self", "name", "parameters", "body"] (spInit K C) ∧ Binds K fd ["self", "name", "parameters", "body"] [] ∧ Mk K C f
  len : ∃ f fd, FnOk P w K mg base CX0 1 f fd ["self"] (spLen K C) ∧ Binds K fd ["self"] [] ∧ PySem.W.findIn K (.ref C) "__len__" = some (some (.ref f)) ∧ PySem.W.isFn K (.ref f) = true
  eq : ∃ f fd, FnOk P w K mg base CX0 1 f fd ["self", "other"] (spEqT K C) ∧ Binds K fd ["self", "other"] [] ∧ PySem.W.findIn K (.ref C) "__eq__" = some (some (.ref f)) ∧ PySem.W.isFn K (.ref f) = true
  ne : PySem.W.findIn K (.ref C) "__ne__" = some (some (.builtin "object.__ne__"))
  str : ∃ f fd, FnOk P w K mg base CX0 1 f fd ["self"] (spStr K C) ∧ Binds K fd ["self"] [] ∧ PySem.W.findIn K (.ref C) "__str__" = some (some (.ref f)) ∧ PySem.W.isFn K (.ref f) = true
/-- a property -/
structure PrP (P : Program) (w : World) (K : PySem.W.Frag) (mg : Str → Option Value) (base : Heap) (C : Addr) (x g : Str) : Prop where
  ex : ∃ p f fd, PropOf K C x p f ∧ FnOk P w K mg base CX0 1 f fd ["self"] (spGet K C g) ∧ Binds K fd ["self"] []
section
variable {X : Cx} {C : Addr} {e : Expr} {es : List Expr} {ta : TE} {t : TA} {x g : Str} {p pos : Pos}
theorem pe_pr (R : PrP X.prog X.w X.K X.mg X.base C x g) (c : Cls X.K C) (hr : Room 2 X.A) (he : PE X e ta) (hab : attributeBase e x X.env (eval e X.env) = eval e X.env) : PE X (.Attribute e x pos) (tProp C (spGet X.K C g) [] E0 ta) := by
  obtain ⟨q, f, fd, h1, h2, h3⟩ := R.ex
  exact pe_prop he c h1 h2 hr h3 .nil pass0 hab
theorem pe_mkP (G : PrG X.prog X.w X.K X.mg X.base C) (hr : Room 10 X.A) (hg : Gl X "Procedure") (ha : PA X (e :: es) t) (he : starEach (e :: es) X.env = (false, eval e X.env) :: starEach es X.env := by rfl) (hpl : (backTo pos (starEach es X.env)).any (·.1) = false := by rfl) :
    PE X (.Call (.Name "Procedure" p) (e :: es) [] pos) (tMake C (spInit X.K C) [] E0 t) := by
  obtain ⟨f, fd, h1, h2, h3⟩ := G.init
  exact pe_make h3 h1 hr hg G.c.gC h2 .nil pass0 ha (by decide) he hpl
theorem cr_lenP (G : PrG X.prog X.w X.K X.mg X.base C) (hr : Room 2 X.A) : CallR X (.builtin "len") (fun xs H Q => ∃ a dx fs, xs = [.ref a] ∧ H a = some (.ins C dx fs) ∧ spLen X.K C [.ref a] H (fun v H' => ∃ m : Nat, v = .int m ∧ m ≤ 100000 ∧ Q (.int m) H') E0) := by
  obtain ⟨f, fd, h1, h2, h3, h4⟩ := G.len
  exact cr_lenOwn hr h1 h3 h4 h2 pass0
theorem cr_strP (G : PrG X.prog X.w X.K X.mg X.base C) (hr : Room 3 X.A) : CallR X (.type "str") (fun xs H Q => ∃ a dx fs, xs = [.ref a] ∧ H a = some (.ins C dx fs) ∧ spStr X.K C [.ref a] H (fun v H' => ∃ z, v = .str z ∧ Q (.str z) H') E0) := by
  obtain ⟨f, fd, h1, h2, h3, h4⟩ := G.str
  exact cr_strOwn hr h1 h3 h4 h2 pass0
theorem op_eqP (G : PrG X.prog X.w X.K X.mg X.base C) (hr : Room 1 X.A) : OpR X (compareOp .Eq) (rEqO X.K C (spEqT X.K C) E0 false) := by
  obtain ⟨f, fd, h1, h2, h3, h4⟩ := G.eq
  exact op_eqOwn hr h1 h3 h4 h2 pass0
theorem op_neP (G : PrG X.prog X.w X.K X.mg X.base C) (hr : Room 2 X.A) : OpR X (compareOp .NotEq) (rEqO X.K C (spEqT X.K C) E0 true) := by
  obtain ⟨f, fd, h1, h2, h3, h4⟩ := G.eq
  exact op_neOwn hr h1 h3 h4 h2 pass0 G.ne G.c.hm
end
def spRight : Sp := fun vs H Q _ => ∃ (a : Addr), vs = [.ref a] ∧ Die H a ∧ ∀ H', Go a H H' → Q (.bl true) H'
def spLaw (K : PySem.W.Frag) : Sp := fun vs H Q _ => ∃ (a : Addr) (ns : List Int), vs = [.ref a] ∧ SqL K H a (ns.map V.int) ∧ ns.length ≤ 63 ∧ ∀ H', Q (.bl true) H'
end FS

set_option Elab.async false
set_option linter.all false
set_option maxRecDepth 100000
set_option maxHeartbeats 4000000
namespace FS
open PySem PySem.Spec PyProof.Rows L2
/-- a new procedure -/
theorem mk_here {K : PySem.W.Frag} {C : Addr} {H : Hp} {nm : Str} {ov bv : V} {own : List (Str × Bool)} {t : Tm} {Q : VK} {E : XK} (wd : wordB nm = true) (dov : Dp K H ov (parsD own)) (po : ParOk own) {m : Int} {tb : Tbl} (bd : Body K H m tb own bv t)
    (q : ∀ H' x, Same H H' → PAt K C H' x nm own t → (∀ D o, H D = some o → PAtD K C H' D x nm own t) → Q (.ref x) H') :
    ∀ x dx, H x = none → H dx = none → dx ≠ x → spInit K C (.ref x :: ([.str nm, ov, bv] ++ [])) (upd (upd H dx (.own x)) x (.ins C dx [])) (fun v H2 => v = .non ∧ Q (.ref x) H2) E := by
  intro x dx nx nd ne
  have s1 : Same H (upd (upd H dx (.own x)) x (.ins C dx [])) := fun b o e => by
    rw [upd_ne (ne_of_none e nx), upd_ne (ne_of_none e nd)]
    exact e
  exact ⟨x, dx, nm, ov, bv, own, t, rfl, upd_same, wd, Dp.tk (.of s1) (pars_noL own) dov, Dp.tk (.of s1) t.noL bd.dp, po, bd.good, bd.kind, bd.few, by have := bd.deep; omega, fun H2 pa kp fr => ⟨rfl, q H2 x (Same.made nx nd fun b o e n => kp b o n e) pa fun D o hD => fr D o (s1 _ _ hD) (ne_of_none hD nx)⟩⟩
theorem lay_pars {own : List (Str × Bool)} (po : ParOk own) : PyData.canLay0 (parsD own) = true := lay_all _ fun d hd => by
  obtain ⟨p, hp, rfl⟩ := List.mem_map.mp hd
  show (PyData.strOk p.1 && (PyData.strOk (kd p.2) && true)) = true
  rw [(word_ok (po.nms p hp)).1]
  cases p.2 <;> decide +kernel
theorem shaped_of {d : PyData} (h1 : d.canLay0 = true) (h2 : d.depth ≤ 64) : SeqAt.shaped d = true := by
  unfold SeqAt.shaped
  rw [h1, decide_eq_true h2]
  rfl
theorem strs_lay2 {ys : List Str} (h : ∀ z ∈ ys, wordB z = true) : (strsD ys).canLay0 = true := (strs_lay ys fun z hz => (word_ok (h z hz)).1).1
theorem strs_shaped {ys : List Str} (h : ∀ z ∈ ys, wordB z = true) : SeqAt.shaped (strsD ys) = true := shaped_of (strs_lay2 h) (by
  show PyData.depthAll (ys.map PyData.str) + 1 ≤ 64
  rw [(strs_lay ys fun z hz => (word_ok (h z hz)).1).2]
  omega)
theorem kind_lay (own : List (Str × Bool)) : (kindD own).canLay0 = true := lay_all _ fun d hd => by
  obtain ⟨p, hp, rfl⟩ := List.mem_map.mp hd
  show PyData.strOk (kd p.2) = true
  cases p.2 <;> decide +kernel
theorem pars_depth (own : List (Str × Bool)) : (parsD own).depth ≤ 2 := by
  have h2 : ∀ l : List (Str × Bool), PyData.depthAll (l.map parD) ≤ 1 := fun l => by
    induction l with
    | nil => exact Nat.zero_le _
    | cons p r ih =>
      show max (max 0 (max 0 0) + 1) (PyData.depthAll (r.map parD)) ≤ 1
      omega
  show PyData.depthAll (own.map parD) + 1 ≤ 2
  have := h2 own
  omega
theorem kind_depth (own : List (Str × Bool)) : (kindD own).depth ≤ 1 := by
  have h2 : ∀ l : List (Str × Bool), PyData.depthAll (l.map fun p => PyData.str (kd p.2)) ≤ 0 := fun l => by
    induction l with
    | nil => exact Nat.zero_le _
    | cons p r ih =>
      show max 0 (PyData.depthAll (r.map _)) ≤ 0
      omega
  show PyData.depthAll (own.map _) + 1 ≤ 1
  have := h2 own
  omega
/-- what is told of a procedure -/
def toldD (nm : Str) (own : List (Str × Bool)) (t : Tm) : PyData := .list [.str nm, parsD own, t.data, kindD own, .int (t.count : Int)]
theorem told_lay {nm : Str} {own : List (Str × Bool)} {t : Tm} (wd : wordB nm = true) (po : ParOk own) (g : Good own t) : (toldD nm own t).canLay0 = true := by
  show (PyData.strOk nm && (PyData.canLay0 (parsD own) && (PyData.canLay0 t.data && (PyData.canLay0 (kindD own) && true)))) = true
  rw [(word_ok wd).1, lay_pars po, g.lay po.nms, kind_lay]
  rfl
theorem told_shaped {nm : Str} {own : List (Str × Bool)} {t : Tm} (wd : wordB nm = true) (po : ParOk own) (g : Good own t) (h : t.deep ≤ 20) : SeqAt.shaped (toldD nm own t) = true := shaped_of (told_lay wd po g) (by
  show max 0 (max (parsD own).depth (max t.data.depth (max (kindD own).depth (max 0 0)))) + 1 ≤ 64
  have h1 := pars_depth own
  have h2 := t.depth
  have h3 := kind_depth own
  omega)
def triD (nm : Str) (own : List (Str × Bool)) (t : Tm) : PyData := .tuple [.str nm, parsD own, t.data]
theorem tri_shaped {nm : Str} {own : List (Str × Bool)} {t : Tm} (wd : wordB nm = true) (po : ParOk own) (g : Good own t) (h : t.deep ≤ 20) : SeqAt.shaped (triD nm own t) = true := shaped_of (by
  show (PyData.strOk nm && (PyData.canLay0 (parsD own) && (PyData.canLay0 t.data && true))) = true
  rw [(word_ok wd).1, lay_pars po, g.lay po.nms]
  rfl) (by
  show max 0 (max (parsD own).depth (max t.data.depth 0)) + 1 ≤ 64
  have h1 := pars_depth own
  have h2 := t.depth
  omega)
theorem tri_eqv (a b : Str) (o o' : List (Str × Bool)) (t t' : Tm) : PyData.eqv (triD a o t) (triD b o' t') = (a == b && PyData.eqv (parsD o) (parsD o') && PyData.eqv t.data t'.data) := by
  show ((a == b) && (PyData.eqv (parsD o) (parsD o') && (PyData.eqv t.data t'.data && true))) = _
  rw [Bool.and_true, Bool.and_assoc]
theorem same_eqv {a : Str} {o : List (Str × Bool)} {t : Tm} (po : ParOk o) (g : Good o t) : (a == a && PyData.eqv (parsD o) (parsD o) && PyData.eqv t.data t.data) = true := by
  rw [beq_self_eq_true, SeqAt.eqv_refl _ (lay_pars po), SeqAt.eqv_refl _ (g.lay po.nms)]
  rfl
/-- its words are words -/
theorem all_good {own : List (Str × Bool)} {t : Tm} (g : Good own t) : ∀ u ∈ t.all, Good own u := by
  induction g with
  | @mk h ks ok kk kids ih =>
    have al : ∀ l : List Tm, (∀ t ∈ l, t ∈ ks) → ∀ u ∈ alls l, Good own u := fun l => by
      induction l with
      | nil => intro _ u hu; cases hu
      | cons x r ihl =>
        intro hs u hu
        rcases List.mem_append.mp hu with h1 | h1
        · exact ih x (hs x List.mem_cons_self) u h1
        · exact ihl (fun t ht => hs t (List.mem_cons_of_mem _ ht)) u h1
    intro u hu
    rcases List.mem_cons.mp hu with rfl | hu
    · exact .mk ok kk kids
    · exact al ks (fun _ h => h) u hu
theorem words_ok {own : List (Str × Bool)} {t : Tm} (g : Good own t) : ∀ z ∈ t.all.filterMap wordOf, wordB z = true := fun z hz => by
  obtain ⟨u, hu, e⟩ := List.mem_filterMap.mp hz
  have gu := all_good g u hu
  obtain ⟨h, ks⟩ := u
  cases gu with
  | mk ok kk kids =>
    cases h with
    | deed w t =>
      cases Option.some.inj e
      exact (Bool.and_eq_true_iff.mp (Bool.and_eq_true_iff.mp (Bool.and_eq_true_iff.mp ok).1).1).1
    | _ => cases e
theorem uses_ok {own : List (Str × Bool)} {t : Tm} (g : Good own t) : ∀ z ∈ t.all.filterMap useOf, wordB z = true := fun z hz => by
  obtain ⟨u, hu, e⟩ := List.mem_filterMap.mp hz
  have gu := all_good g u hu
  obtain ⟨h, ks⟩ := u
  cases gu with
  | mk ok kk kids =>
    cases h with
    | call n =>
      cases Option.some.inj e
      exact ok
    | wth n =>
      cases Option.some.inj e
      exact ok
    | _ => cases e
theorem Ranks.mem {l ys : List Str} (r : Ranks l ys) {z : Str} (h : z ∈ ys) : z ∈ l := uniq_mem.mp (r.1.mem_iff.mp h)
theorem PAt.ins {K : PySem.W.Frag} {C : Addr} {H : Hp} {a : Addr} {nm : Str} {own : List (Str × Bool)} {t : Tm} (p : PAt K C H a nm own t) : ∃ dx fs, H a = some (.ins C dx fs) := by
  obtain ⟨⟨dx, pv, bv, pa, ka, wa, ua, xs, ws, us, h1, _⟩, _⟩ := p
  exact ⟨_, _, h1⟩
theorem PAt.go {K : PySem.W.Frag} {C : Addr} {H H' : Hp} {D a : Addr} {nm : Str} {own : List (Str × Bool)} {t : Tm} (d : Die H D) (g : Go D H H') (p : PAt K C H a nm own t) : PAt K C H' a nm own t := by
  obtain ⟨⟨dx, pv, bv, pa, ka, wa, ua, xs, ws, us, h1, h2, h3, h4, h5, h6, h7, h8, h9, h10⟩, b, c, dd, e, f, gg⟩ := p
  have k := g.tk d
  obtain ⟨x, y, w', q⟩ := d
  have n1 : a ≠ D := fun z => by
    rw [z, q] at h1
    cases h1
  have n2 : pa ≠ D := fun z => by
    rw [z, q] at h4
    have e4 := HO.lst.inj (Option.some.inj h4)
    rw [all_eq] at h5
    cases h5 with
    | cons hd tl =>
      have e5 := (List.cons.inj e4).1
      obtain ⟨hh, kk⟩ := t
      obtain ⟨aa, _, _, ee, _⟩ := tm_open hd
      rw [ee] at e5
      cases e5
  exact ⟨⟨dx, pv, bv, pa, ka, wa, ua, xs, ws, us, g.1 _ _ n1 h1, Dp.tk k (pars_noL own) h2, Dp.tk k t.noL h3, g.1 _ _ n2 h4, DpAll.tk k (noL_datas _) h5, Dp.tk k (kindD_noL _) h6, Dp.tk k (strs_noL _) h7, Dp.tk k (strs_noL _) h8, h9, h10⟩, b, c, dd, e, f, gg⟩
end FS
namespace FS
open PySem PySem.Spec PyProof.Rows L2
theorem made_same {H : Hp} {x dx C : Addr} (nx : H x = none) (nd : H dx = none) : Same H (upd (upd H dx (.own x)) x (.ins C dx [])) := fun b o e => by
  rw [upd_ne (ne_of_none e nx), upd_ne (ne_of_none e nd)]
  exact e
end FS
namespace FS
theorem iteF0 {c : Bool} {A B : Prop} (hc : c = false) (h : B) : if c = true then A else B := by
  rw [hc, if_neg Bool.false_ne_true]
  exact h
end FS
namespace FS
open PySem PySem.Spec PyProof.Rows L2
theorem kit_self {K : PySem.W.Frag} {C : Addr} : PySem.W.kitOne K (.ref C) (.ref C) = some true := by
  unfold PySem.W.kitOne
  rw [if_pos (by simp)]
theorem kit_own {K : PySem.W.Frag} {C : Addr} {T : String} (h1 : PySem.W.isClsIn K C = true) (h2 : PySem.W.typeIn K (.ref C) = some (.type "type")) (h3 : PySem.W.subIn K (.type T) (.ref C) = some false) : PySem.W.kitOne K (.type T) (.ref C) = some false := by
  unfold PySem.W.kitOne
  rw [if_neg (by simp)]
  have e2 : ((PySem.W.clsIn K C).isSome && PySem.W.typeIn K (.ref C) == some (.type "type")) = true := by
    have h1' : (PySem.W.clsIn K C).isSome = true := h1
    rw [h1', h2] <;> rfl
  show (if ((PySem.W.clsIn K C).isSome && PySem.W.typeIn K (.ref C) == some (.type "type")) = true then PySem.W.subIn K (.type T) (.ref C) else none) = some false
  rw [if_pos e2]
  exact h3
end FS

set_option Elab.async false
set_option linter.all false
set_option maxRecDepth 100000
set_option maxHeartbeats 4000000
/-! programs: promises -/
namespace FS
open PySem PySem.Spec PyProof.Rows L2
def spKindsOf (K : PySem.W.Frag) : Sp := fun vs H Q _ => ∃ (p : Addr) (xs : List V) (us : List Tm) (own : List (Str × Bool)), vs = [.ref p] ∧ SqT K H p xs ∧ DpAll K H xs (datas us) ∧ (∀ u ∈ us, Good own u ∧ u.deep ≤ 6) ∧ ParOk own ∧ us.length ≤ 100 ∧ ∀ H' q, Same H H' → H' q = some (.tup ((us.map Tm.isW).map fun b => V.str (kd b))) → Q (.ref q) H'
/-- procedures, in a tuple -/
inductive PsAt (K : PySem.W.Frag) (C : Addr) (H : Hp) : List V → List RowU → Prop
  | nil : PsAt K C H [] []
  | cons {a : Addr} {u : RowU} {xs : List V} {us : List RowU} (h : PAt K C H a u.1 u.2.1 u.2.2) (k : PsAt K C H xs us) : PsAt K C H (.ref a :: xs) (u :: us)
theorem PsAt.same {K : PySem.W.Frag} {C : Addr} {H H' : Hp} {xs : List V} {us : List RowU} (x : PsAt K C H xs us) (s : Same H H') : PsAt K C H' xs us := by
  induction x with
  | nil => exact .nil
  | cons h _ ih => exact .cons (h.same s) ih
theorem PsAt.len {K : PySem.W.Frag} {C : Addr} {H : Hp} {xs : List V} {us : List RowU} (x : PsAt K C H xs us) : xs.length = us.length := by
  induction x with
  | nil => rfl
  | cons _ _ ih => rw [List.length_cons, List.length_cons, ih]
theorem PsAt.get {K : PySem.W.Frag} {C : Addr} {H : Hp} {xs : List V} {us : List RowU} (x : PsAt K C H xs us) {i : Nat} {v : V} (e : xs[i]? = some v) : ∃ a u, v = .ref a ∧ us[i]? = some u ∧ PAt K C H a u.1 u.2.1 u.2.2 := by
  induction x generalizing i with
  | nil => cases e
  | @cons a u xs us h k ih =>
    cases i with
    | zero => cases e; exact ⟨a, u, rfl, rfl, h⟩
    | succ i => exact ih e
theorem kd_ok (b : Bool) : PyData.strOk (kd b) = true := by cases b <;> decide +kernel
theorem kinds_eq (bs : List Bool) : kindsD bs = .tuple ((bs.map kd).map PyData.str) := by
  unfold kindsD
  rw [List.map_map]
  rfl
theorem kindD_eq (own : List (Str × Bool)) : kindD own = kindsD (own.map (·.2)) := by
  unfold kindD kindsD
  rw [List.map_map]
  rfl
theorem kinds_lay (bs : List Bool) : (kindsD bs).canLay0 = true := by
  rw [kinds_eq]
  exact (strs_lay (bs.map kd) fun z hz => by
    obtain ⟨b, _, rfl⟩ := List.mem_map.mp hz
    exact kd_ok b).1
theorem kinds_shaped (bs : List Bool) : SeqAt.shaped (kindsD bs) = true := by
  unfold SeqAt.shaped
  rw [kinds_lay, decide_eq_true (show PyData.depth (kindsD bs) ≤ 64 by
    rw [kinds_eq]
    have h := (strs_lay (bs.map kd) fun z hz => by
      obtain ⟨b, _, rfl⟩ := List.mem_map.mp hz
      exact kd_ok b).2
    show PyData.depthAll _ + 1 ≤ 64
    omega)]
  rfl
theorem kinds_eqv (bs : List Bool) : PyData.eqv (kindsD bs) (kindsD bs) = true := SeqAt.eqv_refl _ (kinds_lay bs)
theorem dp_kinds {K : PySem.W.Frag} {H : Hp} {p : Addr} {bs : List Bool} (h : H p = some (.tup (bs.map fun b => V.str (kd b)))) : Dp K H (.ref p) (kindsD bs) := by
  refine .tup (.inl (.inl h)) ?_
  clear h
  induction bs with
  | nil => exact .nil
  | cons b r ih => exact .cons (.str _) ih
theorem dp_kindsT {K : PySem.W.Frag} {H : Hp} {p : Addr} {bs : List Bool} (h : SqT K H p (bs.map fun b => V.str (kd b))) : Dp K H (.ref p) (kindsD bs) := by
  refine .tup h ?_
  clear h
  induction bs with
  | nil => exact .nil
  | cons b r ih => exact .cons (.str _) ih
/-- the dict from names to kinds -/
inductive KV (K : PySem.W.Frag) (H : Hp) : List (Key × V) → List RowU → Prop
  | nil : KV K H [] []
  | cons {v : V} {u : RowU} {kvs : List (Key × V)} {us : List RowU} (h : Dp K H v (kindD u.2.1)) (r : KV K H kvs us) : KV K H ((Sum.inr u.1, v) :: kvs) (u :: us)
theorem KV.tk {K : PySem.W.Frag} {H H' : Hp} (e : TK H H') {kvs : List (Key × V)} {us : List RowU} (t : KV K H kvs us) : KV K H' kvs us := by
  induction t with
  | nil => exact .nil
  | cons h _ ih => exact .cons (Dp.tk e (kindD_noL _) h) ih
theorem KV.app {K : PySem.W.Frag} {H : Hp} {kvs : List (Key × V)} {us : List RowU} (t : KV K H kvs us) {v : V} {u : RowU} (h : Dp K H v (kindD u.2.1)) : KV K H (kvs ++ [(Sum.inr u.1, v)]) (us ++ [u]) := by
  induction t with
  | nil => exact .cons h .nil
  | cons h' _ ih => exact .cons h' ih
theorem KV.keys {K : PySem.W.Frag} {H : Hp} {kvs : List (Key × V)} {us : List RowU} (t : KV K H kvs us) : kvs.map (·.1) = (us.map (·.1)).map Sum.inr := by
  induction t with
  | nil => rfl
  | cons h r ih => rw [List.map_cons, ih]; rfl
theorem KV.get {K : PySem.W.Frag} {H : Hp} {kvs : List (Key × V)} {us : List RowU} (t : KV K H kvs us) {x : Str} {o : List (Str × Bool)} (h : (us.map fun u => (u.1, u.2.1)).lookup x = some o) : ∃ v, valV kvs (Sum.inr x) = some v ∧ Dp K H v (kindD o) := by
  induction t with
  | nil => cases h
  | @cons v u kvs us hd r ih =>
    rw [List.map_cons] at h
    simp only [List.lookup] at h
    by_cases e : u.1 = x
    · have eb : (x == u.1) = true := by rw [e]; exact beq_self_eq_true x
      rw [eb] at h
      cases Option.some.inj h
      exact ⟨v, valV_pos (by rw [e]), hd⟩
    · have eb : (x == u.1) = false := by simpa using fun z : x = u.1 => e z.symm
      rw [eb] at h
      obtain ⟨v2, h1, h2⟩ := ih h
      exact ⟨v2, by rw [valV_neg (fun z => e (Sum.inr.inj z))]; exact h1, h2⟩
def spFits (K : PySem.W.Frag) : Sp := fun vs H Q _ => ∃ (own : List (Str × Bool)) (v : V) (t : Tm) (m : Int) (ka : Addr) (kvs : List (Key × V)) (us : List RowU) (tb : Tbl), vs = [v, .int m, .ref ka] ∧ Dp K H v t.data ∧ Good own t ∧ ParOk own ∧ t.deep ≤ 6 ∧ t.kids.length ≤ 40 ∧ 1 ≤ m ∧ m ≤ 3 ∧ H ka = some (.dK kvs) ∧ KV K H kvs us ∧
  (∀ x o, tb.lookup x = some o → (us.map fun u => (u.1, u.2.1)).lookup x = some o) ∧ fitH m tb t.hd (t.kids.map Tm.isW) = true ∧ ∀ H', Same H H' → Q (.bl true) H'
def wrapsIn (us : List RowU) : Bool := us.any fun u => u.2.1.any (·.2)
def spHave (K : PySem.W.Frag) (C : Addr) : Sp := fun vs H Q _ => ∃ (p : Addr) (xs : List V) (us : List RowU), vs = [.ref p] ∧ SqT K H p xs ∧ PsAt K C H xs us ∧ us.length ≤ 8 ∧ ∀ H', Same H H' → Q (.bl (wrapsIn us)) H'
def spByName (K : PySem.W.Frag) (C : Addr) : Sp := fun vs H Q _ => ∃ (p : Addr) (xs : List V) (us : List RowU), vs = [.ref p] ∧ SqT K H p xs ∧ PsAt K C H xs us ∧ us.length ≤ 8 ∧ (us.map (·.1)).Nodup ∧ ∀ H' q kvs, Same H H' → H' q = some (.dK kvs) → KV K H' kvs us → Q (.ref q) H'
theorem wrap_in (own : List (Str × Bool)) : decide (("wrap" : Str) ∈ own.map fun p => kd p.2) = own.any (·.2) := by
  induction own with
  | nil => rfl
  | cons p r ih =>
    rw [List.map_cons, List.any_cons, ← ih]
    cases hb : p.2 with
    | true => simp [kd]
    | false =>
      have : ("wrap" : Str) ≠ kd false := by decide +kernel
      simp [this]
theorem pe_prK {X : Cx} {P : Program} {w : World} {K : PySem.W.Frag} {mg : Str → Option Value} {base : Heap} {C : Addr} {x g : Str} {e : Expr} {ta : TE} {pos : Pos} (R : PrP P w K mg base C x g) (h1 : X.prog = P) (h2 : X.w = w) (h3 : X.K = K) (h4 : X.mg = mg) (h5 : X.base = base) (c : Cls K C) (hr : Room 2 X.A) (he : PE X e ta) (hab : attributeBase e x X.env (eval e X.env) = eval e X.env) : PE X (.Attribute e x pos) (tProp C (spGet K C g) [] E0 ta) := by
  subst h1 h2 h3 h4 h5
  exact pe_pr R c hr he hab
structure NmP (mg : Str → Option Value) : Prop where
  b_any : mg "any" = none
  g_MAX_PROCEDURES : ∃ t, mg "MAX_PROCEDURES" = some (.int 8 t)
  g_MAX_MODES_WITH_WRAPS : ∃ t, mg "MAX_MODES_WITH_WRAPS" = some (.int 2 t)
theorem putK_new {kvs : List (Key × V)} {k : Key} {v : V} (h : k ∉ kvs.map (·.1)) : putK kvs k v = kvs ++ [(k, v)] := by
  unfold putK
  by_cases e : (kvs.any fun kv => decide (kv.1 = k)) = true
  · obtain ⟨kv, hkv, hx⟩ := List.any_eq_true.mp e
    exact absurd (List.mem_map.mpr ⟨kv, hkv, of_decide_eq_true hx⟩) h
  · rw [if_neg e]
theorem inr_mem {x : Str} {l : List Str} (h : (Sum.inr x : Key) ∈ l.map Sum.inr) : x ∈ l := by
  obtain ⟨z, hz, e⟩ := List.mem_map.mp h
  rw [← Sum.inr.inj e]
  exact hz
theorem KV.put {K : PySem.W.Frag} {H : Hp} {kvs : List (Key × V)} {us : List RowU} (t : KV K H kvs us) {v : V} {u : RowU} (h : Dp K H v (kindD u.2.1)) (n : u.1 ∉ us.map (·.1)) : KV K H (putK kvs (Sum.inr u.1) v) (us ++ [u]) := by
  rw [putK_new (fun z => n (by rw [t.keys] at z; exact inr_mem z))]
  exact t.app h
theorem KV.len {K : PySem.W.Frag} {H : Hp} {kvs : List (Key × V)} {us : List RowU} (t : KV K H kvs us) : kvs.length = us.length := by
  induction t with
  | nil => rfl
  | cons _ _ ih => rw [List.length_cons, List.length_cons, ih]
theorem fresh_u {us : List RowU} {i : Nat} {u : RowU} (n : (us.map (·.1)).Nodup) (h : us[i]? = some u) : u.1 ∉ (us.take i).map (·.1) := fun hm => by
  have hw : us.take (i + 1) = us.take i ++ [u] := take_more h
  have := n.sublist ((List.take_sublist (i + 1) us).map (fun z : RowU => z.1))
  rw [hw, List.map_append] at this
  exact (List.nodup_append.mp this).2.2 _ hm _ List.mem_cons_self rfl
def spArePs (K : PySem.W.Frag) (C : Addr) : Sp := fun vs H Q _ => ∃ (p : Addr) (xs : List V) (us : List RowU), vs = [.ref p] ∧ SqT K H p xs ∧ PsAt K C H xs us ∧ us.length ≤ 8 ∧ (us.map (·.1)).Nodup ∧ (us.map fun u => (u.1, u.2.1)).lookup ("main" : Str) = some [] ∧ ∀ H', Same H H' → Q (.bl true) H'
theorem call_isiK {X : Cx} {K : PySem.W.Frag} (h : X.K = K) : CallR X (.builtin "isinstance") (rIsi K) := by
  subst h
  exact call_isi
theorem wk_tup {K : PySem.W.Frag} {a : Addr} {xs : List V} {H0 : Hp} {Qd : Hp → Prop} {B : V → Hp → (Hp → Prop) → Prop} (Pv : Nat → Hp → Prop) (h0 : Pv 0 H0) (hl : ∀ i H, i ≤ xs.length → Pv i H → SqT K H a xs) (hs : ∀ i x H, xs[i]? = some x → Pv i H → B x H (Pv (i + 1))) (hd : ∀ H, Pv xs.length H → Qd H) :
    ∃ W : Nat → Nat → Hp → Prop, (∃ m, W 0 m H0) ∧ ∀ i m H, W i m H → ((Itt K a).stop i H ∧ Qd H) ∨ ((Itt K a).go i H ∧ ∃ Nx : Hp → Prop, (∀ H', Nx H' → ∃ m', m' < m ∧ W (i + 1) m' H') ∧ ∀ x H', (Itt K a).yld i H x H' → B x H' Nx) := by
  refine ⟨fun i m H => i ≤ xs.length ∧ m = xs.length - i ∧ Pv i H, ⟨_, Nat.zero_le _, rfl, h0⟩, fun i m H ⟨hi, hm, p⟩ => ?_⟩
  have sq := hl i H hi p
  by_cases l : i < xs.length
  · refine .inr ⟨⟨xs, xs[i], sq, List.getElem?_eq_getElem l⟩, Pv (i + 1), fun H' h => ⟨xs.length - (i + 1), by omega, l, rfl, h⟩, fun x H' y => ?_⟩
    obtain ⟨rfl, hx⟩ := y
    exact hs i x _ (hx xs sq) p
  · have e : i = xs.length := by omega
    subst e
    exact .inl ⟨⟨xs, sq, Nat.le_refl _⟩, hd H p⟩
theorem wk_list {K : PySem.W.Frag} {a : Addr} {xs : List V} {H0 : Hp} {Qd : Hp → Prop} {B : V → Hp → (Hp → Prop) → Prop} (Pv : Nat → Hp → Prop) (h0 : Pv 0 H0) (hl : ∀ i H, i ≤ xs.length → Pv i H → SqL K H a xs) (hs : ∀ i x H, xs[i]? = some x → Pv i H → B x H (Pv (i + 1))) (hd : ∀ H, Pv xs.length H → Qd H) :
    ∃ W : Nat → Nat → Hp → Prop, (∃ m, W 0 m H0) ∧ ∀ i m H, W i m H → ((Itl K a).stop i H ∧ Qd H) ∨ ((Itl K a).go i H ∧ ∃ Nx : Hp → Prop, (∀ H', Nx H' → ∃ m', m' < m ∧ W (i + 1) m' H') ∧ ∀ x H', (Itl K a).yld i H x H' → B x H' Nx) := by
  refine ⟨fun i m H => i ≤ xs.length ∧ m = xs.length - i ∧ Pv i H, ⟨_, Nat.zero_le _, rfl, h0⟩, fun i m H ⟨hi, hm, p⟩ => ?_⟩
  have sq := hl i H hi p
  by_cases l : i < xs.length
  · refine .inr ⟨⟨xs, xs[i], sq, List.getElem?_eq_getElem l⟩, Pv (i + 1), fun H' h => ⟨xs.length - (i + 1), by omega, l, rfl, h⟩, fun x H' y => ?_⟩
    obtain ⟨rfl, hx⟩ := y
    exact hs i x _ (hx xs sq) p
  · have e : i = xs.length := by omega
    subst e
    exact .inl ⟨⟨xs, sq, Nat.le_refl _⟩, hd H p⟩
theorem kids_few : ∀ ks : List Tm, ks.length ≤ counts ks
  | [] => Nat.zero_le _
  | t :: r => by
    have := kids_few r
    have := count_pos t
    rw [counts_cons, List.length_cons]
    omega
mutual
theorem all_le : ∀ (t : Tm), ∀ u ∈ t.all, u.deep ≤ t.deep ∧ u.count ≤ t.count
  | .mk h ks, u, hu => by
    rcases List.mem_cons.mp (show u ∈ Tm.mk h ks :: alls ks from hu) with rfl | hu
    · exact ⟨Nat.le_refl _, Nat.le_refl _⟩
    · obtain ⟨h1, h2⟩ := alls_le ks u hu
      have e := count_eq (Tm.mk h ks)
      refine ⟨?_, ?_⟩
      · show u.deep ≤ deeps ks + 1
        omega
      · rw [e]
        show u.count ≤ 1 + counts ks
        omega
theorem alls_le : ∀ (ks : List Tm), ∀ u ∈ alls ks, u.deep ≤ deeps ks ∧ u.count ≤ counts ks
  | t :: r, u, hu => by
    rw [counts_cons]
    rcases List.mem_append.mp (show u ∈ t.all ++ alls r from hu) with hu | hu
    · obtain ⟨h1, h2⟩ := all_le t u hu
      refine ⟨?_, by omega⟩
      show u.deep ≤ max t.deep (deeps r)
      omega
    · obtain ⟨h1, h2⟩ := alls_le r u hu
      refine ⟨?_, by omega⟩
      show u.deep ≤ max t.deep (deeps r)
      omega
end
/-- what makes a program -/
structure ProgOk (m : Int) (tb : Tbl) (us : List RowU) : Prop where
  m1 : 1 ≤ m
  m3 : m ≤ 3
  few : us.length ≤ 8
  nd : (us.map (·.1)).Nodup
  main : (us.map fun u => (u.1, u.2.1)).lookup ("main" : Str) = some []
  wr : m = 3 → wrapsIn us = false
  lk : ∀ x o, tb.lookup x = some o → (us.map fun u => (u.1, u.2.1)).lookup x = some o
  fits : ∀ u ∈ us, GF m tb u.2.1 u.2.2
/-- a part that fits -/
def PT (m : Int) (tb : Tbl) (t : Tm) : Prop := ∃ own, Good own t ∧ ParOk own ∧ t.deep ≤ 6 ∧ t.kids.length ≤ 40 ∧ fitH m tb t.hd (t.kids.map Tm.isW) = true
theorem pt_all {m : Int} {tb : Tbl} {own : List (Str × Bool)} {t : Tm} (g : GF m tb own t) (po : ParOk own) (d : t.deep ≤ 6) (c : t.count ≤ 40) : ∀ u ∈ t.all, PT m tb u := fun u hu => by
  obtain ⟨h1, h2⟩ := all_le t u hu
  have e := count_eq u
  have f := kids_few u.kids
  exact ⟨own, all_good g.good u hu, po, by omega, by omega, fits_all t g u hu⟩
def spCanMake (K : PySem.W.Frag) (C : Addr) : Sp := fun vs H Q _ => ∃ (p : Addr) (xs : List V) (us : List RowU) (m : Int) (tb : Tbl), vs = [.int m, .ref p] ∧ SqT K H p xs ∧ PsAt K C H xs us ∧ ProgOk m tb us ∧ ∀ H', Same H H' → Q (.bl true) H'
theorem pi_listK {X : Cx} {K : PySem.W.Frag} {tg l : Expr} {tl : TE} (h : X.K = K) (hl : PE X l tl) : PI X tg l (iList K tl) := by
  subst h
  exact pi_list hl
theorem pi_tupK {X : Cx} {K : PySem.W.Frag} {tg l : Expr} {tl : TE} (h : X.K = K) (hl : PE X l tl) : PI X tg l (iTup K tl) := by
  subst h
  exact pi_tup hl
end FS

set_option Elab.async false
set_option linter.all false
set_option maxRecDepth 100000
set_option maxHeartbeats 4000000
/-! the class Program: what stands in the heap -/
namespace FS
open PySem PySem.Spec PyProof.Rows L2
structure PgC (K : PySem.W.Frag) (mg : Str → Option Value) (C : Addr) : Prop where
  cl : Cls K C
  gC : mg "Program" = some (.ref C)
  a1 : NoAttr K C "_modes"
  a2 : NoAttr K C "_procedures"
  a3 : NoAttr K C "_by_name"
  a4 : NoAttr K C "_names"
  a5 : NoAttr K C "_words"
  a6 : NoAttr K C "_has_wraps"
  ha : PySem.W.findIn K (.ref C) "__class__" = some (some (.builtin "object.__class__"))
  hn : PySem.W.specialIn K (.builtin "object.__class__") "__get__" = some (some (.builtin "getset_descriptor.__get__"))
  htk : PySem.W.takesIn K (.builtin "object.__class__") = some true
  hm : PySem.W.mroIn K C (.type "object") = some true
  self : PySem.W.kitOne K (.ref C) (.ref C) = some true
def pgF (m : Int) (pv dv nv wv : Addr) (hb : Bool) : List (Str × V) := [("_modes", .int m), ("_procedures", .ref pv), ("_by_name", .ref dv), ("_names", .ref nv), ("_words", .ref wv), ("_has_wraps", .bl hb)]
section
variable {m : Int} {pv dv nv wv : Addr} {hb : Bool}
theorem gl1 : (pgF m pv dv nv wv hb).lookup ("_modes" : Str) = some (.int m) := lkH
theorem gl2 : (pgF m pv dv nv wv hb).lookup ("_procedures" : Str) = some (.ref pv) := (lkP (by decide +kernel)).trans lkH
theorem gl3 : (pgF m pv dv nv wv hb).lookup ("_by_name" : Str) = some (.ref dv) := (lkP (by decide +kernel)).trans ((lkP (by decide +kernel)).trans lkH)
theorem gl4 : (pgF m pv dv nv wv hb).lookup ("_names" : Str) = some (.ref nv) := (lkP (by decide +kernel)).trans ((lkP (by decide +kernel)).trans ((lkP (by decide +kernel)).trans lkH))
theorem gl5 : (pgF m pv dv nv wv hb).lookup ("_words" : Str) = some (.ref wv) := (lkP (by decide +kernel)).trans ((lkP (by decide +kernel)).trans ((lkP (by decide +kernel)).trans ((lkP (by decide +kernel)).trans lkH)))
theorem gl6 : (pgF m pv dv nv wv hb).lookup ("_has_wraps" : Str) = some (.bl hb) := (lkP (by decide +kernel)).trans ((lkP (by decide +kernel)).trans ((lkP (by decide +kernel)).trans ((lkP (by decide +kernel)).trans ((lkP (by decide +kernel)).trans lkH))))
end
/-- the dict from names to procedures -/
inductive ByV : List (Key × V) → List V → List RowU → Prop
  | nil : ByV [] [] []
  | cons {u : RowU} {a : Addr} {kvs : List (Key × V)} {xs : List V} {us : List RowU} (r : ByV kvs xs us) : ByV ((Sum.inr u.1, .ref a) :: kvs) (.ref a :: xs) (u :: us)
theorem ByV.get {K : PySem.W.Frag} {C : Addr} {H : Hp} {kvs : List (Key × V)} {xs : List V} {us : List RowU} (t : ByV kvs xs us) (p : PsAt K C H xs us) {x : Str} (h : x ∈ us.map (·.1)) : ∃ b u, u ∈ us ∧ u.1 = x ∧ valV kvs (Sum.inr x) = some (.ref b) ∧ PAt K C H b u.1 u.2.1 u.2.2 := by
  induction t with
  | nil => cases h
  | @cons u a kvs xs us r ih =>
    cases p with
    | cons pa pr =>
      by_cases e : u.1 = x
      · exact ⟨a, u, List.mem_cons_self, e, valV_pos (by rw [e]), pa⟩
      · have h2 : x ∈ us.map (·.1) := by
          rcases List.mem_cons.mp h with z | z
          · exact absurd z.symm e
          · exact z
        obtain ⟨b, v, h3, h4, h5, h6⟩ := ih pr h2
        exact ⟨b, v, List.mem_cons_of_mem _ h3, h4, by rw [valV_neg (fun z => e (Sum.inr.inj z))]; exact h5, h6⟩
def wordsOf (us : List RowU) : List Str := (us.map fun u => u.2.2.all.filterMap wordOf).flatten
/-- the program at a -/
def PgAt (K : PySem.W.Frag) (CP C : Addr) (H : Hp) (a : Addr) (m : Int) (us : List RowU) : Prop :=
  ∃ (dx pv dv nv wv : Addr) (xs : List V) (kvs : List (Key × V)) (ns ws : List Str), H a = some (.ins CP dx (pgF m pv dv nv wv (wrapsIn us))) ∧ SqT K H pv xs ∧ PsAt K C H xs us ∧ us.length ≤ 8 ∧ H dv = some (.dK kvs) ∧ ByV kvs xs us ∧
    Dp K H (.ref nv) (strsD ns) ∧ Ranks (us.map (·.1)) ns ∧ Dp K H (.ref wv) (strsD ws) ∧ Ranks (wordsOf us) ws ∧ 1 ≤ m ∧ m ≤ 3
def spPgLen (K : PySem.W.Frag) (CP C : Addr) : Sp := fun vs H Q _ => ∃ (a : Addr) (m : Int) (us : List RowU), vs = [.ref a] ∧ PgAt K CP C H a m us ∧ Q (.int (us.length : Int)) H
def spPgItem (K : PySem.W.Frag) (CP C : Addr) : Sp := fun vs H Q _ => ∃ (a : Addr) (x : Str) (m : Int) (us : List RowU), vs = [.ref a, .str x] ∧ PgAt K CP C H a m us ∧ x ∈ us.map (·.1) ∧ ∀ b u, u ∈ us → u.1 = x → PAt K C H b u.1 u.2.1 u.2.2 → Q (.ref b) H
def spPgHas (K : PySem.W.Frag) (CP C : Addr) : Sp := fun vs H Q _ => ∃ (a : Addr) (x : Str) (m : Int) (us : List RowU), vs = [.ref a, .str x] ∧ PgAt K CP C H a m us ∧ Q (.bl (decide (x ∈ us.map (·.1)))) H
theorem strs_inv {K : PySem.W.Frag} {H : Hp} : ∀ (ns : List Str) {zs : List V}, DpAll K H zs (ns.map PyData.str) → zs = ns.map V.str
  | [], zs, r => by
    cases r
    rfl
  | n :: l, zs, r => by
    cases r with
    | cons h r =>
      cases Dp.str_inv h
      rw [strs_inv l r]
      rfl
theorem Ranks.miff {l ys : List Str} (r : Ranks l ys) {x : Str} : x ∈ ys ↔ x ∈ l := by
  rw [r.1.mem_iff, uniq_mem]
theorem Ranks.dec {l ys : List Str} (r : Ranks l ys) (x : Str) : decide (x ∈ ys) = decide (x ∈ l) := decide_eq_decide.mpr r.miff
def tellingP (m : Int) (n : Nat) : Str := ((((Str.empty ++ "program of ") ++ toString m) ++ " modes, ") ++ toString (n : Int)) ++ " procedures"
def spPgStr (K : PySem.W.Frag) (CP C : Addr) : Sp := fun vs H Q _ => ∃ (a : Addr) (m : Int) (us : List RowU), vs = [.ref a] ∧ PgAt K CP C H a m us ∧ ∀ z, z = tellingP m us.length → Q (.str z) H
end FS

set_option Elab.async false
set_option linter.all false
set_option maxRecDepth 100000
set_option maxHeartbeats 4000000
/-! a class held in a name, called with a star -/
namespace FS
open PySem PySem.Spec PyProof.Rows L2 StX
section
variable {X : Cx} {CX : CXT} {k : Nat} {f C : Addr} {sp : Sp} {E : XK} {fe e : Expr} {es : List Expr} {tf : TE} {t : TA} {pos : Pos}
theorem pe_makeV (M : Mk X.K C f) (F : FnR X.prog X.w X.K X.mg X.base CX k f sp) (room : Room (k + 1) X.A) (hx : Passes CX X E) (hf : PE X fe tf) (ha : PA X (e :: es) t)
    (tree : eval (.Call fe (e :: es) [] pos) X.env = (do callWith pos (← eval fe X.env) [] (backTo pos (starEach (e :: es) X.env)) (backToKw pos (keywordEach [] X.env))) := by rfl)
    (first : starEach (e :: es) X.env = (false, eval e X.env) :: starEach es X.env := by rfl) (star : (backTo pos (starEach es X.env)).any (·.1) = true := by rfl) :
    PE X (.Call fe (e :: es) [] pos) (fun σ H Q => tf σ H fun y H1 => y = V.ref C ∧ tMakeR C sp E t σ H1 Q) := by
  constructor
  intro pins s σ H Q I h
  refine Call_ (thn (hf.run pins s σ H _ I h) fun u s1 hu => ?_) tree
  obtain ⟨y, H1, I1, ry, rfl, q⟩ := hu
  cases (show u = Value.ref C from ry)
  exact PySem.W.callWith_S2 (h₀ := X.base) I1.ok.mod.kin M.kp (thn (ha.run pos pins s1 σ H1 _ I1 q) fun us s2 hus => by
    obtain ⟨vs, H2, I2, r, q2⟩ := hus
    exact ⟨I2.kIn, run_makeR M F room hx I2 r q2⟩) first star
end
def spPgInit (K : PySem.W.Frag) (CP C : Addr) : Sp := fun vs H Q _ => ∃ (x dx : Addr) (m : Int) (xs : List V) (us : List RowU) (tb : Tbl), vs = .ref x :: .int m :: xs ∧ H x = some (.ins CP dx []) ∧ PsAt K C H xs us ∧ ProgOk m tb us ∧ ∀ H', PgAt K CP C H' x m us → Kp x H H' → Q .non H'
def spPgOf (K : PySem.W.Frag) (CP C : Addr) : Sp := fun vs H Q _ => ∃ (p : Addr) (m : Int) (xs : List V) (us : List RowU) (tb : Tbl), vs = [.ref CP, .int m, .ref p] ∧ SqT K H p xs ∧ PsAt K C H xs us ∧ ProgOk m tb us ∧ ∀ H' a, Same H H' → H a = none → PgAt K CP C H' a m us → Q (.ref a) H'
end FS

set_option Elab.async false
set_option linter.all false
set_option maxRecDepth 100000
set_option maxHeartbeats 4000000
/-! {elt for tg in iter if .. for tg1 in iter1 if ..}, elt a text -/
namespace FS
open PySem PySem.Spec PyProof.Rows L2
theorem ct_out (elt t0 i0 t1 i1 : Expr) (ifs0 ifs1 : List Expr) (scope : Scope) (pos : Pos) (it acc : Value) (env : Env) :
    compTurn (.SetComp elt [⟨t0, i0, ifs0, 0⟩, ⟨t1, i1, ifs1, 0⟩] scope pos) 0 it acc env = (do
      standAt i0.pos
      match ← pyNext it with
      | none => pure (.done .next)
      | some v =>
        letOwnedTupleGo t0 it v
        assign t0 env v
        let mut ok := true
        for c in ifs0 do
          if ok then ok ← isTrue c env (eval c env)
        if ok then
          let x ← eval i1 env
          standAt i1.pos
          let x ← foldedSetIterable i1 env x
          let _ ← runOwn (.compStart (.SetComp elt [⟨t0, i0, ifs0, 0⟩, ⟨t1, i1, ifs1, 0⟩] scope pos) 1 (← holding [x] (pyIter x)) acc env) env
        again (.compLoop (.SetComp elt [⟨t0, i0, ifs0, 0⟩, ⟨t1, i1, ifs1, 0⟩] scope pos) 0 it acc env)) := by rfl
theorem ct_in (elt t0 i0 t1 i1 : Expr) (ifs0 ifs1 : List Expr) (scope : Scope) (pos : Pos) (it acc : Value) (env : Env) :
    compTurn (.SetComp elt [⟨t0, i0, ifs0, 0⟩, ⟨t1, i1, ifs1, 0⟩] scope pos) 1 it acc env = (do
      standAt i1.pos
      match ← pyNext it with
      | none => pure (.done .next)
      | some v =>
        letOwnedTupleGo t1 it v
        assign t1 env v
        let mut ok := true
        for c in ifs1 do
          if ok then ok ← isTrue c env (eval c env)
        if ok then
          (do let v ← eval elt env; standAt elt.pos; let _ ← call (.builtin "set.add") [acc, v])
        again (.compLoop (.SetComp elt [⟨t0, i0, ifs0, 0⟩, ⟨t1, i1, ifs1, 0⟩] scope pos) 1 it acc env)) := by rfl

section
variable {prog : Program} {w : World} {A : Around} {R : Result → Shared → Prop} {u : Shared} {elt t0 i0 t1 i1 : Expr} {ifs0 ifs1 : List Expr} {scope : Scope} {pos : Pos} {it acc : Value} {env : Env}
theorem cl_out (hs : ∀ x, foldedSetIterable i1 env x = pure x) (I : Nat → Shared → Prop)
    (zturn : ∀ n u, I n u → wpAny (model prog w) A (pyNext it) (fun r u₁ => match r with
      | none => R (.ok .next) u₁
      | some v => wpAny (model prog w) A (letOwnedTupleGo t0 it v) (fun _ u₁' => wpAny (model prog w) A (assign t0 env v) (fun _ u₂ =>
          wpAny (model prog w) A (forIn ifs0 true fun c r => if r = true then do let ok ← isTrue c env (eval c env); pure (ForInStep.yield ok) else pure (ForInStep.yield r)) (fun ok u₃ =>
            if ok = true then wpAny (model prog w) A (eval i1 env) (fun x u₄ => wpAny (model prog w) A (pyIter x) (fun it1 u₅ =>
              codeAny (model prog w) A (.compStart (.SetComp elt [⟨t0, i0, ifs0, 0⟩, ⟨t1, i1, ifs1, 0⟩] scope pos) 1 it1 acc env) (fun r u' => match r with
                | .ok _ => ∃ m, m < n ∧ I m u'
                | .error _ => False) u₅) (notedBy (model prog w) A env fun e u' => R (.error e) u') u₄) (notedBy (model prog w) A env fun e u' => R (.error e) u') u₃
            else ∃ m, m < n ∧ I m u₃) (notedBy (model prog w) A env fun e u' => R (.error e) u') u₂) (notedBy (model prog w) A env fun e u' => R (.error e) u') u₁') (notedBy (model prog w) A env fun e u' => R (.error e) u') u₁) (notedBy (model prog w) A env fun e u' => R (.error e) u') u)
    (n : Nat) (h : I n u) :
    codeAny (model prog w) A (.compLoop (.SetComp elt [⟨t0, i0, ifs0, 0⟩, ⟨t1, i1, ifs1, 0⟩] scope pos) 0 it acc env) R u := by
  refine codeAny_loop rfl I (fun n u hI => ?_) n h
  show wpAny _ A ((compTurn (.SetComp elt [⟨t0, i0, ifs0, 0⟩, ⟨t1, i1, ifs1, 0⟩] scope pos) 0 it acc env).onRaise (fun x => do noteFrame x env; theTreesLotGoes x)) _ _ u
  refine wpAny_noted ?_
  rw [ct_out]
  refine wpAny_bind (wpAny_standAt (wpAny_bind (wpAny_mono (zturn n u hI) (fun r u₁ kh₁ => ?_) fun _ _ h' => h')))
  cases r with
  | none => exact wpAny_pure kh₁
  | some v =>
    refine wpAny_bind (wpAny_mono kh₁ (fun _ u₁' kh₁' => ?_) fun _ _ h' => h')
    refine wpAny_bind (wpAny_mono kh₁' (fun _ u₂ kh₂ => wpAny_bind (wpAny_mono kh₂ (fun ok u₃ kh₃ => ?_) fun _ _ h' => h')) fun _ _ h' => h')
    cases ok with
    | false => exact wpAny_pure ⟨rfl, kh₃⟩
    | true =>
      refine wpAny_bind (wpAny_mono kh₃ (fun x u₄ kh₄ => ?_) fun _ _ h' => h')
      refine wpAny_bind (wpAny_standAt (wpAny_bind (wpAny_of_eq (hs x) (wpAny_bind (wpAny_holding (wpAny_mono kh₄ (fun it1 u₅ kh₅ => ?_) fun _ _ h' => h'))))))
      refine wpAny_bind (wpAny_runOwn ?_)
      rw [Around.mark_none]
      refine codeAny_mono kh₅ fun r u' hr => ?_
      cases r with
      | ok f =>
        first
          | exact wpAny_pure ⟨rfl, hr⟩
          | exact wpAny_bind (wpAny_pure (wpAny_pure ⟨rfl, hr⟩))
      | error e => exact hr.elim
theorem cl_in (I : Nat → Shared → Prop)
    (zturn : ∀ n u, I n u → wpAny (model prog w) A (pyNext it) (fun r u₁ => match r with
      | none => R (.ok .next) u₁
      | some v => wpAny (model prog w) A (letOwnedTupleGo t1 it v) (fun _ u₁' => wpAny (model prog w) A (assign t1 env v) (fun _ u₂ =>
          wpAny (model prog w) A (forIn ifs1 true fun c r => if r = true then do let ok ← isTrue c env (eval c env); pure (ForInStep.yield ok) else pure (ForInStep.yield r)) (fun ok u₃ =>
            if ok = true then wpAny (model prog w) A (eval elt env) (fun x u₄ =>
              wpAny (model prog w) A (call (.builtin "set.add") [acc, x]) (fun _ u₅ => ∃ m, m < n ∧ I m u₅) (notedBy (model prog w) A env fun e u' => R (.error e) u') u₄) (notedBy (model prog w) A env fun e u' => R (.error e) u') u₃
            else ∃ m, m < n ∧ I m u₃) (notedBy (model prog w) A env fun e u' => R (.error e) u') u₂) (notedBy (model prog w) A env fun e u' => R (.error e) u') u₁') (notedBy (model prog w) A env fun e u' => R (.error e) u') u₁) (notedBy (model prog w) A env fun e u' => R (.error e) u') u)
    (n : Nat) (h : I n u) :
    codeAny (model prog w) A (.compLoop (.SetComp elt [⟨t0, i0, ifs0, 0⟩, ⟨t1, i1, ifs1, 0⟩] scope pos) 1 it acc env) R u := by
  refine codeAny_loop rfl I (fun n u hI => ?_) n h
  show wpAny _ A ((compTurn (.SetComp elt [⟨t0, i0, ifs0, 0⟩, ⟨t1, i1, ifs1, 0⟩] scope pos) 1 it acc env).onRaise (fun x => do noteFrame x env; theTreesLotGoes x)) _ _ u
  refine wpAny_noted ?_
  rw [ct_in]
  refine wpAny_bind (wpAny_standAt (wpAny_bind (wpAny_mono (zturn n u hI) (fun r u₁ kh₁ => ?_) fun _ _ h' => h')))
  cases r with
  | none => exact wpAny_pure kh₁
  | some v =>
    refine wpAny_bind (wpAny_mono kh₁ (fun _ u₁' kh₁' => ?_) fun _ _ h' => h')
    refine wpAny_bind (wpAny_mono kh₁' (fun _ u₂ kh₂ => wpAny_bind (wpAny_mono kh₂ (fun ok u₃ kh₃ => ?_) fun _ _ h' => h')) fun _ _ h' => h')
    cases ok with
    | false => exact wpAny_pure ⟨rfl, kh₃⟩
    | true =>
      exact wpAny_bind (wpAny_bind (wpAny_mono kh₃ (fun x u₄ kh₄ => wpAny_bind (wpAny_standAt (wpAny_bind (wpAny_mono kh₄ (fun _ u₅ kh₅ => wpAny_pure (wpAny_pure ⟨rfl, kh₅⟩)) fun _ _ h' => h')))) fun _ _ h' => h'))
theorem cs_ok (h0 : codeAny (model prog w) A (.compLoop (.SetComp elt [⟨t0, i0, ifs0, 0⟩, ⟨t1, i1, ifs1, 0⟩] scope pos) 1 it acc env) R u)
    (h : wpAny (model prog w) A (pyIter it) (fun it' u' => codeAny (model prog w) A (.compLoop (.SetComp elt [⟨t0, i0, ifs0, 0⟩, ⟨t1, i1, ifs1, 0⟩] scope pos) 1 it' acc env) R u')
      (notedBy (model prog w) A env fun x u' => R (.error x) u') u) :
    codeAny (model prog w) A (.compStart (.SetComp elt [⟨t0, i0, ifs0, 0⟩, ⟨t1, i1, ifs1, 0⟩] scope pos) 1 it acc env) R u := by
  refine codeAny_of_tree ?_
  show wpAny _ _ ((compStart (.SetComp elt [⟨t0, i0, ifs0, 0⟩, ⟨t1, i1, ifs1, 0⟩] scope pos) 1 it acc env).onRaise (fun x => do noteFrame x env; standAt theWindowsPlace)) _ _ u
  refine wpAny_notedAt ?_
  unfold compStart
  show wpAny _ _ (ask >>= _) _ _ u
  refine wpAny_bind (wpAny_askSetting (wpAny_ite ?_))
  split
  · first
      | exact wpAny_bind (wpAny_pure (wpAny_pure (And.intro rfl h0)))
      | exact wpAny_pure (And.intro rfl h0)
  · first
      | exact wpAny_bind (wpAny_rule (wpAny_bind (wpAny_standAt (wpAny_bind (wpAny_mono h (fun it' u' h' => wpAny_pure (And.intro rfl h')) fun _ _ x => x)))))
      | (refine wpAny_bind (wpAny_rule ?_); show wpAny _ _ (standAt i1.pos >>= _) _ _ u; exact wpAny_bind (wpAny_standAt (wpAny_bind (wpAny_mono h (fun it' u' h' => wpAny_pure (And.intro rfl h')) fun _ _ x => x))))
end



def tSet2 (w : World) (wi : TI) (g : TG) (tt : TT) (wi1 : TI) (g1 : TG) (tt1 : TT) (te : TE) (vs vs1 : List Nat) : TE := fun σ H Q => wi σ H fun J H1 => ∀ D, H1 D = none → ∃ W : Nat → Nat → Hp → Prop, (∃ m, W 0 m (upd H1 D (SO w D []))) ∧ ∀ i m H, W i m H →
  (J.stop i H ∧ Q (.ref D) H) ∨ (J.go i H ∧ ∃ Nx : Hp → Prop, (∀ H', Nx H' → ∃ m', m' < m ∧ W (i + 1) m' H') ∧ ∀ x H', J.yld i H x H' → g x (wipe σ vs) H' fun σ2 H2 => wipe σ2 vs = wipe σ vs ∧ tt σ2 H2 fun b H3 =>
    if b = true then wi1 σ2 H3 fun J1 H4 => ∃ W1 : Nat → Nat → Hp → Prop, (∃ m, W1 0 m H4) ∧ ∀ j k H, W1 j k H →
      (J1.stop j H ∧ Nx H) ∨ (J1.go j H ∧ ∃ Nx1 : Hp → Prop, (∀ H', Nx1 H' → ∃ k', k' < k ∧ W1 (j + 1) k' H') ∧ ∀ x H', J1.yld j H x H' → g1 x (wipe σ2 vs1) H' fun σ3 H5 => wipe σ3 vs1 = wipe σ2 vs1 ∧ tt1 σ3 H5 fun b H6 =>
        if b = true then te σ3 H6 fun y H7 => ∃ (z : Str) (xs : List Str), y = .str z ∧ H7 D = some (SO w D xs) ∧ xs.length + 1 < scanBound ∧ Nx1 (upd H7 D (SO w D (addS xs z))) else Nx1 H6)
    else Nx H3)
theorem set2_core {pins : List (Addr × Obj)} {u : Shared} {σ : L2.St} {H : Hp} {Q : VK} {elt tg iter tg1 iter1 : Expr} {ifs ifs1 : List Expr} {scope : Scope} {own : List (Str × Nat)} {vs1 : List Nat} {pos pos' : Pos} {wi wi1 : TI} {g g1 : TG} {tt tt1 : TT} {te : TE} {use : Option (Value → Sem Unit)} {Qf : Value → Shared → Prop}
    (hc : X.calm = true) (hN : X.N.Nodup) (I : Inv X pins σ H u) (hi : PI X tg iter wi) (ok : BlkOk X.N X.env.scope scope own) (hv : ∀ i ∈ vs1, i ∈ own.map (·.2))
    (hg : ∀ (u : Shared) (H : Hp) (C : Addr) (cl : List (Str × Addr)) (fp : List Addr), PG (X.blk u H scope (compEnvC scope cl C X.env) fp) tg g) (ht : ∀ (u : Shared) (H : Hp) (C : Addr) (cl : List (Str × Addr)) (fp : List Addr), PTs (X.blk u H scope (compEnvC scope cl C X.env) fp) ifs tt)
    (he : ∀ (u : Shared) (H : Hp) (C : Addr) (cl : List (Str × Addr)) (fp : List Addr), PE (X.blk u H scope (compEnvC scope cl C X.env) fp) elt te) (hs : ∀ x, foldedSetIterable iter X.env x = pure x)
    (hi1 : ∀ (u : Shared) (H : Hp) (C : Addr) (cl : List (Str × Addr)) (fp : List Addr), PI (X.blk u H scope (compEnvC scope cl C X.env) fp) tg1 iter1 wi1)
    (hg1 : ∀ (u : Shared) (H : Hp) (C : Addr) (cl : List (Str × Addr)) (fp : List Addr), PG (X.blk u H scope (compEnvC scope cl C X.env) fp) tg1 g1)
    (ht1 : ∀ (u : Shared) (H : Hp) (C : Addr) (cl : List (Str × Addr)) (fp : List Addr), PTs (X.blk u H scope (compEnvC scope cl C X.env) fp) ifs1 tt1)
    (hs1 : ∀ env x, foldedSetIterable iter1 env x = pure x)
    (h : tSet2 X.w wi g tt wi1 g1 tt1 te (own.map (·.2)) vs1 σ H Q)
    (zhRR : ∀ D C u' m H', Inv X pins σ H' u' → Q (.ref D) H' → u'.heap.Ns C m → FpOk X pins H' C → compPost (model X.prog X.w) X.A X.xe use Qf (.ref D) C (.ok .next) u') :
    wpAny (model X.prog X.w) X.A (comprehension (.SetComp elt [⟨tg, iter, ifs, 0⟩, ⟨tg1, iter1, ifs1, 0⟩] scope pos) scope X.env pos' (newSet (.type "set")) false (eval iter X.env) use) Qf X.xe u := by
  have zhfree : ∀ y ∈ scope.names, y.2 = .free → ∃ c, X.env.cells.lookup y.1 = some c := fun y hy e => by
    rcases ok.free y hy e with k | k
    · exact I.ok.has _ (.inl k)
    · exact I.ok.has _ (.inr k)
  refine wpAny_comprehension_free (use := use) rfl hs (closure_ok zhfree) ok.kind (fun y hy e => by rw [ok.uniq y hy, e])
    (thn (hi.run pins u σ H _ I h) fun xv u1 hx => thn hx fun itv u2 h2 => ?_)
  obtain ⟨it, fp, tn, J, H2, e, I2, T, st2, f2, q⟩ := h2
  subst e
  refine PpSet.newSet_ok (newEnv_comp ?_)
  generalize hD : u2.heap.objs.size = D
  have hDn : H2 D = none := I2.hok.fresh (Nat.le_of_eq hD)
  obtain ⟨W, ⟨m0, zw0⟩, zturn⟩ := q D hDn
  -- the new list
  generalize hs3 : ({ u2 with heap := u2.heap.push { cls := .type "set", dict := none, data := .set #[] 0 (.fresh 0 0 (!X.w.params.followText "set-order")) } } : Shared) = u3
  have I3 : Inv X pins σ (upd H2 D (SO X.w D [])) u3 := by
    rw [← hs3]
    refine I2.laid (t' := u2.toks) (fun b o e => Heap.get?_push_of_some _ e) (Nat.le_of_eq hD) (SO.mk ?_)
    rw [← hD]
    exact SetS.new X.w
  have h3 : u3.heap = u2.heap.push { cls := .type "set", dict := none, data := .set #[] 0 (.fresh 0 0 (!X.w.params.followText "set-order")) } := by rw [← hs3]
  have zsz : ∀ b ∈ fp, b < u2.heap.objs.size := fun b hb => by
    obtain ⟨o, e, _⟩ := T.obj _ _ st2 b hb
    exact Heap.lt_size e
  have f3 : ∀ b ∈ fp, FpOk X pins (upd H2 D (SO X.w D [])) b ∧ b < u3.heap.objs.size := fun b hb => by
    have hlt := zsz b hb
    refine ⟨⟨?_, (f2 b hb).2⟩, by rw [h3, Heap.size_push]; exact Nat.lt_succ_of_lt hlt⟩
    rw [upd_ne (by rw [← hD]; exact Nat.ne_of_lt hlt)]
    exact (f2 b hb).1
  have zst3 : tn 0 u3.heap := T.keep _ _ _ st2 fun b _ o e => by rw [h3]; exact Heap.get?_push_of_some _ e
  have I4 := block_start I3 ok hN f3
  have pg := hg u3 (upd H2 D (SO X.w D [])) u3.heap.objs.size (cellsFrom (u3.heap.objs.size + 1) scope.names (cloFrom X.env.cells scope.names [])) fp
  have pt := ht u3 (upd H2 D (SO X.w D [])) u3.heap.objs.size (cellsFrom (u3.heap.objs.size + 1) scope.names (cloFrom X.env.cells scope.names [])) fp
  have pe := he u3 (upd H2 D (SO X.w D [])) u3.heap.objs.size (cellsFrom (u3.heap.objs.size + 1) scope.names (cloFrom X.env.cells scope.names [])) fp
  have pi1 := hi1 u3 (upd H2 D (SO X.w D [])) u3.heap.objs.size (cellsFrom (u3.heap.objs.size + 1) scope.names (cloFrom X.env.cells scope.names [])) fp
  have pg1 := hg1 u3 (upd H2 D (SO X.w D [])) u3.heap.objs.size (cellsFrom (u3.heap.objs.size + 1) scope.names (cloFrom X.env.cells scope.names [])) fp
  have pt1 := ht1 u3 (upd H2 D (SO X.w D [])) u3.heap.objs.size (cellsFrom (u3.heap.objs.size + 1) scope.names (cloFrom X.env.cells scope.names [])) fp
  show codeAny _ _ (.compStart (.SetComp elt [⟨tg, iter, ifs, 0⟩, ⟨tg1, iter1, ifs1, 0⟩] scope pos) 0 (.ref it) (.ref D) (compEnvC scope (cellsFrom (u3.heap.objs.size + 1) scope.names (cloFrom X.env.cells scope.names [])) u3.heap.objs.size X.env)) (compPost (model X.prog X.w) X.A X.xe use Qf (.ref D) u3.heap.objs.size) { u3 with heap := pushCells (u3.heap.push { cls := .type "dict", data := .dict #[] }) scope.names }
  have znfp : ∀ b ∈ fp, (upd H2 D (SO X.w D [])) b = none := fun b hb => (f3 b hb).1.1
  generalize hce : compEnvC scope (cellsFrom (u3.heap.objs.size + 1) scope.names (cloFrom X.env.cells scope.names [])) u3.heap.objs.size X.env = ce at I4 pg pt pe pi1 pg1 pt1 ⊢
  have cL : ce.locals = u3.heap.objs.size := by subst hce; rfl
  generalize hH3 : upd H2 D (SO X.w D []) = H3 at I3 I4 pg pt pe pi1 pg1 pt1 zw0 znfp f3
  generalize hs4 : ({ u3 with heap := pushCells (u3.heap.push { cls := .type "dict", data := .dict #[] }) scope.names } : Shared) = u4 at I4 ⊢
  have zst4 : tn 0 u4.heap := T.keep _ _ _ zst3 fun b _ o e => by rw [← hs4]; exact pushCells_keeps _ _ _ _ (Heap.get?_push_of_some _ e)
  have zstat : ∀ {σ' : L2.St} {H' : Hp} {u' : Shared}, Inv (X.blk u3 H3 scope ce fp) [] σ' H' u' → (∀ b ∈ fp, H' b = none) → ∀ b ∈ fp, FpOk (X.blk u3 H3 scope ce fp) [] H' b := fun {σ' H' u'} I' hn b hb =>
    ⟨hn b hb, (I'.ok.exf b hb).1, I'.ok.exfs b hb, .inl hb, fun x c e => (I'.ok.exf b hb).2 x c e, fun p hp => absurd (show p ∈ ([] : List (Addr × Obj)) ++ [] from hp) (by simp)⟩
  have zloop : codeAny (model X.prog X.w) X.A (.compLoop (.SetComp elt [⟨tg, iter, ifs, 0⟩, ⟨tg1, iter1, ifs1, 0⟩] scope pos) 0 (.ref it) (.ref D) ce) (compPost (model X.prog X.w) X.A X.xe use Qf (.ref D) u3.heap.objs.size) u4 := by
    refine cl_out (hs1 ce) (fun n u' => ∃ i H', Inv (X.blk u3 H3 scope ce fp) [] (wipe σ (own.map (·.2))) H' u' ∧ tn i u'.heap ∧ (∀ b ∈ fp, H' b = none) ∧ W i n H') ?_ m0 ⟨0, H3, I4, zst4, znfp, zw0⟩
    rintro n u5 ⟨i, H5, I5, zst5, zn5, zw5⟩
    rcases zturn i n H5 zw5 with ⟨zstop, qq⟩ | ⟨zgo, Nx, hNx, zstep⟩
    · have ztd := T.done (X.blk u3 H3 scope ce fp) rfl rfl rfl hc i [] u5 _ H5 (fun _ _ => False) I5 (zstat I5 zn5) zst5 zstop
      refine thnF ztd fun r u6 ⟨hr, I6⟩ => ?_
      subst hr
      -- back in the def's context
      have I7 : Inv X pins σ H5 u6 := I3.call' (ch := fp) I6.os I6.base I6.hok I6.bare fun b hb => ⟨(f3 b hb).1.2.2.2.1, (f3 b hb).1.2.1, (f3 b hb).1.2.2.2.2.1, (f3 b hb).1.2.2.2.2.2⟩
      have nC : H5 u3.heap.objs.size = none := by
        have z : H5 ce.locals = none := I6.free
        rw [cL] at z
        exact z
      obtain ⟨m, hn, _⟩ := I6.loc
      have hn : u6.heap.Ns ce.locals m := hn
      rw [cL] at hn
      exact zhRR D u3.heap.objs.size u6 m H5 I7 qq hn (I3.fpOk (Nat.le_refl _) nC)
    · have zti := T.item (X.blk u3 H3 scope ce fp) rfl rfl rfl hc i [] u5 _ H5 (fun _ _ => False) I5 (zstat I5 zn5) zst5 zgo
      refine thnF zti fun r u6 ⟨u, hr, h6⟩ => ?_
      subst hr
      refine thnF h6 fun _ u7 ⟨x, H7, I7, r7, y7, zst7, zn7⟩ => ?_
      have I7' := I7.pinned (zstat I7 zn7) (T.obj _ _ zst7)
      refine thnF (pg.run _ u7 _ H7 x u _ I7' r7 (zstep x H7 y7)) fun _ u8 ⟨σ8, H8, I8, hw8, zq8⟩ => ?_
      refine thnF (pt.run _ u8 σ8 H8 _ I8 zq8) fun b u9 ⟨H9, I9, zq9⟩ => ?_
      -- the turn's end, from any slots that know what the block knew at its start
      have zfin : ∀ {σ9 : L2.St} {u' : Shared} {H' : Hp}, Inv (X.blk u3 H3 scope ce fp) ([] ++ pinsAt fp u7.heap) σ9 H' u' → (wipe σ (own.map (·.2))).length = σ9.length → (∀ (j : Nat) v, (wipe σ (own.map (·.2)))[j]? = some (some v) → σ9[j]? = some (some v)) → Nx H' →
          ∃ m, m < n ∧ ∃ i H', Inv (X.blk u3 H3 scope ce fp) [] (wipe σ (own.map (·.2))) H' u' ∧ tn i u'.heap ∧ (∀ b ∈ fp, H' b = none) ∧ W i m H' := fun {σ9 u' H'} I' hl hk nx => by
        obtain ⟨m', hm, w'⟩ := hNx H' nx
        have pin' : ∀ b ∈ fp, ∀ o, u7.heap.get? b = some o → u'.heap.get? b = some o ∧ H' b = none := fun b hb o e =>
          let z := I'.pin (b, o) (List.mem_append_right _ (List.mem_append_right _ (mem_pinsAt hb e)))
          ⟨z.1, z.2.1⟩
        refine ⟨m', hm, i + 1, H', (I'.unpinned (pins := [])).weak hl hk, T.keep _ _ _ zst7 fun b hb o e => (pin' b hb o e).1, fun b hb => ?_, w'⟩
        obtain ⟨o, e, _⟩ := T.obj _ _ zst7 b hb
        exact (pin' b hb o e).2
      have zhl8 : (wipe σ (own.map (·.2))).length = σ8.length := by rw [← hw8, wipe_length]
      have zhk8 : ∀ (j : Nat) v, (wipe σ (own.map (·.2)))[j]? = some (some v) → σ8[j]? = some (some v) := fun j v e => by
        rw [← hw8] at e
        exact (wipe_some e).1
      have zhk9 : ∀ (j : Nat) v, (wipe σ (own.map (·.2)))[j]? = some (some v) → (wipe σ8 vs1)[j]? = some (some v) := fun j v e => by
        rw [← hw8] at e
        obtain ⟨e1, e2⟩ := wipe_some e
        rw [wipe_out fun z => e2 (hv j z)]
        exact e1
      cases b with
      | false =>
        simp only [Bool.false_eq_true, if_false] at zq9 ⊢
        exact zfin I9 zhl8 zhk8 zq9
      | true =>
        simp only [if_true] at zq9 ⊢
        refine thnF (pi1.run _ u9 σ8 H9 _ I9 zq9) fun xv u10 hx => thnF hx fun itv u11 h11 => ?_
        obtain ⟨it1, fp1, tn1, J1, H11, e1, I11, T1, zst11, f11, W1, ⟨m1, zw1⟩, zturn1⟩ := h11
        subst e1
        -- the inner zloop
        have zstat1 : ∀ {H' : Hp}, (∀ b ∈ fp1, H' b = none) → ∀ b ∈ fp1, FpOk (X.blk u3 H3 scope ce fp) ([] ++ pinsAt fp u7.heap) H' b := fun hn b hb => ⟨hn b hb, (f11 b hb).2⟩
        have zloop1 : codeAny (model X.prog X.w) X.A (.compLoop (.SetComp elt [⟨tg, iter, ifs, 0⟩, ⟨tg1, iter1, ifs1, 0⟩] scope pos) 1 (.ref it1) (.ref D) ce)
            (fun r u' => match r with
              | .ok _ => ∃ m, m < n ∧ ∃ i H', Inv (X.blk u3 H3 scope ce fp) [] (wipe σ (own.map (·.2))) H' u' ∧ tn i u'.heap ∧ (∀ b ∈ fp, H' b = none) ∧ W i m H'
              | .error _ => False) u11 := by
          refine cl_in (fun k u' => ∃ j H', Inv (X.blk u3 H3 scope ce fp) ([] ++ pinsAt fp u7.heap) (wipe σ8 vs1) H' u' ∧ tn1 j u'.heap ∧ (∀ b ∈ fp1, H' b = none) ∧ W1 j k H') ?_ m1 ⟨0, H11, I11.weak (wipe_length _ _) (fun j v e => (wipe_some e).1), zst11, fun b hb => (f11 b hb).1, zw1⟩
          rintro k u12 ⟨j, H12, I12, zst12, zn12, zw12⟩
          rcases zturn1 j k H12 zw12 with ⟨zstop1, nx1⟩ | ⟨zgo1, Nx1, hNx1, zstep1⟩
          · refine thnF (T1.done (X.blk u3 H3 scope ce fp) rfl rfl rfl hc j _ u12 (wipe σ8 vs1) H12 (fun _ _ => False) I12 (zstat1 zn12) zst12 zstop1) fun r u13 ⟨hr, I13⟩ => ?_
            subst hr
            exact zfin I13 (zhl8.trans (wipe_length σ8 vs1).symm) zhk9 nx1
          · refine thnF (T1.item (X.blk u3 H3 scope ce fp) rfl rfl rfl hc j _ u12 (wipe σ8 vs1) H12 (fun _ _ => False) I12 (zstat1 zn12) zst12 zgo1) fun r u13 ⟨u1, hr, h13⟩ => ?_
            subst hr
            refine thnF h13 fun _ u14 ⟨x1, H14, I14, r14, y14, zst14, zn14⟩ => ?_
            have I14' := I14.pinned (zstat1 zn14) (T1.obj _ _ zst14)
            refine thnF (pg1.run _ u14 (wipe σ8 vs1) H14 x1 u1 _ I14' r14 (zstep1 x1 H14 y14)) fun _ u15 ⟨σ15, H15, I15, hw15, zq15⟩ => ?_
            refine thnF (pt1.run _ u15 σ15 H15 _ I15 zq15) fun b1 u16 ⟨H16, I16, zq16⟩ => ?_
            have zfin1 : ∀ {u' : Shared} {H' : Hp}, Inv (X.blk u3 H3 scope ce fp) (([] ++ pinsAt fp u7.heap) ++ pinsAt fp1 u14.heap) σ15 H' u' → Nx1 H' → ∃ m, m < k ∧ ∃ j H', Inv (X.blk u3 H3 scope ce fp) ([] ++ pinsAt fp u7.heap) (wipe σ8 vs1) H' u' ∧ tn1 j u'.heap ∧ (∀ b ∈ fp1, H' b = none) ∧ W1 j m H' := fun {u' H'} I' nx => by
              obtain ⟨m', hm, w'⟩ := hNx1 H' nx
              have pin' : ∀ b ∈ fp1, ∀ o, u14.heap.get? b = some o → u'.heap.get? b = some o ∧ H' b = none := fun b hb o e =>
                let z := I'.pin (b, o) (List.mem_append_right _ (List.mem_append_right _ (mem_pinsAt hb e)))
                ⟨z.1, z.2.1⟩
              refine ⟨m', hm, j + 1, H', I'.unpinned.weak (by rw [← hw15, wipe_length]) (fun j v e => by rw [← hw15] at e; exact (wipe_some e).1), T1.keep _ _ _ zst14 fun b hb o e => (pin' b hb o e).1, fun b hb => ?_, w'⟩
              obtain ⟨o, e, _⟩ := T1.obj _ _ zst14 b hb
              exact (pin' b hb o e).2
            cases b1 with
            | false =>
              simp only [Bool.false_eq_true, if_false] at zq16 ⊢
              exact zfin1 I16 zq16
            | true =>
              simp only [if_true] at zq16 ⊢
              refine thnF (pe.run _ u16 σ15 H16 _ I16 zq16) fun z u17 ⟨yv, H17, I17, r17, zt, zs, ey, hD17, hz17, nx⟩ => ?_
              subst ey
              obtain ⟨tk, rfl⟩ := (show ∃ tk, z = Value.str zt tk from r17)
              exact SO.put (X := X.blk u3 H3 scope ce fp) I17 hD17 hz17 fun u18 I18 => zfin1 I18 nx
        exact cs_ok zloop1 (T1.self X.A 0 _ _ _ zst11 zloop1)
  exact PpSet.codeAny_compStart_set zloop (T.self X.A 0 _ _ _ zst4 zloop)


theorem pe_set2 {elt tg iter tg1 iter1 : Expr} {ifs ifs1 : List Expr} {scope : Scope} {own : List (Str × Nat)} {vs1 : List Nat} {pos : Pos} {wi wi1 : TI} {g g1 : TG} {tt tt1 : TT} {te : TE} (hc : X.calm = true) (hN : X.N.Nodup) (hi : PI X tg iter wi) (ok : BlkOk X.N X.env.scope scope own) (hv : ∀ i ∈ vs1, i ∈ own.map (·.2))
    (hg : ∀ (u : Shared) (H : Hp) (C : Addr) (cl : List (Str × Addr)) (fp : List Addr), PG (X.blk u H scope (compEnvC scope cl C X.env) fp) tg g) (ht : ∀ (u : Shared) (H : Hp) (C : Addr) (cl : List (Str × Addr)) (fp : List Addr), PTs (X.blk u H scope (compEnvC scope cl C X.env) fp) ifs tt)
    (hi1 : ∀ (u : Shared) (H : Hp) (C : Addr) (cl : List (Str × Addr)) (fp : List Addr), PI (X.blk u H scope (compEnvC scope cl C X.env) fp) tg1 iter1 wi1)
    (hg1 : ∀ (u : Shared) (H : Hp) (C : Addr) (cl : List (Str × Addr)) (fp : List Addr), PG (X.blk u H scope (compEnvC scope cl C X.env) fp) tg1 g1) (ht1 : ∀ (u : Shared) (H : Hp) (C : Addr) (cl : List (Str × Addr)) (fp : List Addr), PTs (X.blk u H scope (compEnvC scope cl C X.env) fp) ifs1 tt1)
    (he : ∀ (u : Shared) (H : Hp) (C : Addr) (cl : List (Str × Addr)) (fp : List Addr), PE (X.blk u H scope (compEnvC scope cl C X.env) fp) elt te) (hs : ∀ x, foldedSetIterable iter X.env x = pure x := by intro _; rfl) (hs1 : ∀ env x, foldedSetIterable iter1 env x = pure x := by intro _ _; rfl) :
    PE X (.SetComp elt [⟨tg, iter, ifs, 0⟩, ⟨tg1, iter1, ifs1, 0⟩] scope pos) (tSet2 X.w wi g tt wi1 g1 tt1 te (own.map (·.2)) vs1) := by
  refine ⟨fun pins u σ H Q I h => ?_⟩
  rw [PpSet.eval_SetComp]
  refine set2_core hc hN I hi ok hv hg ht he hs hi1 hg1 ht1 hs1 h fun D C u' m H' I' q hn f => ⟨m, hn, fun h'' sb => ?_⟩
  obtain ⟨f0, f1, f2, f3, f4, f5⟩ := f
  exact ⟨.ref D, H', I'.turned (t' := u'.toks) (fun b o hb e => (sb.2 b hb).trans e) f0 f1 f3 f4 f5, rfl, q⟩
end FS

set_option Elab.async false
set_option linter.all false
set_option maxRecDepth 100000
set_option maxHeartbeats 4000000
/-! making a program -/
namespace FS
open PySem PySem.Spec PyProof.Rows L2
section
variable {P : Program} {w : World} {K : PySem.W.Frag} {mg : Str → Option Value} {base : Heap}
/-- a def with a star parameter behind the others -/
theorem okStar {x qual : Str} {st : Stmt} {f : Addr} {fd : FuncData} {N ps : List Str} {pv : Str} {k : Nat} {sp : Sp} (F : Fun K x qual st f fd) (S : FnScope N (ps ++ [pv]) (defScope st))
    (bind : ∀ (kV doc pm : Value) (an : Option Addr) (cdv ct : Value) (us rest : List Value), us.length = ps.length → bindArgs (PySem.W.fnOf x qual (defArgs st) (defBody st) (defScope st) .none kV doc pm an cdv ct) ⟨us ++ rest, []⟩ = (newTuple rest >>= fun t => pure (ps.zip us ++ [(pv, t)])))
    (body : ∀ (cdv : Value) (A : Around) (outer : List Env) (s : Shared) (H : Hp) (vs : List V) (Q : VK) (E : XK), Room k (A.deeper (envOfC qual (defScope st) s.heap.objs.size f cdv)) → sp vs H Q E →
      ∃ t, PSs (cxOf CX0 P w K mg base N qual (defScope st) f cdv A outer s H E).nox (defBody st) t ∧ t { nx := fun _ H' => Q .non H', rt := Q } (start N vs) H) :
    FnR P w K mg base CX0 (k + 1) f (fun vs H Q E => ∃ ws rest, vs = ws ++ rest ∧ ws.length = ps.length ∧ rest.length ≤ sizeLine ∧ ∀ p, H p = Option.none → sp (ws ++ [V.ref p]) (upd H p (.tup rest)) Q E) := by
  obtain ⟨oc, od, kV, doc, pm, an, cdv, ct, osl, rfl, lk, hcd⟩ := F.ex
  refine StX.fn_star lk hcd S StX.cxUp_none (bind kV doc pm an cdv ct) fun A outer s H vs Q E hr h => ?_
  obtain ⟨t, ht, q⟩ := body cdv A outer s H vs Q E hr h
  exact ⟨t, ht.nox, q⟩
end
def spPgIn (K : PySem.W.Frag) (CP C : Addr) : Sp := fun vs H Q _ => ∃ (x dx : Addr) (m : Int) (p : Addr) (xs : List V) (us : List RowU) (tb : Tbl), vs = [.ref x, .int m, .ref p] ∧ H x = some (.ins CP dx []) ∧ H p = some (.tup xs) ∧ PsAt K C H xs us ∧ ProgOk m tb us ∧ ∀ H', PgAt K CP C H' x m us → Kp x H H' → Q .non H'
theorem init_in {K : PySem.W.Frag} {CP C : Addr} {vs : List V} {H : Hp} {Q : VK} {E : XK} (h : spPgInit K CP C vs H Q E) : ∃ ws rest, vs = ws ++ rest ∧ ws.length = 2 ∧ rest.length ≤ sizeLine ∧ ∀ p, H p = Option.none → spPgIn K CP C (ws ++ [V.ref p]) (upd H p (.tup rest)) Q E := by
  obtain ⟨x, dx, m, xs, us, tb, rfl, hx, ps, ok, q⟩ := h
  refine ⟨[.ref x, .int m], xs, rfl, rfl, ?_, fun p hp => ?_⟩
  · rw [ps.len]
    have := ok.few
    exact Nat.le_of_lt (small1000 (by omega))
  · have s1 : Same H (upd H p (.tup xs)) := same_upd hp
    exact ⟨x, dx, m, p, xs, us, tb, rfl, s1 _ _ hx, upd_same, ps.same s1, ok, fun H' pa k => q H' pa fun b o n hb => k b o n (s1 _ _ hb)⟩
theorem qf2 {a v : V} : putF "_procedures" v [("_modes", a)] = ([("_modes", a), ("_procedures", v)] : List (Str × V)) := by
  rw [putA (by decide +kernel)]
  rfl
theorem qf3 {a b v : V} : putF "_by_name" v [("_modes", a), ("_procedures", b)] = ([("_modes", a), ("_procedures", b), ("_by_name", v)] : List (Str × V)) := by
  rw [putA (by decide +kernel), putA (by decide +kernel)]
  rfl
theorem qf4 {a b c v : V} : putF "_names" v [("_modes", a), ("_procedures", b), ("_by_name", c)] = ([("_modes", a), ("_procedures", b), ("_by_name", c), ("_names", v)] : List (Str × V)) := by
  rw [putA (by decide +kernel), putA (by decide +kernel), putA (by decide +kernel)]
  rfl
theorem qf5 {a b c d v : V} : putF "_words" v [("_modes", a), ("_procedures", b), ("_by_name", c), ("_names", d)] = ([("_modes", a), ("_procedures", b), ("_by_name", c), ("_names", d), ("_words", v)] : List (Str × V)) := by
  rw [putA (by decide +kernel), putA (by decide +kernel), putA (by decide +kernel), putA (by decide +kernel)]
  rfl
theorem qf6 {a b c d e v : V} : putF "_has_wraps" v [("_modes", a), ("_procedures", b), ("_by_name", c), ("_names", d), ("_words", e)] = ([("_modes", a), ("_procedures", b), ("_by_name", c), ("_names", d), ("_words", e), ("_has_wraps", v)] : List (Str × V)) := by
  rw [putA (by decide +kernel), putA (by decide +kernel), putA (by decide +kernel), putA (by decide +kernel), putA (by decide +kernel)]
  rfl
theorem qlk3 {a b c : V} : ([("_modes", a), ("_procedures", b), ("_by_name", c)] : List (Str × V)).lookup ("_by_name" : Str) = some c := (lkP (by decide +kernel)).trans ((lkP (by decide +kernel)).trans lkH)
/-- procedures stay where just one object beside them changes -/
theorem PsAt.kp {K : PySem.W.Frag} {C : Addr} {H H' : Hp} {x : Addr} {o : HO} {xs : List V} {us : List RowU} (t : PsAt K C H xs us) (k : Kp x H H') (e : H x = some o) (nt : isT o = false) (nl : ∀ l, o ≠ .lst l) (ni : ∀ C' dx fs, o = .ins C' dx fs → C' ≠ C) : PsAt K C H' xs us := by
  induction t with
  | nil => exact .nil
  | cons h _ ih =>
    refine .cons ?_ ih
    obtain ⟨⟨dx, pv, bv, pa, ka, wa, ua, xs, ws, us, h1, h2, h3, h4, h5, h6, h7, h8, h9, h10⟩, b, c, d, e', f, g⟩ := h
    have tk := k.tk e nt
    refine ⟨⟨dx, pv, bv, pa, ka, wa, ua, xs, ws, us, k _ _ (fun z => ?_) h1, Dp.tk tk (pars_noL _) h2, Dp.tk tk (Tm.noL _) h3, k _ _ (fun z => ?_) h4, DpAll.tk tk (noL_datas _) h5, Dp.tk tk (kindD_noL _) h6, Dp.tk tk (strs_noL _) h7, Dp.tk tk (strs_noL _) h8, h9, h10⟩, b, c, d, e', f, g⟩
    · rw [z, e] at h1
      exact ni _ _ _ (Option.some.inj h1) rfl
    · rw [z, e] at h4
      exact nl _ (Option.some.inj h4)
theorem uniq_put (m : List Str) (z : Str) : addS (uniq m) z = uniq (m ++ [z]) := (uniq_more m z).symm
theorem words_more {us : List RowU} {i : Nat} {u : RowU} (h : us[i]? = some u) (z : Str) : z ∈ wordsOf (us.take (i + 1)) ↔ z ∈ wordsOf (us.take i) ∨ z ∈ u.2.2.all.filterMap wordOf := by
  unfold wordsOf
  rw [take_more h, List.map_append, List.flatten_append, List.mem_append]
  simp
theorem ranks_of {l m ys : List Str} (p : ys.Perm (uniq m)) (s : sortedS ys = true) (h : ∀ z, z ∈ m ↔ z ∈ l) : Ranks l ys := by
  refine ⟨p.trans ((List.perm_ext_iff_of_nodup (uniq_nodup m) (uniq_nodup l)).mpr fun z => ?_), s⟩
  rw [uniq_mem, uniq_mem, h]
theorem ranks_nd {l ys : List Str} (n : l.Nodup) (p : ys.Perm l) (s : sortedS ys = true) : Ranks l ys := by
  refine ⟨p.trans ((List.perm_ext_iff_of_nodup n (uniq_nodup l)).mpr fun z => ?_), s⟩
  rw [uniq_mem]
theorem Ranks.few {l ys : List Str} (r : Ranks l ys) : ys.length ≤ l.length := by
  rw [r.1.length_eq]
  exact uniq_len l
theorem ByV.keys {kvs : List (Key × V)} {xs : List V} {us : List RowU} (t : ByV kvs xs us) : kvs.map (·.1) = (us.map (·.1)).map Sum.inr := by
  induction t with
  | nil => rfl
  | cons r ih => rw [List.map_cons, ih]; rfl
theorem ByV.app {kvs : List (Key × V)} {xs : List V} {us : List RowU} (t : ByV kvs xs us) (u : RowU) (a : Addr) : ByV (kvs ++ [(Sum.inr u.1, .ref a)]) (xs ++ [.ref a]) (us ++ [u]) := by
  induction t with
  | nil => exact .cons .nil
  | cons r ih => exact .cons ih
theorem ByV.put {kvs : List (Key × V)} {xs : List V} {us : List RowU} (t : ByV kvs xs us) {u : RowU} {a : Addr} (n : u.1 ∉ us.map (·.1)) : ByV (putK kvs (Sum.inr u.1) (.ref a)) (xs ++ [.ref a]) (us ++ [u]) := by
  rw [putK_new (fun z => n (by rw [t.keys] at z; exact inr_mem z))]
  exact t.app u a
theorem ByV.len {kvs : List (Key × V)} {xs : List V} {us : List RowU} (t : ByV kvs xs us) : kvs.length = us.length := by
  induction t with
  | nil => rfl
  | cons _ ih => rw [List.length_cons, List.length_cons, ih]
end FS

set_option Elab.async false
set_option linter.all false
set_option maxRecDepth 100000
set_option maxHeartbeats 4000000
/-! what is no program: promises that tell either way -/
namespace FS
open PySem PySem.Spec PyProof.Rows L2
theorem int_dec (a b : Int) : decide (V.int a = V.int b) = decide (a = b) := by
  by_cases h : a = b <;> simp [h]
def tbOf (us : List RowU) : Tbl := us.map fun u => (u.1, u.2.1)
theorem tbOf_names (us : List RowU) : (tbOf us).map (·.1) = us.map (·.1) := by
  unfold tbOf
  rw [List.map_map]
  rfl
theorem KV.getN {K : PySem.W.Frag} {H : Hp} {kvs : List (Key × V)} {us : List RowU} (t : KV K H kvs us) {x : Str} (h : (tbOf us).lookup x = none) : valV kvs (Sum.inr x) = none := by
  induction t with
  | nil => rfl
  | @cons v u kvs us hd r ih =>
    unfold tbOf at h
    rw [List.map_cons] at h
    simp only [List.lookup] at h
    by_cases e : u.1 = x
    · have eb : (x == u.1) = true := by rw [e]; exact beq_self_eq_true x
      rw [eb] at h
      cases h
    · have eb : (x == u.1) = false := by simpa using fun z : x = u.1 => e z.symm
      rw [eb] at h
      rw [valV_neg (fun z => e (Sum.inr.inj z))]
      exact ih h
/-- what the dict of kinds tells of a name -/
def lookD (us : List RowU) (x : Str) : PyData := match (tbOf us).lookup x with | none => .none | some o => kindD o
theorem lookD_noL (us : List RowU) (x : Str) : noL (lookD us x) = true := by
  unfold lookD
  cases (tbOf us).lookup x with
  | none => rfl
  | some o => exact kindD_noL o
theorem lookD_shaped (us : List RowU) (x : Str) : SeqAt.shaped (lookD us x) = true := by
  unfold lookD
  cases (tbOf us).lookup x with
  | none => decide
  | some o =>
    show SeqAt.shaped (kindD o) = true
    rw [kindD_eq]
    exact kinds_shaped _
theorem KV.look {K : PySem.W.Frag} {H : Hp} {kvs : List (Key × V)} {us : List RowU} (t : KV K H kvs us) (x : Str) : ∃ g : Option V, valV kvs (Sum.inr x) = g ∧ Dp K H (g.getD .non) (lookD us x) := by
  unfold lookD
  cases e : (tbOf us).lookup x with
  | none => exact ⟨none, t.getN e, .non⟩
  | some o =>
    obtain ⟨v, h1, h2⟩ := t.get e
    exact ⟨some v, h1, h2⟩
theorem kinds_eqvB : ∀ as bs : List Bool, PyData.eqv (kindsD as) (kindsD bs) = decide (as = bs) := fun as bs => by
  show PyData.eqvAll (as.map fun b => .str (kd b)) (bs.map fun b => .str (kd b)) = _
  induction as generalizing bs with
  | nil => cases bs <;> rfl
  | cons a r ih =>
    cases bs with
    | nil => rfl
    | cons b q =>
      show ((kd a == kd b) && PyData.eqvAll _ _) = _
      rw [ih]
      by_cases e : a = b
      · subst e
        simp
      · have : (kd a == kd b) = false := by
          simpa using fun z => e (kd_inj z)
        rw [this]
        simp [e]
theorem look_main (us : List RowU) (x : Str) : PyData.eqv (lookD us x) (.tuple []) = decide ((tbOf us).lookup x = some []) := by
  unfold lookD
  cases (tbOf us).lookup x with
  | none => rfl
  | some o =>
    cases o with
    | nil => rfl
    | cons p r => rfl
theorem look_eqv (us : List RowU) (x : Str) (bs : List Bool) : PyData.eqv (lookD us x) (kindsD bs) = decide (((tbOf us).lookup x).map (fun o => o.map (·.2)) = some bs) := by
  unfold lookD
  cases (tbOf us).lookup x with
  | none => rfl
  | some o =>
    show PyData.eqv (kindD o) (kindsD bs) = _
    rw [kindD_eq, kinds_eqvB]
    simp
def spFitsG (K : PySem.W.Frag) : Sp := fun vs H Q _ => ∃ (own : List (Str × Bool)) (v : V) (t : Tm) (m : Int) (ka : Addr) (kvs : List (Key × V)) (us : List RowU), vs = [v, .int m, .ref ka] ∧ Dp K H v t.data ∧ Good own t ∧ ParOk own ∧ t.deep ≤ 6 ∧ t.kids.length ≤ 40 ∧ 1 ≤ m ∧ m ≤ 3 ∧ H ka = some (.dK kvs) ∧ KV K H kvs us ∧
  ∀ H', Same H H' → Q (.bl (fitH m (tbOf us) t.hd (t.kids.map Tm.isW))) H'
/-- the names differ -/
def ndB (us : List RowU) : Bool := decide ((us.map (·.1)).Nodup)
def spByNameG (K : PySem.W.Frag) (C : Addr) : Sp := fun vs H Q _ => ∃ (p : Addr) (xs : List V) (us : List RowU), vs = [.ref p] ∧ SqT K H p xs ∧ PsAt K C H xs us ∧ us.length ≤ 8 ∧ ∀ H' q kvs, Same H H' → H' q = some (.dK kvs) → ((us.map (·.1)).Nodup → KV K H' kvs us) → (¬ (us.map (·.1)).Nodup → kvs.length < us.length) → Q (.ref q) H'
/-- the keys are the names, each once -/
inductive NamesIn : List (Key × V) → List RowU → Prop
  | mk {kvs : List (Key × V)} {us : List RowU} (k : ∃ ns : List Str, kvs.map (·.1) = ns.map Sum.inr ∧ ns.Nodup ∧ ∀ x, x ∈ ns ↔ x ∈ us.map (·.1)) : NamesIn kvs us
theorem NamesIn.nil : NamesIn [] [] := .mk ⟨[], rfl, .nil, fun _ => Iff.rfl⟩
theorem keys_old {kvs : List (Key × V)} {k : Key} {v : V} (h : k ∈ kvs.map (·.1)) : (putK kvs k v).map (·.1) = kvs.map (·.1) := by
  unfold putK
  have e : (kvs.any fun kv => decide (kv.1 = k)) = true := by
    obtain ⟨kv, h1, h2⟩ := List.mem_map.mp h
    exact List.any_eq_true.mpr ⟨kv, h1, decide_eq_true h2⟩
  rw [if_pos e, List.map_map]
  refine List.map_congr_left fun kv _ => ?_
  show (if kv.1 = k then (kv.1, v) else kv).1 = kv.1
  by_cases z : kv.1 = k
  · rw [if_pos z]
  · rw [if_neg z]
theorem keys_new {kvs : List (Key × V)} {k : Key} {v : V} (h : k ∉ kvs.map (·.1)) : (putK kvs k v).map (·.1) = kvs.map (·.1) ++ [k] := by
  rw [putK_new h, List.map_append]
  rfl
theorem NamesIn.put {kvs : List (Key × V)} {us : List RowU} (n : NamesIn kvs us) {u : RowU} {v : V} : NamesIn (putK kvs (Sum.inr u.1) v) (us ++ [u]) := by
  obtain ⟨ns, h1, h2, h3⟩ := n
  by_cases z : (Sum.inr u.1 : Key) ∈ kvs.map (·.1)
  · have e := keys_old (v := v) z
    refine .mk ⟨ns, e.trans h1, h2, fun x => ?_⟩
    rw [h1] at z
    have m := (h3 _).mp (inr_mem z)
    rw [h3, List.map_append, List.mem_append]
    refine ⟨.inl, fun q => q.elim id fun q => ?_⟩
    rw [List.mem_singleton.mp q]
    exact m
  · have e := keys_new (v := v) z
    rw [h1] at z
    have m : u.1 ∉ ns := fun q => z (List.mem_map.mpr ⟨_, q, rfl⟩)
    refine .mk ⟨ns ++ [u.1], by rw [e, h1, List.map_append]; rfl, ?_, fun x => ?_⟩
    · exact List.nodup_append.mpr ⟨h2, List.nodup_cons.mpr ⟨List.not_mem_nil, .nil⟩, fun a ha b hb z => m (by rw [List.mem_singleton.mp hb] at z; exact z ▸ ha)⟩
    · rw [List.mem_append, List.map_append, List.mem_append, h3]
      exact Iff.rfl
theorem nodup_sub : ∀ {ns ms : List Str}, ns.Nodup → (∀ x, x ∈ ns → x ∈ ms) → ns.length ≤ ms.length
  | [], _, _, _ => Nat.zero_le _
  | x :: r, ms, n, s => by
    obtain ⟨n1, n2⟩ := List.nodup_cons.mp n
    have h := s x List.mem_cons_self
    have := nodup_sub (ns := r) (ms := ms.erase x) n2 fun y hy => (List.mem_erase_of_ne (fun z => n1 (by rw [← z]; exact hy))).mpr (s y (List.mem_cons_of_mem _ hy))
    rw [List.length_erase_of_mem h] at this
    have := List.length_pos_of_mem h
    rw [List.length_cons]
    omega
theorem nodup_eq : ∀ {ns ms : List Str}, ns.Nodup → (∀ x, x ∈ ns → x ∈ ms) → ms.length ≤ ns.length → ms.Nodup
  | [], ms, _, _, l => by
    have : ms = [] := List.eq_nil_of_length_eq_zero (Nat.le_zero.mp l)
    rw [this]
    exact .nil
  | x :: r, ms, n, s, l => by
    obtain ⟨n1, n2⟩ := List.nodup_cons.mp n
    have h := s x List.mem_cons_self
    have sr : ∀ y, y ∈ r → y ∈ ms.erase x := fun y hy => (List.mem_erase_of_ne (fun z => n1 (by rw [← z]; exact hy))).mpr (s y (List.mem_cons_of_mem _ hy))
    have le : (ms.erase x).length ≤ r.length := by
      rw [List.length_erase_of_mem h]
      rw [List.length_cons] at l
      omega
    have m := nodup_eq n2 sr le
    refine (List.perm_cons_erase h).nodup_iff.mpr (List.nodup_cons.mpr ⟨fun z => ?_, m⟩)
    have := nodup_sub n (ms := ms.erase x) fun y hy => by
      rcases List.mem_cons.mp hy with e | e
      · rw [e]
        exact z
      · exact sr y e
    rw [List.length_cons] at this
    omega
theorem NamesIn.le {kvs : List (Key × V)} {us : List RowU} (n : NamesIn kvs us) : kvs.length ≤ us.length := by
  obtain ⟨ns, h1, h2, h3⟩ := n
  have e : kvs.length = ns.length := by
    have := congrArg List.length h1
    rwa [List.length_map, List.length_map] at this
  have := nodup_sub h2 (ms := us.map (·.1)) fun x h => (h3 x).mp h
  rw [List.length_map] at this
  omega
theorem NamesIn.lt {kvs : List (Key × V)} {us : List RowU} (n : NamesIn kvs us) (h : ¬ (us.map (·.1)).Nodup) : kvs.length < us.length := by
  have l := n.le
  obtain ⟨ns, h1, h2, h3⟩ := n
  have e : kvs.length = ns.length := by
    have := congrArg List.length h1
    rwa [List.length_map, List.length_map] at this
  rcases Nat.lt_or_ge kvs.length us.length with z | z
  · exact z
  · refine absurd ?_ h
    exact nodup_eq h2 (ms := us.map (·.1)) (fun x hx => (h3 x).mp hx) (by rw [List.length_map]; omega)
def arePsB (us : List RowU) : Bool := decide (us.length ≤ 8) && ndB us && decide ((tbOf us).lookup ("main" : Str) = some [])
theorem Knd.sm {H H' : Hp} {a : Addr} {v : V} (k : Knd H a v) (e : Same H H') : Knd H' a v := by
  cases k with
  | non => exact .non
  | bl b => exact .bl b
  | int i => exact .int i
  | str z h h2 => exact .str z h h2
  | tup n h => exact .tup n (e _ _ h)
  | lst n h => exact .lst n (e _ _ h)
  | dct n h => exact .dct n (e _ _ h)
/-- procedures, with something that is none among them -/
inductive Mixed (K : PySem.W.Frag) (C D : Addr) (H : Hp) : List V → Bool → Prop
  | nil : Mixed K C D H [] true
  | prc {a : Addr} {nm : Str} {own : List (Str × Bool)} {t : Tm} {xs : List V} {b : Bool} (h : PAt K C H a nm own t) (k : Mixed K C D H xs b) : Mixed K C D H (.ref a :: xs) b
  | odd {v : V} {xs : List V} {b : Bool} (h : Knd H D v) (k : Mixed K C D H xs b) : Mixed K C D H (v :: xs) false
theorem Mixed.same {K : PySem.W.Frag} {C D : Addr} {H H' : Hp} {xs : List V} {b : Bool} (x : Mixed K C D H xs b) (s : Same H H') : Mixed K C D H' xs b := by
  induction x with
  | nil => exact .nil
  | prc h _ ih => exact .prc (h.same s) ih
  | odd h _ ih => exact .odd (h.sm s) ih
theorem Mixed.ps {K : PySem.W.Frag} {C D : Addr} {H : Hp} {xs : List V} (x : Mixed K C D H xs true) : ∃ us, PsAt K C H xs us := by
  generalize hb : true = b at x
  induction x with
  | nil => exact ⟨[], .nil⟩
  | prc h _ ih =>
    obtain ⟨us, k⟩ := ih hb
    exact ⟨(_, _, _) :: us, .cons h k⟩
  | odd => cases hb
/-- whether each is a procedure, up to the i-th one -/
def prB : List Bool → Bool := fun l => l.all id
theorem Mixed.flags {K : PySem.W.Frag} {C D : Addr} {H : Hp} {xs : List V} {b : Bool} (x : Mixed K C D H xs b) : ∃ fs : List Bool, fs.length = xs.length ∧ fs.all id = b ∧ ∀ (i : Nat) (v : V) (f : Bool), xs[i]? = some v → fs[i]? = some f → (f = true ∧ ∃ a nm own t, v = .ref a ∧ PAt K C H a nm own t) ∨ (f = false ∧ Knd H D v) := by
  induction x with
  | nil => exact ⟨[], rfl, rfl, fun i v f h => by simp at h⟩
  | @prc a nm own t xs b h _ ih =>
    obtain ⟨fs, h1, h2, h3⟩ := ih
    refine ⟨true :: fs, by rw [List.length_cons, List.length_cons, h1], by rw [List.all_cons, h2]; rfl, fun i v f hv hf => ?_⟩
    cases i with
    | zero =>
      cases hv
      cases hf
      exact .inl ⟨rfl, a, nm, own, t, rfl, h⟩
    | succ i => exact h3 i v f hv hf
  | @odd v xs b h _ ih =>
    obtain ⟨fs, h1, h2, h3⟩ := ih
    refine ⟨false :: fs, by rw [List.length_cons, List.length_cons, h1], by rw [List.all_cons]; rfl, fun i v f hv hf => ?_⟩
    cases i with
    | zero =>
      cases hv
      cases hf
      exact .inr ⟨rfl, h⟩
    | succ i => exact h3 i v f hv hf
/-- what is asked whether it makes a program: procedures, or with something else among them -/
inductive Given (K : PySem.W.Frag) (C D : Addr) (H : Hp) (xs : List V) : Option (List RowU) → Prop
  | ps {us : List RowU} (h : PsAt K C H xs us) : Given K C D H xs (some us)
  | odd (h : Mixed K C D H xs false) : Given K C D H xs none
theorem Given.same {K : PySem.W.Frag} {C D : Addr} {H H' : Hp} {xs : List V} {o : Option (List RowU)} (x : Given K C D H xs o) (s : Same H H') : Given K C D H' xs o := by
  cases x with
  | ps h => exact .ps (h.same s)
  | odd h => exact .odd (h.same s)
theorem PsAt.mixed {K : PySem.W.Frag} {C D : Addr} {H : Hp} {xs : List V} {us : List RowU} (x : PsAt K C H xs us) : Mixed K C D H xs true := by
  induction x with
  | nil => exact .nil
  | cons h _ ih => exact .prc h ih
def areB : Option (List RowU) → Bool
  | none => false
  | some us => arePsB us
def spArePsG (K : PySem.W.Frag) (C : Addr) : Sp := fun vs H Q _ => ∃ (p D : Addr) (xs : List V) (o : Option (List RowU)), vs = [.ref p] ∧ SqT K H p xs ∧ Given K C D H xs o ∧ xs.length ≤ 100 ∧ ∀ H', Same H H' → Q (.bl (areB o)) H'
/-- a number of modes, or something else -/
inductive ModV : V → Option Int → Prop
  | int (i : Int) : ModV (.int i) (some i)
  | bl (b : Bool) : ModV (.bl b) none
  | non : ModV .non none
def modB : Option Int → Int → Int → Bool
  | none, _, _ => false
  | some i, a, b => decide (a ≤ i) && decide (i ≤ b)
def spIntInG : Sp := fun vs H Q _ => ∃ (v : V) (o : Option Int) (a b : Int), vs = [v, .int a, .int b] ∧ ModV v o ∧ Q (.bl (modB o a b)) H
def fitT (m : Int) (us : List RowU) (t : Tm) : Bool := fitH m (tbOf us) t.hd (t.kids.map Tm.isW)
def partsIn (us : List RowU) : List Tm := us.flatMap fun u => u.2.2.all
def partsFit (m : Int) (us : List RowU) : Bool := (partsIn us).all (fitT m us)
theorem parts_more {us : List RowU} {i : Nat} {u : RowU} (h : us[i]? = some u) : partsIn (us.take (i + 1)) = partsIn (us.take i) ++ u.2.2.all := by
  unfold partsIn
  rw [take_more h, List.flatMap_append]
  simp
/-- a part that may be asked whether it fits -/
def PTG (t : Tm) : Prop := ∃ own, Good own t ∧ ParOk own ∧ t.deep ≤ 6 ∧ t.kids.length ≤ 40
theorem ptg_all {own : List (Str × Bool)} {t : Tm} (g : Good own t) (po : ParOk own) (d : t.deep ≤ 6) (c : t.count ≤ 40) : ∀ u ∈ t.all, PTG u := fun u hu => by
  obtain ⟨h1, h2⟩ := all_le t u hu
  have e := count_eq u
  have f := kids_few u.kids
  exact ⟨own, all_good g u hu, po, by omega, by omega⟩
/-- whether there is such a program -/
def canB : Option Int → Option (List RowU) → Bool
  | some m, some us => decide (1 ≤ m) && decide (m ≤ 3) && arePsB us && !(decide (2 < m) && wrapsIn us) && partsFit m us
  | _, _ => false
theorem canB_mod {m : Option Int} (o : Option (List RowU)) (h : modB m 1 3 = false) : canB m o = false := by
  cases m with
  | none => cases o <;> rfl
  | some i =>
    cases o with
    | none => rfl
    | some us =>
      show (decide (1 ≤ i) && decide (i ≤ 3) && _ && _ && _) = false
      rw [show (decide (1 ≤ i) && decide (i ≤ 3)) = false from h]
      rfl
theorem canB_are (i : Int) {o : Option (List RowU)} (h : areB o = false) : canB (some i) o = false := by
  cases o with
  | none => rfl
  | some us =>
    show (_ && _ && arePsB us && _ && _) = false
    rw [show arePsB us = false from h, Bool.and_false]
    rfl
theorem canB_wr {i : Int} (us : List RowU) (h : 2 < i) (w : wrapsIn us = true) : canB (some i) (some us) = false := by
  show (_ && _ && arePsB us && !(decide (2 < i) && wrapsIn us) && _) = false
  rw [decide_eq_true h, w]
  simp
theorem canB_fit {i : Int} {us : List RowU} (h : modB (some i) 1 3 = true) (a : areB (some us) = true) (w : (decide (2 < i) && wrapsIn us) = false) : canB (some i) (some us) = partsFit i us := by
  show (decide (1 ≤ i) && decide (i ≤ 3) && arePsB us && !(decide (2 < i) && wrapsIn us) && _) = _
  rw [show (decide (1 ≤ i) && decide (i ≤ 3)) = true from h, show arePsB us = true from a, w]
  rfl
theorem areB_parts {us : List RowU} (a : areB (some us) = true) : us.length ≤ 8 ∧ (us.map (·.1)).Nodup ∧ (tbOf us).lookup ("main" : Str) = some [] := by
  obtain ⟨h1, h3⟩ := Bool.and_eq_true_iff.mp (show (decide (us.length ≤ 8) && decide ((us.map (·.1)).Nodup) && decide ((tbOf us).lookup ("main" : Str) = some [])) = true from a)
  obtain ⟨h1, h2⟩ := Bool.and_eq_true_iff.mp h1
  exact ⟨of_decide_eq_true h1, of_decide_eq_true h2, of_decide_eq_true h3⟩
def spCanG (K : PySem.W.Frag) (C : Addr) : Sp := fun vs H Q _ => ∃ (p D : Addr) (v : V) (m : Option Int) (xs : List V) (o : Option (List RowU)), vs = [v, .ref p] ∧ ModV v m ∧ SqT K H p xs ∧ Given K C D H xs o ∧ xs.length ≤ 100 ∧ ∀ H', Same H H' → Q (.bl (canB m o)) H'
end FS

set_option Elab.async false
set_option linter.all false
set_option maxRecDepth 100000
set_option maxHeartbeats 4000000
/-! a program is made, or refused -/
namespace FS
open PySem PySem.Spec PyProof.Rows L2
/-- the error of what is no program -/
structure Bad (K : PySem.W.Frag) (mg : Str → Option Value) (CI : Addr) : Prop where
  gI : mg "InvalidProgram" = some (.ref CI)
  kI : PySem.W.keepIn K (.ref CI) = true
  xI : PySem.W.excIn K CI [.type "ValueError", .type "Exception", .type "BaseException", .type "object"] "ValueError.__new__" = true
  bI : PySem.W.subIn K (.ref CI) (.type "BaseException") = some true
  tI : PySem.W.typeIn K (.ref CI) = some (.type "type")
  eI : PySem.W.exmOne K (.ref CI) (.ref CI) = some true
section
variable {P : Program} {w : World} {K : PySem.W.Frag} {mg : Str → Option Value} {base : Heap}
/-- a def with a star parameter behind the others, that may raise -/
theorem okStarX {x qual : Str} {st : Stmt} {f : Addr} {fd : FuncData} {N ps : List Str} {pv : Str} {k : Nat} {sp : Sp} (F : Fun K x qual st f fd) (S : FnScope N (ps ++ [pv]) (defScope st))
    (bind : ∀ (kV doc pm : Value) (an : Option Addr) (cdv ct : Value) (us rest : List Value), us.length = ps.length → bindArgs (PySem.W.fnOf x qual (defArgs st) (defBody st) (defScope st) .none kV doc pm an cdv ct) ⟨us ++ rest, []⟩ = (newTuple rest >>= fun t => pure (ps.zip us ++ [(pv, t)])))
    (body : ∀ (cdv : Value) (A : Around) (outer : List Env) (s : Shared) (H : Hp) (vs : List V) (Q : VK) (E : XK), Room k (A.deeper (envOfC qual (defScope st) s.heap.objs.size f cdv)) → sp vs H Q E →
      ∃ t, PSs (cxOf (L2.CX P w) P w K mg base N qual (defScope st) f cdv A outer s H E) (defBody st) t ∧ t { nx := fun _ H' => Q .non H', rt := Q } (start N vs) H) :
    FnR P w K mg base (L2.CX P w) (k + 1) f (fun vs H Q E => ∃ ws rest, vs = ws ++ rest ∧ ws.length = ps.length ∧ rest.length ≤ sizeLine ∧ ∀ p, H p = Option.none → sp (ws ++ [V.ref p]) (upd H p (.tup rest)) Q E) := by
  obtain ⟨oc, od, kV, doc, pm, an, cdv, ct, osl, rfl, lk, hcd⟩ := F.ex
  exact StX.fn_star lk hcd S StX.cxUp (bind kV doc pm an cdv ct) fun A outer s H vs Q E hr h => body cdv A outer s H vs Q E hr h
end
/-- a program, with the very procedures it was made of -/
def PgX (K : PySem.W.Frag) (CP C : Addr) (H : Hp) (a : Addr) (m : Int) (us : List RowU) (xs : List V) : Prop :=
  ∃ (dx pv dv nv wv : Addr) (kvs : List (Key × V)) (ns ws : List Str), H a = some (.ins CP dx (pgF m pv dv nv wv (wrapsIn us))) ∧ SqT K H pv xs ∧ PsAt K C H xs us ∧ us.length ≤ 8 ∧ H dv = some (.dK kvs) ∧ ByV kvs xs us ∧
    Dp K H (.ref nv) (strsD ns) ∧ Ranks (us.map (·.1)) ns ∧ Dp K H (.ref wv) (strsD ws) ∧ Ranks (wordsOf us) ws ∧ 1 ≤ m ∧ m ≤ 3
theorem PgX.at_ {K : PySem.W.Frag} {CP C : Addr} {H : Hp} {a : Addr} {m : Int} {us : List RowU} {xs : List V} (p : PgX K CP C H a m us xs) : PgAt K CP C H a m us := by
  obtain ⟨dx, pv, dv, nv, wv, kvs, ns, ws, h⟩ := p
  exact ⟨dx, pv, dv, nv, wv, xs, kvs, ns, ws, h⟩
def spPgInitG (K : PySem.W.Frag) (CP C CI : Addr) : Sp := fun vs H Q E => ∃ (x dx D : Addr) (v : V) (m : Option Int) (xs : List V) (o : Option (List RowU)), vs = .ref x :: v :: xs ∧ H x = some (.ins CP dx []) ∧ ModV v m ∧ Given K C D H xs o ∧ xs.length ≤ 100 ∧
  (∀ i us, m = some i → o = some us → canB m o = true → ∀ H', PgX K CP C H' x i us xs → Kp x H H' → Q .non H') ∧ (canB m o = false → ∀ H', Same H H' → E (.ref CI) none H')
def spPgInG (K : PySem.W.Frag) (CP C CI : Addr) : Sp := fun vs H Q E => ∃ (x dx D : Addr) (v : V) (m : Option Int) (p : Addr) (xs : List V) (o : Option (List RowU)), vs = [.ref x, v, .ref p] ∧ H x = some (.ins CP dx []) ∧ H p = some (.tup xs) ∧ ModV v m ∧ Given K C D H xs o ∧ xs.length ≤ 100 ∧
  (∀ i us, m = some i → o = some us → canB m o = true → ∀ H', PgX K CP C H' x i us xs → Kp x H H' → Q .non H') ∧ (canB m o = false → ∀ H', Same H H' → E (.ref CI) none H')
theorem init_inG {K : PySem.W.Frag} {CP C CI : Addr} {vs : List V} {H : Hp} {Q : VK} {E : XK} (h : spPgInitG K CP C CI vs H Q E) : ∃ ws rest, vs = ws ++ rest ∧ ws.length = 2 ∧ rest.length ≤ sizeLine ∧ ∀ p, H p = Option.none → spPgInG K CP C CI (ws ++ [V.ref p]) (upd H p (.tup rest)) Q E := by
  obtain ⟨x, dx, D, v, m, xs, o, rfl, hx, mv, gv, l100, q, qe⟩ := h
  refine ⟨[.ref x, v], xs, rfl, rfl, Nat.le_of_lt (small1000 (by omega)), fun p hp => ?_⟩
  have s1 : Same H (upd H p (.tup xs)) := same_upd hp
  exact ⟨x, dx, D, v, m, p, xs, o, rfl, s1 _ _ hx, upd_same, mv, gv.same s1, l100, fun i us e1 e2 c H' pa k => q i us e1 e2 c H' pa fun b u n hb => k b u n (s1 _ _ hb), fun c H' s => qe c H' (s1.trans s)⟩
theorem canB_true {m : Option Int} {o : Option (List RowU)} (h : canB m o = true) : ∃ i us, m = some i ∧ o = some us ∧ 1 ≤ i ∧ i ≤ 3 ∧ us.length ≤ 8 ∧ (us.map (·.1)).Nodup := by
  cases m with
  | none => cases o <;> cases h
  | some i =>
    cases o with
    | none => cases h
    | some us =>
      have h : (decide (1 ≤ i) && decide (i ≤ 3) && arePsB us && !(decide (2 < i) && wrapsIn us) && partsFit i us) = true := h
      simp only [Bool.and_eq_true, decide_eq_true_eq] at h
      obtain ⟨⟨⟨⟨h1, h2⟩, h3⟩, -⟩, -⟩ := h
      obtain ⟨f, n, -⟩ := areB_parts (us := us) h3
      exact ⟨i, us, rfl, rfl, h1, h2, f, n⟩
/-- no tuple -/
def Bent (K : PySem.W.Frag) (H : Hp) (v : V) : Prop := ∃ t, TyX K H v t ∧ PySem.W.kitOne K t (.type "tuple") = some false
def spPgOfG (K : PySem.W.Frag) (CP C CI : Addr) : Sp := fun vs H Q E => ∃ (v pv : V) (m : Option Int), vs = [.ref CP, v, pv] ∧ ModV v m ∧
  ((∃ (p D : Addr) (xs : List V) (o : Option (List RowU)), pv = .ref p ∧ SqT K H p xs ∧ Given K C D H xs o ∧ xs.length ≤ 100 ∧
    (∀ i us, m = some i → o = some us → canB m o = true → ∀ H' a, Same H H' → H a = none → PgX K CP C H' a i us xs → Q (.ref a) H') ∧ (canB m o = false → ∀ H', Same H H' → E (.ref CI) none H')) ∨
   (Bent K H pv ∧ E (.ref CI) none H))
end FS

set_option Elab.async false
set_option linter.all false
set_option maxRecDepth 100000
set_option maxHeartbeats 4000000
/-! tuples of objects with their own ==, either way -/
namespace FS.TupB
open PySem PySem.SeqAt GQ AutoSeq1 MeetsSeq MeetsSeq2 MeetsSeq3 SeqRoads2
section
variable {prog : Program} {w : World} {A : Around} {R : Result → Shared → Prop}
theorem tup_eqB (p q : Addr) (xs ys : Array Value) (nx ny : Nat) (dx dy : Option Addr) (zx zy : Array (Option Value)) (c : Nat → Bool) (J : Nat → Shared → Prop)
    (step : ∀ i (ix : i < xs.size) (iy : i < ys.size) s, J i s → wpAny (model prog w) A.in1 (eqBool xs[i] ys[i]) (fun r s1 => r = c i ∧ J (i + 1) s1) (fun e s1 => R (.error e) s1) s)
    (alike : ∀ s, J (min xs.size ys.size) s → (∀ j, j < min xs.size ys.size → c j = true) → R (.ok (.ret (.bool (xs.size == ys.size)))) s)
    (apart : ∀ i s, i < min xs.size ys.size → c i = false → J (i + 1) s → R (.ok (.ret (.bool false))) s)
    {s : Shared} (atP : s.heap.get? p = some { cls := .type "tuple", dict := dx, data := .seq xs nx, slots := zx })
    (atQ : s.heap.get? q = some { cls := .type "tuple", dict := dy, data := .seq ys ny, slots := zy }) (start : J 0 s) :
    wpAny (model prog w) A.in1 (Builtin.«tuple.__eq__» ⟨[.ref p, .ref q], []⟩) (FinOf prog w A R) (fun e s1 => R (.error e) s1) s := by
  have both := AutoSeq1.sub_tuple_tuple
  have many : (xs.toList.zip ys.toList).length = min xs.size ys.size := by simp
  have start0 := start
  obtain ⟨hp, gens, drawn, toks, os⟩ := s
  wp_walk using wpAny_loadPart' atP, wpAny_loadPart' atQ, wpAny_forIn_list _ (fun left b s1 => b.1 = none ∧ ∃ i, left = (xs.toList.zip ys.toList).drop i ∧ i ≤ min xs.size ys.size ∧ (∀ j, j < i → c j = true) ∧ J i s1) _
  case turn =>
    rintro ⟨one, two⟩ left b s1 ⟨none1, i, cut, le, past, now⟩
    have lt : i < (xs.toList.zip ys.toList).length := by
      rcases Nat.lt_or_ge i (xs.toList.zip ys.toList).length with z | z
      · exact z
      · rw [List.drop_of_length_le z] at cut; cases cut
    have lt2 : i < min xs.size ys.size := many ▸ lt
    have ix : i < xs.size := by omega
    have iy : i < ys.size := by omega
    rw [List.drop_eq_getElem_cons lt] at cut
    injection cut with pair tail
    have e1 : one = xs[i] := by have := congrArg Prod.fst pair; simpa using this
    have e2 : two = ys[i] := by have := congrArg Prod.snd pair; simpa using this
    subst e1 e2
    refine wpAny_bind (wpAny_mono (step i ix iy s1 now) (fun r s2 got => ?_) fun _ _ z => z)
    obtain ⟨rc, next⟩ := got
    cases hc : c i with
    | true =>
      rw [hc] at rc
      subst rc
      wp_walk
      refine ⟨rfl, i + 1, tail, lt2, fun j hj => ?_, next⟩
      rcases Nat.lt_succ_iff_lt_or_eq.mp hj with z | z
      · exact past j z
      · rw [z]; exact hc
    | false =>
      rw [hc] at rc
      subst rc
      have out : R (.ok (.ret (.bool false))) s2 := apart i s2 lt2 hc next
      obtain ⟨hp2, gens2, drawn2, toks2, os2⟩ := s2
      wp_walk
      exact out
  case fin =>
    rintro ⟨b1, b2⟩ s1 ⟨none1, i, cut, le, past, now⟩
    simp only at none1
    subst none1
    have ge : min xs.size ys.size ≤ i := by
      rcases Nat.lt_or_ge i (xs.toList.zip ys.toList).length with z | z
      · rw [List.drop_eq_getElem_cons z] at cut; cases cut
      · exact many ▸ z
    have ei : i = min xs.size ys.size := by omega
    subst ei
    have out := alike s1 now past
    wp_walk
    simpa [Builtin.Tuple.tupleCompareSizes] using out
  case h =>
    exact ⟨rfl, 0, rfl, Nat.zero_le _, fun j z => absurd z (Nat.not_lt_zero _), start0⟩
end
section
variable {prog : Program} {w : World} {A : Around} {E : Value → Shared → Prop} {s : Shared}
theorem rc_tupB {p q : Addr} {xs ys : Array Value} {Q : Value → Shared → Prop} (c : Nat → Bool) (room : A.units < cLine) (J : Nat → Shared → Prop) (tp : s.heap.IsTuple p xs) (tq : s.heap.IsTuple q ys)
    (step : ∀ i (ix : i < xs.size) (iy : i < ys.size) s, J i s → wpAny (model prog w) A.in1 (eqBool xs[i] ys[i]) (fun r s1 => r = c i ∧ J (i + 1) s1) E s)
    (alike : ∀ s, J (min xs.size ys.size) s → (∀ j, j < min xs.size ys.size → c j = true) → Q (.bool (xs.size == ys.size)) s)
    (apart : ∀ i s, i < min xs.size ys.size → c i = false → J (i + 1) s → Q (.bool false) s) (start : J 0 s) :
    wpAny (model prog w) A (richCompare .Eq (.ref p) (.ref q)) Q E s := by
  obtain ⟨⟨cp, ep, fp, zp⟩, atP, hp1, np, hp2⟩ := id tp
  obtain ⟨⟨cq, eq, fq, zq⟩, atQ, hq1, nq, hq2⟩ := id tq
  simp only at hp1 hp2 hq1 hq2
  subst hp1 hp2 hq1 hq2
  refine wpAny_richCompare_same_room (op := .Eq) ⟨_, atP, rfl⟩ ⟨_, atQ, rfl⟩ F.slot_tuple_eq (call_here F.slot_tuple_eq ⟨_, atP, rfl⟩ F.entry_tuple_eq (F.args_tuple_eq_2 _ _) ?_) room
  exact tup_eqB (R := wants (fun v s1 => v ≠ .notImplemented ∧ Q v s1) E) p q xs ys np nq ep eq zp zq c J step (fun s1 a b => ⟨(fun z => nomatch z), alike s1 a b⟩) (fun i s1 a b d => ⟨(fun z => nomatch z), apart i s1 a b d⟩) atP atQ start
end
end FS.TupB
namespace FS
open PySem PySem.Spec PyProof.Rows L2
def tri (u : RowU) : PyData := triD u.1 u.2.1 u.2.2
def prEq (u v : RowU) : Bool := PyData.eqv (tri u) (tri v)
/-- equal procedures in the same order -/
def rowsEq (us vs : List RowU) : Bool := PyData.eqvAll (us.map tri) (vs.map tri)
def cEq (us vs : List RowU) (i : Nat) : Bool := match us[i]?, vs[i]? with | some u, some v => prEq u v | _, _ => true
theorem rowsEq_all : ∀ (us vs : List RowU), (∀ j, j < min us.length vs.length → cEq us vs j = true) → rowsEq us vs = (us.length == vs.length)
  | [], [], _ => rfl
  | [], _ :: _, _ => rfl
  | _ :: _, [], _ => rfl
  | u :: us, v :: vs, h => by
    show (prEq u v && rowsEq us vs) = _
    have h0 := h 0 (by simp)
    rw [show prEq u v = true from h0, Bool.true_and, rowsEq_all us vs fun j hj => by
      have := h (j + 1) (by simp only [List.length_cons]; omega)
      simpa [cEq] using this]
    simp
theorem rowsEq_no : ∀ (us vs : List RowU) (i : Nat), i < min us.length vs.length → cEq us vs i = false → rowsEq us vs = false
  | [], _, _, h, _ => by simp at h
  | _ :: _, [], _, h, _ => by simp at h
  | u :: us, v :: vs, 0, _, c => by
    show (prEq u v && rowsEq us vs) = false
    rw [show prEq u v = false from c]
    rfl
  | u :: us, v :: vs, i + 1, h, c => by
    show (prEq u v && rowsEq us vs) = false
    rw [rowsEq_no us vs i (by simp only [List.length_cons] at h; omega) (by simpa [cEq] using c), Bool.and_false]
theorem prEq_eq (u v : RowU) : prEq u v = (u.1 == v.1 && PyData.eqv (parsD u.2.1) (parsD v.2.1) && PyData.eqv u.2.2.data v.2.2.data) := tri_eqv ..
theorem prEq_self {u : RowU} (po : ParOk u.2.1) (g : Good u.2.1 u.2.2) : prEq u u = true := by
  rw [prEq_eq]
  exact same_eqv po g
/-- at the same place the same object stands for the same procedure -/
def Apart (xs ys : List V) (us vs : List RowU) : Prop := ∀ (i : Nat) (a : Addr) (u v : RowU), xs[i]? = some (.ref a) → ys[i]? = some (.ref a) → us[i]? = some u → vs[i]? = some v → u = v
section
variable {X : Cx} {pins : List (Addr × Obj)} {σ : L2.St} {H : Hp} {s : Shared} {C : Addr}
theorem eq_atA {A : Around} {a b : Addr} {u v : RowU} (nf : PySem.W.notFirst X.K C (.ref C) = true) (G : PrG X.prog X.w X.K X.mg X.base C) (sb : Sub X 1 A) (I : Inv X pins σ H s) (pa : PAt X.K C H a u.1 u.2.1 u.2.2) (pb : PAt X.K C H b v.1 v.2.1 v.2.2) :
    wpAny (model X.prog X.w) A (richCompare .Eq (.ref a) (.ref b)) (fun z s1 => ∃ r, z = .bool r ∧ r = prEq u v ∧ Inv X pins σ H s1) X.xe s := by
  obtain ⟨f, fd, F, hb, hs, hf⟩ := G.eq
  obtain ⟨dx, _, _, _, _, _, _, _, _, _, ha, -⟩ := pa.ex
  obtain ⟨dy, _, _, _, _, _, _, _, _, _, hb2, -⟩ := pb.ex
  have ty : TyX X.K H (.ref b) (.ref C) := .base (.ins hb2 G.c.cl G.c.ha G.c.hn G.c.htk G.c.hm)
  have rb : RelV (V.ref b) (Value.ref b) := rfl
  obtain ⟨mA, J, _⟩ := ins_get I.hok ha
  obtain ⟨od, J, _⟩ := J.look
  obtain ⟨m, hF⟩ := I.fr
  refine PySem.W.cmp_K (op := .Eq) (tb := .ref C) sb.room.units0 hF I.ok.mod.kin J (looks_ty I rb ty) nf hs hf ?_
  have sp : spEqT X.K C [.ref a, .ref b] H (fun z H1 => z = .bl (prEq u v) ∧ H1 = H) E0 := ⟨a, _, u.1, u.2.1, u.2.2, rfl, pa, .inr ⟨b, v.1, v.2.1, v.2.2, rfl, pb, by rw [prEq_eq], rfl⟩⟩
  refine wpAny_mono (run_at sb I F hb pass0 (.cons (show RelV (V.ref a) (Value.ref a) from rfl) (.cons rb .nil)) sp) (fun z s1 h => ?_) fun _ _ z => z
  obtain ⟨q, H1, I1, rz, e1, e2⟩ := h
  subst e1 e2
  cases rz
  exact ⟨_, rfl, rfl, I1⟩
theorem nf_self {K : PySem.W.Frag} {C : Addr} : PySem.W.notFirst K C (.ref C) = true := by
  unfold PySem.W.notFirst
  rw [show ((Value.ref C == Value.ref C) = true) from by simp]
  rfl
theorem eq_same {M : Model} {A : Around} {a : Addr} {Q : Bool → Shared → Prop} {E : Value → Shared → Prop} {s : Shared} (h : Q true s) : wpAny M A (eqBool (.ref a) (.ref a)) Q E s := by
  unfold eqBool
  refine wpAny_holding (wpAny_ite_split (fun _ => ?_) fun z => absurd (show (Value.ref a == Value.ref a) = true by simp) z)
  exact wpAny_bind (wpAny_rule (wpAny_pure h))
/-- tuples of procedures, == -/
def rTupP (K : PySem.W.Frag) (C : Addr) : R2 := fun x y H Q => ∃ (p q : Addr) (xs ys : List V) (us vs : List RowU), x = .ref p ∧ y = .ref q ∧ SqT K H p xs ∧ SqT K H q ys ∧ PsAt K C H xs us ∧ PsAt K C H ys vs ∧ Apart xs ys us vs ∧ Q (.bl (rowsEq us vs)) H
theorem vals_at {xs : List V} {its : List Value} (r : Vals xs its) {i : Nat} (h : i < its.toArray.size) : ∃ v, xs[i]? = some v ∧ RelV v its.toArray[i] := by
  have l1 : i < its.length := by simpa using h
  have l2 : i < xs.length := by rw [r.length]; exact l1
  obtain ⟨u, hu, ru⟩ := r.get (List.getElem?_eq_getElem l2)
  rw [List.getElem?_eq_getElem l1] at hu
  refine ⟨_, List.getElem?_eq_getElem l2, ?_⟩
  have e : its.toArray[i] = u := by
    rw [← Option.some.inj hu]
    simp
  rw [e]
  exact ru
theorem op_eqT (G : PrG X.prog X.w X.K X.mg X.base C) (hr : Room 2 X.A) : OpR X (compareOp .Eq) (rTupP X.K C) := by
  intro pins s σ H x y v u Q I rx ry hq
  obtain ⟨p, q, xs, ys, us, vs, rfl, rfl, sp, sq, ps, pt, ap, qq⟩ := hq
  cases rx
  cases ry
  obtain ⟨its, rv, tp, _⟩ := I.tuple sp
  obtain ⟨jts, rw', tq, _⟩ := I.tuple sq
  have n1 : its.toArray.size = us.length := by rw [List.size_toArray, ← rv.length, ps.len]
  have n2 : jts.toArray.size = vs.length := by rw [List.size_toArray, ← rw'.length, pt.len]
  show wpAny (model X.prog X.w) X.A (richCompare .Eq (.ref p) (.ref q)) (EP X pins σ Q) X.xe s
  refine TupB.rc_tupB (cEq us vs) hr.units0 (fun _ s1 => Inv X pins σ H s1) tp tq (fun i ix iy s1 I1 => ?_) (fun s1 I1 al => ?_) (fun i s1 lt ci I1 => ?_) I
  · obtain ⟨x1, e1, r1⟩ := vals_at rv ix
    obtain ⟨y1, e2, r2⟩ := vals_at rw' iy
    obtain ⟨a, u, rfl, hu, pa⟩ := ps.get e1
    obtain ⟨b, v, rfl, hv, pb⟩ := pt.get e2
    have ec : cEq us vs i = prEq u v := by
      unfold cEq
      rw [hu, hv]
    rw [show its.toArray[i] = Value.ref a from r1, show jts.toArray[i] = Value.ref b from r2, ec]
    by_cases ab : a = b
    · subst ab
      have uv := ap i a u v e1 e2 hu hv
      subst uv
      exact eq_same ⟨(prEq_self pa.po pa.good).symm, I1⟩
    · refine GQ.eqBool_refG ab (wpAny_mono (eq_atA nf_self G (show Sub X 2 X.A from ⟨hr, rfl⟩).in1 I1 pa pb) (fun z s2 h => ?_) fun _ _ z => z)
      obtain ⟨r, e, f, I2⟩ := h
      exact ⟨r, e, f, I2⟩
  · rw [n1, n2] at al
    refine ⟨.bl (rowsEq us vs), H, I1, ?_, qq⟩
    rw [rowsEq_all us vs al, n1, n2]
    rfl
  · rw [n1, n2] at lt
    refine ⟨.bl (rowsEq us vs), H, I1, ?_, qq⟩
    rw [rowsEq_no us vs i lt ci]
    rfl
end
end FS

set_option Elab.async false
set_option linter.all false
set_option maxRecDepth 100000
set_option maxHeartbeats 4000000
/-! a lambda handed on: what is refused is None -/
namespace FS
open PySem PySem.Spec PyProof.Rows L2 LamX
/-- what is returned, or None where the error x comes -/
def TMet (K : PySem.W.Frag) (CS : Addr) : (XK → Hp → VK → Prop) → Hp → VK → Prop := fun tl H Q =>
  tl (fun cls _ H1 => PySem.W.exmOne K cls (.ref CS) = some true ∧ Q .non H1) H Q
theorem met_body {X : Cx} {Ng : List Str} {x a e q : Str} {sg : Scope} {g CS : Addr} {cdg : Value} {j : Nat} {p1 p2 p3 p4 p5 p6 p7 p8 : Pos}
    (globalE : sg.names.lookup e = some .globalImplicit) (atE : X.mg e = some (.ref CS)) (notDebug : (e == ("__debug__" : Str)) = false)
    (slot0 : ∀ b : Addr, (L2.start Ng [V.ref b])[0]? = some (some (V.ref b))) :
    GivesTo X Ng x sg g cdg
      [.Try [.Return (some (.Call (.Name a p1) [] [] p2)) p3]
        [.ExceptHandler (some (.Name e p4)) none [.Return (some (.Constant .none j p5)) p6] p7] [] [] p8]
      a q (TMet X.K CS) := by
  intro b c1 s H Q tl called code told
  let Y : Cx := (cxOf C8.CX0 X.prog X.w X.K X.mg X.base Ng x sg g cdg X.A X.stack s H C8.E0).nox
  have inG : Gl Y e := globalE
  let wish : XK := fun cls _ H1 => PySem.W.exmOne X.K cls (.ref CS) = some true ∧ Q .non H1
  refine ⟨_, pss_one (ps_try_only (X := Y) (c := .ref CS)
    (tb := fun W D σ H1 => ∃ Z : XK, (∀ cls d σ1 H2, Z cls d H2 → W cls d σ1 H2) ∧ σ[0]? = some (some (.ref b)) ∧ H1 c1 = some (CodeO c1 q) ∧ tl Z H1 D.rt)
    rfl rfl ⟨inG, notDebug, .inl atE⟩ LamX.takes0 ?inTry (fun _ _ _ _ _ _ _ => pss_one (ps_ret pe_non))), ?told⟩
  case inTry =>
    intro W pn xe takes _
    refine ⟨fun pins s1 σ H1 D I hz => ?_⟩
    obtain ⟨Z, up, z1, z2, z3⟩ := hz
    exact (pss_one (ps_ret (pos := p3) (called W pn xe Z p1 p2 takes up))).run pins s1 σ H1 D I ⟨z1, z2, z3⟩
  case told =>
    refine ⟨wish, ?_, slot0 b, code, told⟩
    intro cls d σ1 H2 hw
    exact ⟨true, hw.1, fun _ _ _ => hw.2, fun z => nomatch z⟩
abbrev N_law_met : List Str := ["_law_call"]
theorem sc_law_met : FnScope N_law_met ["_law_call"] (defScope s_law_met) := ⟨rfl, rfl, rfl, by decide +kernel, rfl, by decide +kernel, by decide +kernel⟩
/-- a class method called in a lambda's body, its error let out -/
theorem lam_lets {X : Cx} {A : Around} {outer : List Env} {s : Shared} {H : Hp} {E : XK} {scope : Scope} {f c1 : Addr} : Passes (L2.CX (lamCx X A outer s H E scope f c1).prog (lamCx X A outer s H E scope f c1).w) (lamCx X A outer s H E scope f c1) E :=
  passes_call (takes_of rfl rfl rfl rfl) (fun _ _ _ _ h => h)
end FS

set_option Elab.async false
set_option linter.all false
set_option maxRecDepth 100000
set_option maxHeartbeats 4000000
/-! programs compared -/
namespace FS
open PySem PySem.Spec PyProof.Rows L2
def spPgEq (K : PySem.W.Frag) (CP C : Addr) : Sp := fun vs H Q _ => ∃ (a : Addr) (y : V) (m : Int) (us : List RowU) (xs : List V), vs = [.ref a, y] ∧ PgX K CP C H a m us xs ∧
  ((∃ ty, TyX K H y ty ∧ PySem.W.kitOne K ty (.ref CP) = some false ∧ Q (.bl false) H) ∨
   (∃ (b : Addr) (m' : Int) (vs' : List RowU) (ys : List V), y = .ref b ∧ PgX K CP C H b m' vs' ys ∧ Apart xs ys us vs' ∧ Q (.bl (decide (m = m') && rowsEq us vs')) H))
end FS

set_option Elab.async false
set_option linter.all false
set_option maxRecDepth 100000
set_option maxHeartbeats 4000000
/-! own [], own in; an object that is in no tuple of texts -/
namespace FS
open PySem PySem.Spec PyProof.Rows L2
open PySem.SeqAt
open AutoSeq1 (wpAny_loadPart')
open MeetsSeq MeetsSeq2 MeetsSeq3 SeqRoads2
section
variable {prog : Program} {w : World} {A : Around} {R : Result → Shared → Prop}
/-- a tuple has nothing that equals x: the things around may change at each turn -/
theorem tup_hasNot (l : Addr) (items : Array Value) (n : Nat) (dd : Option Addr) (sl : Array (Option Value)) (x : Value) (J : Shared → Prop)
    (one : ∀ y, y ∈ items → ∀ s, J s → wpAny (model prog w) A.in1 (eqBool y x) (fun r s' => r = false ∧ J s') (fun e s' => R (.error e) s') s)
    (out : ∀ s, J s → R (.ok (.ret (.bool false))) s) {s : Shared} (hl : s.heap.get? l = some { cls := .type "tuple", dict := dd, data := .seq items n, slots := sl }) (h : J s) :
    wpAny (model prog w) A.in1 (Builtin.«tuple.__contains__» ⟨[.ref l, x], []⟩) (GQ.FinOf prog w A R) (fun e s' => R (.error e) s') s := by
  have h0 := h
  obtain ⟨hp, g, d, tk, os⟩ := s
  wp_walk using wpAny_loadPart' hl, wpAny_forIn_array _ (fun rest b s' => b.1 = none ∧ (∀ y, y ∈ rest → y ∈ items) ∧ J s') _
  case turn =>
    rintro y rest b s' ⟨hb, hm, hJ⟩
    refine wpAny_bind (wpAny_mono (one y (hm y List.mem_cons_self) s' hJ) (fun r s2 q2 => ?_) fun _ _ x => x)
    obtain ⟨hr, q2⟩ := q2
    subst hr
    wp_walk
    exact ⟨rfl, fun z hz => hm z (List.mem_cons_of_mem _ hz), q2⟩
  case fin =>
    rintro ⟨b1, b2⟩ s' ⟨hb, -, hJ⟩
    simp only at hb
    subst hb
    have hR := out s' hJ
    wp_walk
    exact hR
  case h => exact ⟨rfl, fun y hy => by simpa using hy, h0⟩
end
theorem str_eq_declines (b : Str) (u : Tok) (l : Addr) (c : Value) (dd : Option Addr) (sl : Array (Option Value)) :
    Meets (Builtin.«str.__eq__» ⟨[.str b u, .ref l], []⟩) (fun _ R s => s.heap.get? l = some { cls := c, dict := dd, data := .plain, slots := sl } ∧ R (.ok (.ret .notImplemented)) s) :=
  .of_wp fun prog w A R s h => by
    obtain ⟨hp, g, d, tk, os⟩ := s
    obtain ⟨hl, h⟩ := h
    wp_walk using wpAny_loadPart' hl, wpAny_load hl
    exact ⟨_, rfl, h⟩
theorem str_eq_declinesD (b : Str) (u : Tok) (l : Addr) (c : Value) (es : Array DictEntry) (n : Nat) (dd : Option Addr) (sl : Array (Option Value)) :
    Meets (Builtin.«str.__eq__» ⟨[.str b u, .ref l], []⟩) (fun _ R s => s.heap.get? l = some { cls := c, dict := dd, data := .dict es n, slots := sl } ∧ R (.ok (.ret .notImplemented)) s) :=
  .of_wp fun prog w A R s h => by
    obtain ⟨hp, g, d, tk, os⟩ := s
    obtain ⟨hl, h⟩ := h
    wp_walk using wpAny_loadPart' hl, wpAny_load hl
    exact ⟨_, rfl, h⟩
section
variable {prog : Program} {w : World} {A : Around} {E : Value → Shared → Prop} {s : Shared} {K : PySem.W.Frag} {x C f : Addr} {ox : Obj} {od : Option Obj} {b : Str} {u : Tok}
theorem rc_str_own {Q : Value → Shared → Prop} (hu : A.units < cLine) (X0 : K.In s.heap) (I : PySem.W.InstAt s.heap x ox C od) (hpl : ox.data = .plain) (hsub : PySem.W.subIn K (.ref C) (.type "str") = some false)
    (hs : PySem.W.findIn K (.ref C) "__eq__" = some (some (.ref f))) (hf : PySem.W.isFn K (.ref f) = true)
    (h : wpAny (model prog w) A (call (.ref f) [.ref x, .str b u]) (fun v s' => ∃ r, v = .bool r ∧ Q (.bool r) s') E s) : wpAny (model prog w) A (richCompare .Eq (.str b u) (.ref x)) Q E s := by
  have ha : s.TypeIs (.str b u) "str" := typeIs_str s b u
  have hx : s.heap.get? x = some ox := I.at_
  obtain ⟨cls, dd, dt, sl⟩ := ox
  simp only at hpl
  subst hpl
  have h1 : Slot "str" (cmpInfo .Eq).2.1 "str.__eq__" := F.slot_str_eq
  rcases hi : cmpInfo CmpOp.Eq with ⟨sym, g, r⟩
  have e2 : r = ("__eq__" : Str) := by
    have : (cmpInfo CmpOp.Eq).2.2 = ("__eq__" : Str) := rfl
    rw [hi] at this
    exact this
  rw [hi] at h1
  simp only [richCompare, hi, ha.oneThing_none]
  try with_reducible refine wpAny_holding ?_
  refine wpAny_bind (wpAny_cRoomFor_or (.inr hu) ?_)
  refine wpAny_bind (wpAny_typeOf ha (wpAny_bind (I.type.here ?_)))
  rw [if_pos (show (Value.type "str" != Value.ref C) = true from rfl)]
  refine wpAny_bind ((PySem.W.looks_subIn X0 hsub).here ?_)
  simp only [Bool.false_eq_true, if_false, Bool.not_false, if_true]
  refine wpAny_bind (m := tryCompare (.str b u) _ (.ref x)) (wpAny_tryCompare_declines ha h1 (call_meets F.slot_str_eq ha F.entry_str_eq (F.args_str_eq_2 _ _) (str_eq_declines b u x cls dd sl) ⟨hx, ⟨rfl, ?_⟩⟩))
  refine wpAny_bind (m := tryCompare (.ref x) _ (.str b u)) ?_
  unfold tryCompare
  rw [e2]
  refine wpAny_bind (PySem.W.ifBound_K X0 I hs hf (wpAny_mono h (fun v s' hv => ?_) fun _ _ e => e))
  obtain ⟨r, rfl, q⟩ := hv
  exact wpAny_pure (wpAny_pure q)
theorem eq_str_own {Q : Bool → Shared → Prop} (hu : A.units < cLine) (X0 : K.In s.heap) (I : PySem.W.InstAt s.heap x ox C od) (hpl : ox.data = .plain) (hsub : PySem.W.subIn K (.ref C) (.type "str") = some false)
    (hs : PySem.W.findIn K (.ref C) "__eq__" = some (some (.ref f))) (hf : PySem.W.isFn K (.ref f) = true)
    (h : wpAny (model prog w) A (call (.ref f) [.ref x, .str b u]) (fun v s' => ∃ r, v = .bool r ∧ Q r s') E s) : wpAny (model prog w) A (eqBool (.str b u) (.ref x)) Q E s := by
  unfold eqBool
  refine wpAny_holding ?_
  refine wpAny_ite_split (fun hab => absurd (eq_of_beq hab) nofun) (fun _ => ?_)
  refine wpAny_bind (rc_str_own hu X0 I hpl hsub hs hf (wpAny_mono h (fun v s' hv => ?_) fun _ _ e => e))
  obtain ⟨r, rfl, q⟩ := hv
  exact ⟨r, rfl, wpAny_truthy_bool q⟩
end
end FS

set_option Elab.async false
set_option linter.all false
set_option maxRecDepth 100000
set_option maxHeartbeats 4000000
namespace FS
open PySem PySem.Spec PyProof.Rows L2
open PySem.SeqAt
open AutoSeq1 (wpAny_loadPart')
section
variable {X : Cx} {pins : List (Addr × Obj)} {σ : L2.St} {H : Hp} {s : Shared} {n : Nat} {CX : CXT} {C f : Addr} {fd : FuncData} {ps : List Str} {sp : Sp} {E : XK}
/-- y in x, by the text's own __contains__ -/
def rInO (C : Addr) (sp : Sp) (E : XK) (neg : Bool) : R2 := fun y x H Q => ∃ a dx fs, x = .ref a ∧ H a = some (.ins C dx fs) ∧ sp [.ref a, y] H (fun v H' => ∃ b, v = .bl b ∧ Q (.bl (if neg then !b else b)) H') E
theorem op_inOwn (hr : Room n X.A) (F : FnOk X.prog X.w X.K X.mg X.base CX n f fd ps sp) (hs : PySem.W.findIn X.K (.ref C) "__contains__" = some (some (.ref f))) (hf : PySem.W.isFn X.K (.ref f) = true) (hb : Binds X.K fd ps []) (hx : Passes CX X E) :
    OpR X (compareOp .In) (rInO C sp E false) := by
  intro pins s σ H y x v u Q I ry rx hq
  obtain ⟨a, dx, fs, rfl, ha, q⟩ := hq
  cases rx
  obtain ⟨mA, J, _⟩ := ins_get I.hok ha
  obtain ⟨od, J, _⟩ := J.look
  obtain ⟨m, hF⟩ := I.fr
  refine PySem.W.in_K hF I.ok.mod.kin J hs hf ?_
  refine wpAny_mono (run_at ⟨hr, rfl⟩ I F hb hx (.cons (show RelV (V.ref a) (Value.ref a) from rfl) (.cons ry .nil)) q) (fun w s' h => ?_) fun _ _ z => z
  obtain ⟨z, H', I', rz, b, rfl, q2⟩ := h
  cases rz
  exact wpAny_truthy_bool ⟨.bl b, H', I', rfl, q2⟩
theorem op_notInOwn (hr : Room n X.A) (F : FnOk X.prog X.w X.K X.mg X.base CX n f fd ps sp) (hs : PySem.W.findIn X.K (.ref C) "__contains__" = some (some (.ref f))) (hf : PySem.W.isFn X.K (.ref f) = true) (hb : Binds X.K fd ps []) (hx : Passes CX X E) :
    OpR X (compareOp .NotIn) (rInO C sp E true) := by
  intro pins s σ H y x v u Q I ry rx hq
  obtain ⟨a, dx, fs, rfl, ha, q⟩ := hq
  cases rx
  obtain ⟨mA, J, _⟩ := ins_get I.hok ha
  obtain ⟨od, J, _⟩ := J.look
  obtain ⟨m, hF⟩ := I.fr
  refine PySem.W.notIn_K hF I.ok.mod.kin J hs hf ?_
  refine wpAny_mono (run_at ⟨hr, rfl⟩ I F hb hx (.cons (show RelV (V.ref a) (Value.ref a) from rfl) (.cons ry .nil)) q) (fun w s' h => ?_) fun _ _ z => z
  obtain ⟨z, H', I', rz, b, rfl, q2⟩ := h
  cases rz
  exact wpAny_truthy_bool ⟨.bl (!b), H', I', rfl, q2⟩
/-- x[y], by the text's own __getitem__ -/
def tItem (C : Addr) (sp : Sp) (E : XK) (ta tb : TE) : TE := fun σ H Q => ta σ H fun x H1 => tb σ H1 fun y H2 => ∃ a dx fs, x = .ref a ∧ H2 a = some (.ins C dx fs) ∧ sp [.ref a, y] H2 Q E
theorem pe_item {ea eb : Expr} {ta tb : TE} {pos : Pos} (hr : Room (n + 1) X.A) (F : FnOk X.prog X.w X.K X.mg X.base CX n f fd ps sp) (hs : PySem.W.findIn X.K (.ref C) "__getitem__" = some (some (.ref f))) (hf : PySem.W.isFn X.K (.ref f) = true) (hn : PySem.W.fnIn X.K f = true) (hb : Binds X.K fd ps []) (hx : Passes CX X E)
    (ha : PE X ea ta) (hy : PE X eb tb) (hsl : ∀ v u, subscripted eb true v u = runValue (.builtin "lifetime.subscript" ⟨[v, u], []⟩) := by intro _ _; with_unfolding_all rfl) : PE X (.Subscript ea eb pos) (tItem C sp E ta tb) := by
  refine ⟨fun pins s σ H Q I h => ?_⟩
  refine Subscript_ (binT (R := fun x y H => ∃ a dx fs, x = .ref a ∧ H a = some (.ins C dx fs) ∧ sp [.ref a, y] H Q E) ha hy I h fun v u s2 x y H2 I2 rx ry q => ?_)
  obtain ⟨a, dx, fs, rfl, hh, q⟩ := q
  cases rx
  obtain ⟨mA, J, _⟩ := ins_get I2.hok hh
  obtain ⟨od, J, _⟩ := J.look
  obtain ⟨m, hF⟩ := I2.fr
  refine PySem.W.sub_K hF I2.ok.mod.kin J hs hn hf ?_ (hsl _ _)
  refine wpAny_mono (run_at ⟨hr.in1, rfl⟩ I2 F hb hx (.cons (show RelV (V.ref a) (Value.ref a) from rfl) (.cons ry .nil)) q) (fun w s' h => ?_) fun _ _ z => z
  obtain ⟨z, H', I', rz, q2⟩ := h
  exact ⟨z, H', I', rz, q2⟩
/-- an object with an own == that is no text, in a tuple of texts -/
def rNoTxt (K : PySem.W.Frag) (C : Addr) (sp : Sp) (E : XK) : R2 := fun x y H Q => ∃ (a dx : Addr) (fs : List (Str × V)) (p : Addr) (zs : List Str), x = .ref a ∧ H a = some (.ins C dx fs) ∧ y = .ref p ∧ SqT K H p (zs.map V.str) ∧ (∀ z : Str, sp [.ref a, .str z] H (fun v H' => v = .bl false ∧ H' = H) E) ∧ Q (.bl false) H
theorem op_inNoTxt (hr : Room (n + 1) X.A) (F : FnOk X.prog X.w X.K X.mg X.base CX n f fd ps sp) (hs : PySem.W.findIn X.K (.ref C) "__eq__" = some (some (.ref f))) (hf : PySem.W.isFn X.K (.ref f) = true) (hsub : PySem.W.subIn X.K (.ref C) (.type "str") = some false) (hb : Binds X.K fd ps []) (hx : Passes CX X E) :
    OpR X (compareOp .In) (rNoTxt X.K C sp E) := by
  intro pins s σ H x y v u Q I rx ry hq
  obtain ⟨a, dx, fs, p, zs, rfl, ha, rfl, sq, hsp, q⟩ := hq
  cases rx
  cases ry
  obtain ⟨its, r, pl, hz⟩ := I.tuple sq
  obtain ⟨⟨cls, dd, data, sl⟩, ho, hc, m, hd⟩ := pl
  simp only at hc hd
  subst hc hd
  refine In_slot ⟨_, ho, rfl⟩ PySem.F.slot_tuple_contains (GQ.call_here PySem.F.slot_tuple_contains ⟨_, ho, rfl⟩ PySem.F.entry_tuple_contains (PySem.F.args_tuple_contains_2 _ _) ?_)
  refine tup_hasNot p its.toArray m dd sl (.ref a) (fun s' => Inv X pins σ H s') (fun y hy s' I' => ?_) (fun s' I' => wpAny_truthy_bool ⟨.bl false, H, I', rfl, q⟩) ho I
  obtain ⟨z, tk, rfl⟩ : ∃ z tk, y = Value.str z tk := by
    have hy' : y ∈ its := by simpa using hy
    clear hy
    generalize hzs : zs.map V.str = ws at r
    clear hz sq ho
    induction r generalizing zs with
    | nil => cases hy'
    | @cons w1 u1 ws us h1 h2 ih =>
      cases zs with
      | nil => cases hzs
      | cons z zs =>
        cases hzs
        rcases List.mem_cons.mp hy' with e | e
        · subst e
          obtain ⟨tk, e⟩ := (show ∃ tk, y = Value.str z tk from h1)
          exact ⟨z, tk, e⟩
        · exact ih zs e rfl
  obtain ⟨mA, J, _⟩ := ins_get I'.hok ha
  obtain ⟨od, J, _⟩ := J.look
  have hob := (show ObjOk X.prog X.w H s'.heap a (.ins C dx fs) from I'.hok a _ ha).2.2.2.1
  refine eq_str_own hr.in1.units0 I'.kIn J ?_ hsub hs hf ?_
  · rfl
  · refine wpAny_mono (run_at ⟨hr.in1, rfl⟩ I' F hb hx (.cons (show RelV (V.ref a) (Value.ref a) from rfl) (.cons (show RelV (V.str z) (Value.str z tk) from ⟨tk, rfl⟩) .nil)) (hsp z)) (fun w s'' h => ?_) fun _ _ e => ?_
    · obtain ⟨zz, H', I'', rz, rfl, rfl⟩ := h
      cases rz
      exact ⟨false, rfl, rfl, I''⟩
    · exact e
theorem dict_eq_declines_str (l : Addr) (es : Array DictEntry) (n : Nat) (dd : Option Addr) (sl : Array (Option Value)) (b : Str) (u : Tok) :
    Meets (Builtin.«dict.__eq__» ⟨[.ref l, .str b u], []⟩) (fun _ R s => s.heap.get? l = some { cls := .type "dict", dict := dd, data := .dict es n, slots := sl } ∧ R (.ok (.ret .notImplemented)) s) :=
  .of_wp fun prog w A R s h => by
    obtain ⟨hp, g, d, tk, os⟩ := s
    obtain ⟨hl, h⟩ := h
    have f1 := PySem.F.sub_str_dict
    wp_walk using wpAny_loadPart' hl, wpAny_load hl
    exact ⟨_, rfl, h⟩
theorem str_dict_at {A : Around} {s : Shared} {l : Addr} {es : Array DictEntry} {n : Nat} {dd : Option Addr} {sl : Array (Option Value)} (b : Str) (u : Tok) (ho : s.heap.get? l = some { cls := .type "dict", dict := dd, data := .dict es n, slots := sl }) (hu : A.units < cLine) : EqAt A s (.str b u) (.ref l) false := fun prog w E Q h => by
  unfold eqBool
  refine wpAny_holding ?_
  refine wpAny_ite_split (fun hab => absurd (eq_of_beq hab) nofun) (fun _ => ?_)
  exact wpAny_bind (rc_eq_decline_or (k := false) (typeIs_str s b u) ⟨_, ho, rfl⟩ (by decide) PySem.F.sub_dict_str PySem.F.slot_str_eq PySem.F.slot_dict_eq_refl
    (fun _ hq => call_meets PySem.F.slot_str_eq (typeIs_str s b u) PySem.F.entry_str_eq (PySem.F.args_str_eq_2 _ _) (str_eq_declinesD b u l (.type "dict") es n dd sl) ⟨ho, hq⟩)
    (fun _ hq => call_meets PySem.F.slot_dict_eq_refl ⟨_, ho, rfl⟩ PySem.F.entry_dict_eq (PySem.F.args_dict_eq_2 _ _) (dict_eq_declines_str l es n dd sl b u) ⟨ho, hq⟩)
    (fun _ hq => wpAny_of_eq (rfl : isSame (.str b u) (.ref l) = pure false) hq) (.inr hu) (wpAny_truthy_bool h))
/-- a dict, in a tuple of texts -/
def rNoTxtD (K : PySem.W.Frag) : R2 := fun x y H Q => ∃ (a : Addr) (kvs : List (Key × V)) (p : Addr) (zs : List Str), x = .ref a ∧ H a = some (.dK kvs) ∧ y = .ref p ∧ SqT K H p (zs.map V.str) ∧ Q (.bl false) H
theorem vals_txt : ∀ {zs : List Str} {its : List Value}, Vals (zs.map V.str) its → ∀ y ∈ its, ∃ z tk, y = Value.str z tk
  | [], _, .nil, y, hy => by cases hy
  | z :: zs, _, .cons h r, y, hy => by
    rcases List.mem_cons.mp hy with e | e
    · subst e
      obtain ⟨tk, e⟩ := (show ∃ tk, y = Value.str z tk from h)
      exact ⟨z, tk, e⟩
    · exact vals_txt r y e
theorem op_inNoTxtD (hu : X.A.units + 65 < cLine) : OpR X (compareOp .In) (rNoTxtD X.K) := by
  intro pins s σ H x y v u Q I rx ry hq
  obtain ⟨a, kvs, p, zs, rfl, ha, rfl, sq, q⟩ := hq
  cases rx
  cases ry
  obtain ⟨its, r, pl, hz⟩ := I.tuple sq
  have hob := (show ObjOk X.prog X.w H s.heap a (.dK kvs) from I.hok a _ ha)
  obtain ⟨-, -, vs, -, ob, es, ep, e1, e2, e3, -⟩ := hob
  obtain ⟨cls, dd, data, sl⟩ := ob
  have hc : cls = .type "dict" := e2.1
  simp only at e3
  subst hc e3
  refine SeqAt.in_tupleAt (fun _ => false) pl (fun y hy => ?_) ?_
  · obtain ⟨z, tk, rfl⟩ := vals_txt r y (by simpa using hy)
    exact str_dict_at z tk e1 (by show X.A.units + 1 < cLine; omega)
  · rw [show its.toArray.any (fun _ => false) = false by simp]
    exact ⟨.bl false, H, I, rfl, q⟩
end
end FS

set_option Elab.async false
set_option linter.all false
set_option maxRecDepth 100000
set_option maxHeartbeats 4000000
/-! what may be asked whether it is in a program -/
namespace FS
open PySem PySem.Spec PyProof.Rows L2
inductive OddV (K : PySem.W.Frag) (C : Addr) (H : Hp) (us : List RowU) : V → Bool → Prop
  | str (z : Str) : OddV K C H us (.str z) (decide (z ∈ us.map (·.1)))
  | dat {v : V} {d : PyData} (h : Dp K H v d) (sh : SeqAt.shaped d = true) (n : ∀ z : Str, PyData.eqv (.str z) d = false) : OddV K C H us v false
  | dct {a : Addr} {kvs : List (Key × V)} (h : H a = some (.dK kvs)) : OddV K C H us (.ref a) false
  | prc {a : Addr} {nm : Str} {own : List (Str × Bool)} {t : Tm} (h : PAt K C H a nm own t) : OddV K C H us (.ref a) false
def spPgHasV (K : PySem.W.Frag) (CP C : Addr) : Sp := fun vs H Q _ => ∃ (a : Addr) (v : V) (b : Bool) (m : Int) (us : List RowU), vs = [.ref a, v] ∧ PgAt K CP C H a m us ∧ OddV K C H us v b ∧ Q (.bl b) H
theorem PsAt.words {K : PySem.W.Frag} {C : Addr} {H : Hp} {xs : List V} {us : List RowU} (t : PsAt K C H xs us) : ∀ u ∈ us, wordB u.1 = true ∧ ParOk u.2.1 ∧ Good u.2.1 u.2.2 ∧ u.2.2.count ≤ 40 ∧ u.2.2.deep ≤ 6 ∧ u.2.2.isW = false := by
  induction t with
  | nil => intro u hu; cases hu
  | cons h _ ih =>
    intro u hu
    rcases List.mem_cons.mp hu with e | hu
    · subst e
      exact ⟨h.wd, h.po, h.good, h.few, h.low, h.nw⟩
    · exact ih u hu
theorem any_none_eq {ns : List Str} {d : PyData} (n : ∀ z : Str, PyData.eqv (.str z) d = false) : ((ns.map PyData.str).any fun z => PyData.eqv z d) = false := by
  induction ns with
  | nil => rfl
  | cons z r ih =>
    rw [List.map_cons, List.any_cons, n z, ih]
    rfl
structure PrN (K : PySem.W.Frag) (C : Addr) : Prop where
  ns : PySem.W.subIn K (.ref C) (.type "str") = some false
section
variable {P : Program} {w : World} {K : PySem.W.Frag} {mg : Str → Option Value} {base : Heap}
abbrev NProgram__contains__ : List Str := ["self", "value"]
theorem scProgram__contains__ : FnScope NProgram__contains__ ["self", "value"] (defScope sProgram__contains__) := ⟨rfl, rfl, rfl, by decide +kernel, rfl, by decide +kernel, by decide +kernel⟩
theorem ok_Program__contains__ {f : Addr} {fd : FuncData} (F : Fun K "__contains__" "Program.__contains__" sProgram__contains__ f fd) (T : Nm K mg) {CP C : Addr} (PC : PgC K mg CP) (G : PrG P w K mg base C) (GN : PrN K C) : FnOk P w K mg base CX0 3 f fd ["self", "value"] (spPgHasV K CP C) := by
  have nd := scProgram__contains__.nd
  refine F.ok scProgram__contains__ (fun vs H Q E h => ?_) (fun cdv A outer s H vs Q E hr h => ?_)
  · obtain ⟨a, v, b, m, us, rfl, pt, od, q⟩ := h
    rfl
  · obtain ⟨a, v, b, m, us, rfl, pt, od, q⟩ := h
    obtain ⟨dx, pv', dv, nv, wv, xs, kvs, ns, ws, h1, h2, h3, h4, h5, h6, h7, h8, -⟩ := pt
    obtain ⟨aw, zs, ez, sz, rz⟩ := Dp.tup_inv (show Dp K H (.ref nv) (.tuple (ns.map PyData.str)) from h7)
    cases ez
    have e := strs_inv ns rz
    subst e
    cases od with
    | str z =>
      refine ⟨_, (pss_one (ps_ret (pe_cmpR op_in_seq (pv 1) (pe_fld (pv 0) rfl) (by rfl)))), ?_⟩
      refine ⟨_, rfl, _, rfl, a, CP, dx, _, _, rfl, h1, PC.cl, PC.a4, gl4, nv, _, rfl, .inr sz, rfl, flat_strs _, ?_⟩
      rw [inV_strs, h8.dec]
      exact q
    | @dat v d hd sh n =>
      refine ⟨_, (pss_one (ps_ret (pe_cmpR (op_inT (u65 hr)) (pv 1) (pe_fld (pv 0) rfl) (by rfl)))), ?_⟩
      refine ⟨_, rfl, _, rfl, a, CP, dx, _, _, rfl, h1, PC.cl, PC.a4, gl4, d, ns.map PyData.str, hd, h7, sh, strs_shaped (fun z hz => ?_), ?_⟩
      · obtain ⟨u, hu, e⟩ := List.mem_map.mp (h8.miff.mp hz)
        rw [← e]
        exact (h3.words u hu).1
      · rw [any_none_eq n]
        exact q
    | @dct d kvs hd =>
      refine ⟨_, (pss_one (ps_ret (pe_cmpR (op_inNoTxtD (u65 hr)) (pv 1) (pe_fld (pv 0) rfl) (by rfl)))), ?_⟩
      exact ⟨_, rfl, _, rfl, a, CP, dx, _, _, rfl, h1, PC.cl, PC.a4, gl4, d, kvs, nv, ns, rfl, hd, rfl, sz, q⟩
    | @prc p nm own t hp =>
      obtain ⟨fe, fde, g1, g2, g3, g4⟩ := G.eq
      refine ⟨_, (pss_one (ps_ret (pe_cmpR (op_inNoTxt (n := 1) (hr.mono (by decide)) g1 g3 g4 GN.ns g2 pass0) (pv 1) (pe_fld (pv 0) rfl) (by rfl)))), ?_⟩
      obtain ⟨dx2, fs2, hi⟩ := hp.ins
      exact ⟨_, rfl, _, rfl, a, CP, dx, _, _, rfl, h1, PC.cl, PC.a4, gl4, p, dx2, fs2, nv, ns, rfl, hi, rfl, sz, fun z => ⟨p, .str z, nm, own, t, rfl, hp, .inl ⟨_, .base (.str z), G.n.ks, rfl, rfl⟩⟩, q⟩
end
end FS

set_option Elab.async false
set_option linter.all false
set_option maxRecDepth 100000
set_option maxHeartbeats 4000000
/-! all that a caller needs of the class Program -/
namespace FS
open PySem PySem.Spec PyProof.Rows L2 StX ClX
structure PgG (P : Program) (w : World) (K : PySem.W.Frag) (mg : Str → Option Value) (base : Heap) (CP C : Addr) : Prop where
  c : PgC K mg CP
  new : ∃ f, FnR P w K mg base CX0 10 f (spPgInit K CP C) ∧ Mk K CP f
  of_ : ∃ mc p g, CRead K CP mc ∧ CMet K CP mc "of" p g ∧ FnR P w K mg base CX0 12 g (spPgOf K CP C)
  len : ∃ f fd, FnOk P w K mg base CX0 1 f fd ["self"] (spPgLen K CP C) ∧ Binds K fd ["self"] [] ∧ PySem.W.findIn K (.ref CP) "__len__" = some (some (.ref f)) ∧ PySem.W.isFn K (.ref f) = true
  item : ∃ f fd, FnOk P w K mg base CX0 2 f fd ["self", "name"] (spPgItem K CP C) ∧ Binds K fd ["self", "name"] [] ∧ PySem.W.findIn K (.ref CP) "__getitem__" = some (some (.ref f)) ∧ PySem.W.isFn K (.ref f) = true ∧ PySem.W.fnIn K f = true
  has : ∃ f fd, FnOk P w K mg base CX0 3 f fd ["self", "value"] (spPgHasV K CP C) ∧ Binds K fd ["self", "value"] [] ∧ PySem.W.findIn K (.ref CP) "__contains__" = some (some (.ref f)) ∧ PySem.W.isFn K (.ref f) = true
  str : ∃ f fd, FnOk P w K mg base CX0 1 f fd ["self"] (spPgStr K CP C) ∧ Binds K fd ["self"] [] ∧ PySem.W.findIn K (.ref CP) "__str__" = some (some (.ref f)) ∧ PySem.W.isFn K (.ref f) = true
section
variable {X : Cx} {CP C : Addr} {e eb : Expr} {es : List Expr} {ta tb : TE} {t : TA} {x g : Str} {p pos apos : Pos}
/-- a procedure made within a comprehension -/
theorem pe_mkPK {P : Program} {w : World} {K : PySem.W.Frag} {mg : Str → Option Value} {base : Heap} (G : PrG P w K mg base C) (h1 : X.prog = P) (h2 : X.w = w) (h3 : X.K = K) (h4 : X.mg = mg) (h5 : X.base = base) (hr : Room 10 X.A) (hg : Gl X "Procedure") (ha : PA X (e :: es) t) (he : starEach (e :: es) X.env = (false, eval e X.env) :: starEach es X.env := by rfl) (hpl : (backTo pos (starEach es X.env)).any (·.1) = false := by rfl) :
    PE X (.Call (.Name "Procedure" p) (e :: es) [] pos) (tMake C (spInit K C) [] E0 t) := by
  subst h1 h2 h3 h4 h5
  exact pe_mkP G hr hg ha he hpl
end
theorem look_mem {l : List (Str × List (Str × Bool))} {x : Str} {o : List (Str × Bool)} (h : l.lookup x = some o) : (x, o) ∈ l := by
  induction l with
  | nil => cases h
  | cons p r ih =>
    obtain ⟨y, q⟩ := p
    simp only [List.lookup] at h
    by_cases e : x = y
    · have eb : (x == y) = true := by rw [e]; exact beq_self_eq_true y
      rw [eb] at h
      cases Option.some.inj h
      rw [e]
      exact List.mem_cons_self
    · have eb : (x == y) = false := by simpa using e
      rw [eb] at h
      exact List.mem_cons_of_mem _ (ih h)
theorem look_row {us : List RowU} (n : (us.map (·.1)).Nodup) {u : RowU} (h : u ∈ us) : (us.map fun u => (u.1, u.2.1)).lookup u.1 = some u.2.1 := by
  induction us with
  | nil => cases h
  | cons v r ih =>
    obtain ⟨n1, n2⟩ := List.nodup_cons.mp n
    rw [List.map_cons]
    simp only [List.lookup]
    rcases List.mem_cons.mp h with e | h
    · rw [e, show (v.1 == v.1) = true from beq_self_eq_true v.1]
    · have ne : u.1 ≠ v.1 := fun z => n1 (List.mem_map.mpr ⟨u, h, z⟩)
      rw [show (u.1 == v.1) = false by simpa using ne]
      exact ih n2 h
theorem RowsAt.get {K : PySem.W.Frag} {H : Hp} {m : Int} {tb : Tbl} {rs : List Addr} {us : List RowU} (x : RowsAt K H m tb rs us) : ∀ u ∈ us, ∃ r, RowAt K H m tb r u.1 u.2.1 u.2.2 := by
  induction x with
  | nil => intro u hu; cases hu
  | cons h _ ih =>
    intro u hu
    rcases List.mem_cons.mp hu with e | hu
    · rw [e]
      exact ⟨_, h⟩
    · exact ih u hu
theorem prog_ok {K : PySem.W.Frag} {H : Hp} {m : Int} {tb : Tbl} {rs : List Addr} {us : List RowU} (ok : PlainOk m tb us) (x : RowsAt K H m tb rs us) : ProgOk m tb us := by
  have nd : (us.map (·.1)).Nodup := ok.nms.nodup_iff.mpr ok.nd
  have row : ∀ y ∈ us.map (·.1), ∃ u ∈ us, u.1 = y ∧ tb.lookup y = some u.2.1 := fun y hy => by
    obtain ⟨u, hu, e⟩ := List.mem_map.mp hy
    obtain ⟨r, h⟩ := x.get u hu
    exact ⟨u, hu, e, by rw [← e]; exact h.lk⟩
  have lk : ∀ y o, tb.lookup y = some o → (us.map fun u => (u.1, u.2.1)).lookup y = some o := fun y o h => by
    have hy : y ∈ us.map (·.1) := ok.nms.mem_iff.mpr (List.mem_map.mpr ⟨(y, o), look_mem h, rfl⟩)
    obtain ⟨u, hu, e, h2⟩ := row y hy
    rw [h] at h2
    cases Option.some.inj h2
    rw [← e]
    exact look_row nd hu
  refine ⟨ok.m1, ok.m3, ok.few, nd, lk _ _ ok.main, fun e => ?_, lk, fun u hu => ?_⟩
  · unfold wrapsIn
    rw [List.any_eq_false]
    intro u hu
    obtain ⟨r, h⟩ := x.get u hu
    rw [Bool.not_eq_true, List.any_eq_false]
    intro q hq
    rw [ok.wr e _ (look_mem h.lk) q hq]
    exact Bool.false_ne_true
  · obtain ⟨r, h⟩ := x.get u hu
    obtain ⟨ov, bv, h1, h2, h3⟩ := h.ex
    exact h3.fits
/-- procedures whose parts are not at D -/
inductive PsAtD (K : PySem.W.Frag) (C : Addr) (H : Hp) (D : Addr) : List V → List RowU → Prop
  | nil : PsAtD K C H D [] []
  | cons {a : Addr} {u : RowU} {xs : List V} {us : List RowU} (h : PAtD K C H D a u.1 u.2.1 u.2.2) (k : PsAtD K C H D xs us) : PsAtD K C H D (.ref a :: xs) (u :: us)
theorem PsAtD.kp {K : PySem.W.Frag} {C : Addr} {H H' : Hp} {D : Addr} {xs : List V} {us : List RowU} (x : PsAtD K C H D xs us) (k0 : Kp D H H') (k : TK H H') : PsAtD K C H' D xs us := by
  induction x with
  | nil => exact .nil
  | cons h _ ih => exact .cons (h.kp k0 k) ih
theorem PsAtD.ps {K : PySem.W.Frag} {C : Addr} {H : Hp} {D : Addr} {xs : List V} {us : List RowU} (x : PsAtD K C H D xs us) : PsAt K C H xs us := by
  induction x with
  | nil => exact .nil
  | cons h _ ih => exact .cons h.pat ih
theorem PsAtD.app {K : PySem.W.Frag} {C : Addr} {H : Hp} {D : Addr} {xs : List V} {us : List RowU} (x : PsAtD K C H D xs us) {a : Addr} {u : RowU} (h : PAtD K C H D a u.1 u.2.1 u.2.2) : PsAtD K C H D (xs ++ [.ref a]) (us ++ [u]) := by
  induction x with
  | nil => exact .cons h .nil
  | cons k _ ih => exact .cons k ih
theorem RowsAt.at {K : PySem.W.Frag} {H : Hp} {m : Int} {tb : Tbl} {rs : List Addr} {us : List RowU} (x : RowsAt K H m tb rs us) {i : Nat} {v : V} (e : (rs.map V.ref)[i]? = some v) : ∃ r u, v = .ref r ∧ us[i]? = some u ∧ RowAt K H m tb r u.1 u.2.1 u.2.2 := by
  induction x generalizing i with
  | nil => cases e
  | @cons r u rs us h k ih =>
    cases i with
    | zero => cases e; exact ⟨r, u, rfl, rfl, h⟩
    | succ i => exact ih e
def spMade (K : PySem.W.Frag) (CP C : Addr) : Sp := fun vs H Q _ => ∃ (p rl : Addr) (m : Int) (rs : List Addr) (us : List RowU) (tb : Tbl), vs = [.ref p] ∧ H p = some (.lst [.int m, .ref rl]) ∧ H rl = some (.lst (rs.map V.ref)) ∧ RowsAt K H m tb rs us ∧ PlainOk m tb us ∧ ∀ H' a, Same H H' → H a = none → PgAt K CP C H' a m us → Q (.ref a) H'
end FS

set_option Elab.async false
set_option linter.all false
set_option maxRecDepth 100000
set_option maxHeartbeats 4000000
/-! rows, whatever they make -/
namespace FS
open PySem PySem.Spec PyProof.Rows L2
theorem sqL_sm {K : PySem.W.Frag} {H H' : Hp} {a : Addr} {xs : List V} (e : Same H H') (h : SqL K H a xs) : SqL K H' a xs := by
  rcases h with (h | ⟨o, h⟩) | h
  · exact .inl (.inl (e _ _ h))
  · exact .inl (.inr ⟨o, e _ _ h⟩)
  · exact .inr h
mutual
theorem dp_sm {K : PySem.W.Frag} {H H' : Hp} (e : Same H H') : ∀ {v : V} {d : PyData}, Dp K H v d → Dp K H' v d
  | _, _, .non => .non
  | _, _, .bl b => .bl b
  | _, _, .int i => .int i
  | _, _, .str x => .str x
  | _, _, .lst h r => .lst (sqL_sm e h) (dpAll_sm e r)
  | _, _, .tup h r => .tup (Same.sqT e h) (dpAll_sm e r)
theorem dpAll_sm {K : PySem.W.Frag} {H H' : Hp} (e : Same H H') : ∀ {vs : List V} {ds : List PyData}, DpAll K H vs ds → DpAll K H' vs ds
  | _, _, .nil => .nil
  | _, _, .cons h r => .cons (dp_sm e h) (dpAll_sm e r)
end
/-- a row of a right procedure -/
structure RowG (K : PySem.W.Frag) (H : Hp) (r : Addr) (u : RowU) : Prop where
  ex : ∃ ov bv, H r = some (.lst [.str u.1, ov, bv]) ∧ Dp K H ov (parsD u.2.1) ∧ Dp K H bv u.2.2.data
  po : ParOk u.2.1
  wd : wordB u.1 = true
  good : Good u.2.1 u.2.2
  nw : u.2.2.isW = false
  few : u.2.2.count ≤ 40
  low : u.2.2.deep ≤ 6
theorem RowG.same {K : PySem.W.Frag} {H H' : Hp} {r : Addr} {u : RowU} (x : RowG K H r u) (s : Same H H') : RowG K H' r u := by
  obtain ⟨⟨ov, bv, h1, h2, h3⟩, a, b, c, d, e, f⟩ := x
  exact ⟨⟨ov, bv, s _ _ h1, Dp.tk (.of s) (pars_noL _) h2, Dp.tk (.of s) (Tm.noL _) h3⟩, a, b, c, d, e, f⟩
inductive RowsG (K : PySem.W.Frag) (H : Hp) : List Addr → List RowU → Prop
  | nil : RowsG K H [] []
  | cons {r : Addr} {u : RowU} {rs : List Addr} {us : List RowU} (h : RowG K H r u) (k : RowsG K H rs us) : RowsG K H (r :: rs) (u :: us)
theorem RowsG.same {K : PySem.W.Frag} {H H' : Hp} {rs : List Addr} {us : List RowU} (x : RowsG K H rs us) (s : Same H H') : RowsG K H' rs us := by
  induction x with
  | nil => exact .nil
  | cons h _ ih => exact .cons (h.same s) ih
theorem RowsG.len {K : PySem.W.Frag} {H : Hp} {rs : List Addr} {us : List RowU} (x : RowsG K H rs us) : rs.length = us.length := by
  induction x with
  | nil => rfl
  | cons _ _ ih => rw [List.length_cons, List.length_cons, ih]
theorem RowsG.get {K : PySem.W.Frag} {H : Hp} {rs : List Addr} {us : List RowU} (x : RowsG K H rs us) {i : Nat} {v : V} (e : (rs.map V.ref)[i]? = some v) : ∃ r u, v = .ref r ∧ us[i]? = some u ∧ RowG K H r u := by
  induction x generalizing i with
  | nil => cases e
  | @cons r u rs us h k ih =>
    cases i with
    | zero => cases e; exact ⟨r, u, rfl, rfl, h⟩
    | succ i => exact ih e
/-- the law's dict from names to lists of kinds -/
inductive LV (H : Hp) : List (Key × V) → List RowU → Prop
  | nil : LV H [] []
  | cons {l : Addr} {u : RowU} {kvs : List (Key × V)} {us : List RowU} (h : H l = some (.lst ((u.2.1.map fun p => kd p.2).map V.str))) (r : LV H kvs us) : LV H ((Sum.inr u.1, .ref l) :: kvs) (u :: us)
theorem LV.same {H H' : Hp} (s : Same H H') {kvs : List (Key × V)} {us : List RowU} (t : LV H kvs us) : LV H' kvs us := by
  induction t with
  | nil => exact .nil
  | cons h _ ih => exact .cons (s _ _ h) ih
theorem LV.upd {H : Hp} {D : Addr} {o : HO} {kvs : List (Key × V)} {us : List RowU} (t : LV H kvs us) (n : ∀ kv ∈ kvs, kv.2 ≠ V.ref D) : LV (upd H D o) kvs us := by
  induction t with
  | nil => exact .nil
  | @cons l u kvs us h _ ih =>
    refine .cons ?_ (ih fun kv hk => n kv (List.mem_cons_of_mem _ hk))
    rw [upd_ne (fun z => n _ List.mem_cons_self (by rw [z]))]
    exact h
theorem LV.app {H : Hp} {kvs : List (Key × V)} {us : List RowU} (t : LV H kvs us) {l : Addr} {u : RowU} (h : H l = some (.lst ((u.2.1.map fun p => kd p.2).map V.str))) : LV H (kvs ++ [(Sum.inr u.1, .ref l)]) (us ++ [u]) := by
  induction t with
  | nil => exact .cons h .nil
  | cons h' _ ih => exact .cons h' ih
theorem LV.keys {H : Hp} {kvs : List (Key × V)} {us : List RowU} (t : LV H kvs us) : kvs.map (·.1) = (us.map (·.1)).map Sum.inr := by
  induction t with
  | nil => rfl
  | cons h r ih => rw [List.map_cons, ih]; rfl
theorem LV.len {H : Hp} {kvs : List (Key × V)} {us : List RowU} (t : LV H kvs us) : kvs.length = us.length := by
  induction t with
  | nil => rfl
  | cons _ _ ih => rw [List.length_cons, List.length_cons, ih]
theorem LV.get {H : Hp} {kvs : List (Key × V)} {us : List RowU} (t : LV H kvs us) {x : Str} {o : List (Str × Bool)} (h : (tbOf us).lookup x = some o) : ∃ l, valV kvs (Sum.inr x) = some (.ref l) ∧ H l = some (.lst ((o.map fun p => kd p.2).map V.str)) := by
  induction t with
  | nil => cases h
  | @cons l u kvs us hd r ih =>
    unfold tbOf at h
    rw [List.map_cons] at h
    simp only [List.lookup] at h
    by_cases e : u.1 = x
    · have eb : (x == u.1) = true := by rw [e]; exact beq_self_eq_true x
      rw [eb] at h
      cases Option.some.inj h
      exact ⟨l, valV_pos (by rw [e]), hd⟩
    · have eb : (x == u.1) = false := by simpa using fun z : x = u.1 => e z.symm
      rw [eb] at h
      obtain ⟨l2, h1, h2⟩ := ih h
      exact ⟨l2, by rw [valV_neg (fun z => e (Sum.inr.inj z))]; exact h1, h2⟩
theorem LV.getN {H : Hp} {kvs : List (Key × V)} {us : List RowU} (t : LV H kvs us) {x : Str} (h : (tbOf us).lookup x = none) : valV kvs (Sum.inr x) = none := by
  induction t with
  | nil => rfl
  | @cons l u kvs us hd r ih =>
    unfold tbOf at h
    rw [List.map_cons] at h
    simp only [List.lookup] at h
    by_cases e : u.1 = x
    · have eb : (x == u.1) = true := by rw [e]; exact beq_self_eq_true x
      rw [eb] at h
      cases h
    · have eb : (x == u.1) = false := by simpa using fun z : x = u.1 => e z.symm
      rw [eb] at h
      rw [valV_neg (fun z => e (Sum.inr.inj z))]
      exact ih h
def kindsL (bs : List Bool) : PyData := .list (bs.map fun b => .str (kd b))
theorem kindsL_eqv (as bs : List Bool) : PyData.eqv (kindsL as) (kindsL bs) = decide (as = bs) := kinds_eqvB as bs
theorem kindsL_shaped (bs : List Bool) : SeqAt.shaped (kindsL bs) = true := kinds_shaped bs
theorem dp_kindsL {K : PySem.W.Frag} {H : Hp} {l : Addr} {bs : List Bool} (h : SqL K H l (bs.map fun b => V.str (kd b))) : Dp K H (.ref l) (kindsL bs) := by
  refine .lst h ?_
  clear h
  induction bs with
  | nil => exact .nil
  | cons b r ih => exact .cons (.str _) ih
def lookL (us : List RowU) (x : Str) : PyData := match (tbOf us).lookup x with | none => .none | some o => kindsL (o.map (·.2))
theorem LV.look {K : PySem.W.Frag} {H : Hp} {kvs : List (Key × V)} {us : List RowU} (t : LV H kvs us) (x : Str) : ∃ g : Option V, valV kvs (Sum.inr x) = g ∧ Dp K H (g.getD .non) (lookL us x) := by
  unfold lookL
  cases e : (tbOf us).lookup x with
  | none => exact ⟨none, t.getN e, .non⟩
  | some o =>
    obtain ⟨l, h1, h2⟩ := t.get e
    refine ⟨some (.ref l), h1, dp_kindsL (.inl (.inl ?_))⟩
    rw [h2, List.map_map, List.map_map]
    rfl
theorem lookL_shaped (us : List RowU) (x : Str) : SeqAt.shaped (lookL us x) = true := by
  unfold lookL
  cases (tbOf us).lookup x with
  | none => decide
  | some o => exact kindsL_shaped _
theorem lookL_eqv (us : List RowU) (x : Str) (bs : List Bool) : PyData.eqv (lookL us x) (kindsL bs) = decide (((tbOf us).lookup x).map (fun o => o.map (·.2)) = some bs) := by
  unfold lookL
  cases (tbOf us).lookup x with
  | none => rfl
  | some o =>
    show PyData.eqv (kindsL _) (kindsL bs) = _
    rw [kindsL_eqv]
    simp
theorem are_long {us : List RowU} (h : ¬ us.length ≤ 8) : areB (some us) = false := by
  show (decide (us.length ≤ 8) && _ && _) = false
  rw [decide_eq_false h]
  rfl
theorem are_none {us : List RowU} (h : ¬ 1 ≤ us.length) : areB (some us) = false := by
  have : us = [] := List.eq_nil_of_length_eq_zero (by omega)
  subst this
  rfl
theorem are_twice {us : List RowU} (h : ¬ (us.map (·.1)).Nodup) : areB (some us) = false := by
  show (_ && decide ((us.map (·.1)).Nodup) && _) = false
  rw [decide_eq_false h, Bool.and_false]
  rfl
theorem are_main {us : List RowU} (h : ¬ (tbOf us).lookup ("main" : Str) = some []) : areB (some us) = false := by
  show (_ && _ && decide ((tbOf us).lookup ("main" : Str) = some [])) = false
  rw [decide_eq_false h, Bool.and_false]
theorem are_right {us : List RowU} (h1 : us.length ≤ 8) (h2 : (us.map (·.1)).Nodup) (h3 : (tbOf us).lookup ("main" : Str) = some []) : areB (some us) = true := by
  show (decide (us.length ≤ 8) && decide ((us.map (·.1)).Nodup) && decide ((tbOf us).lookup ("main" : Str) = some [])) = true
  rw [decide_eq_true h1, decide_eq_true h2, decide_eq_true h3]
  rfl
theorem lookL_main (us : List RowU) (x : Str) : PyData.eqv (lookL us x) (.list []) = decide ((tbOf us).lookup x = some []) := by
  rw [show PyData.list [] = kindsL [] from rfl, lookL_eqv]
  cases (tbOf us).lookup x with
  | none => rfl
  | some o => cases o <;> simp
/-- the pairs that the dict is made of -/
theorem LV.names {H : Hp} {kvs : List (Key × V)} {us : List RowU} (t : LV H kvs us) : ∀ {acc : List (Key × V)} {us0 : List RowU}, NamesIn acc us0 → NamesIn (mergeK acc kvs) (us0 ++ us) := by
  induction t with
  | nil =>
    intro acc us0 n
    rw [List.append_nil]
    exact n
  | @cons l u kvs us h r ih =>
    intro acc us0 n
    have := ih (n.put (u := u) (v := .ref l))
    rw [List.append_assoc] at this
    exact this
theorem LV.merged {H : Hp} {kvs : List (Key × V)} {us : List RowU} (t : LV H kvs us) : ∀ {acc : List (Key × V)} {us0 : List RowU}, LV H acc us0 → ((us0 ++ us).map (·.1)).Nodup → LV H (mergeK acc kvs) (us0 ++ us) := by
  induction t with
  | nil =>
    intro acc us0 n _
    rw [List.append_nil]
    exact n
  | @cons l u kvs us h r ih =>
    intro acc us0 n nd
    have e : us0 ++ u :: us = (us0 ++ [u]) ++ us := by rw [List.append_assoc]; rfl
    rw [e] at nd ⊢
    refine ih ?_ nd
    have fr : (Sum.inr u.1 : Key) ∉ acc.map (·.1) := fun z => by
      rw [n.keys] at z
      have z := inr_mem z
      rw [List.append_assoc, List.map_append] at nd
      exact (List.nodup_append.mp nd).2.2 _ z _ List.mem_cons_self rfl
    show LV H (putK acc (Sum.inr u.1) (.ref l)) _
    rw [putK_new fr]
    exact n.app h
def hasW (u : RowU) : Bool := u.2.1.any (·.2)
def rowD (u : RowU) : PyData := .list [.str u.1, parsD u.2.1, u.2.2.data]
theorem RowG.dp {K : PySem.W.Frag} {H : Hp} {r : Addr} {u : RowU} (x : RowG K H r u) : Dp K H (.ref r) (rowD u) := by
  obtain ⟨⟨ov, bv, h1, h2, h3⟩, -⟩ := x
  exact .lst (.inl (.inl h1)) (.cons (.str _) (.cons h2 (.cons h3 .nil)))
/-- a right row -/
structure RowR (u : RowU) : Prop where
  po : ParOk u.2.1
  wd : wordB u.1 = true
  good : Good u.2.1 u.2.2
  low : u.2.2.deep ≤ 6
theorem RowG.r {K : PySem.W.Frag} {H : Hp} {r : Addr} {u : RowU} (x : RowG K H r u) : RowR u := ⟨x.po, x.wd, x.good, x.low⟩
theorem RowsG.r {K : PySem.W.Frag} {H : Hp} {rs : List Addr} {us : List RowU} (x : RowsG K H rs us) : ∀ u ∈ us, RowR u := by
  induction x with
  | nil => intro u h; cases h
  | cons h _ ih =>
    intro u hu
    rcases List.mem_cons.mp hu with e | hu
    · rw [e]
      exact h.r
    · exact ih u hu
theorem rowD_lay {u : RowU} (r : RowR u) : (rowD u).canLay0 = true := by
  show (PyData.strOk u.1 && (PyData.canLay0 (parsD u.2.1) && (PyData.canLay0 u.2.2.data && true))) = true
  rw [(word_ok r.wd).1, lay_pars r.po, r.good.lay r.po.nms]
  rfl
theorem rowD_depth {u : RowU} (r : RowR u) : (rowD u).depth ≤ 30 := by
  show max 0 (max (parsD u.2.1).depth (max u.2.2.data.depth 0)) + 1 ≤ 30
  have h1 := pars_depth u.2.1
  have h2 := u.2.2.depth
  have h3 := r.low
  omega
theorem depths_le : ∀ ds : List PyData, (∀ d ∈ ds, d.depth ≤ 30) → PyData.depthAll ds ≤ 30
  | [], _ => Nat.zero_le _
  | d :: r, h => by
    show max d.depth (PyData.depthAll r) ≤ 30
    have h1 := h d List.mem_cons_self
    have h2 := depths_le r fun x hx => h x (List.mem_cons_of_mem _ hx)
    omega
theorem rowsD_shaped {l : List RowU} (h : ∀ u ∈ l, RowR u) : SeqAt.shaped (.list (l.map rowD)) = true := shaped_of (by
  show PyData.canLayAll0 (l.map rowD) = true
  exact lay_all _ fun d hd => by
    obtain ⟨u, hu, rfl⟩ := List.mem_map.mp hd
    exact rowD_lay (h u hu)) (by
  show PyData.depthAll (l.map rowD) + 1 ≤ 64
  have := depths_le (l.map rowD) fun d hd => by
    obtain ⟨u, hu, rfl⟩ := List.mem_map.mp hd
    exact rowD_depth (h u hu)
  omega)
theorem rowsD_none (l : List RowU) : PyData.eqv (.list (l.map rowD)) (.list []) = l.isEmpty := by cases l <;> rfl
theorem hasW_none (us : List RowU) : (us.filter hasW).isEmpty = !wrapsIn us := by
  induction us with
  | nil => rfl
  | cons u r ih =>
    rw [List.filter_cons]
    show _ = !(hasW u || wrapsIn r)
    cases h : hasW u with
    | true => rfl
    | false => exact ih
theorem look_rowG {us : List RowU} (n : (us.map (·.1)).Nodup) {u : RowU} (h : u ∈ us) : (tbOf us).lookup u.1 = some u.2.1 := by
  unfold tbOf
  induction us with
  | nil => cases h
  | cons v r ih =>
    obtain ⟨n1, n2⟩ := List.nodup_cons.mp n
    rw [List.map_cons]
    simp only [List.lookup]
    rcases List.mem_cons.mp h with e | h
    · rw [e, show (v.1 == v.1) = true from beq_self_eq_true v.1]
    · have ne : u.1 ≠ v.1 := fun z => n1 (List.mem_map.mpr ⟨u, h, z⟩)
      rw [show (u.1 == v.1) = false by simpa using ne]
      exact ih n2 h
theorem parts_bad {i : Int} {us : List RowU} {t : Tm} (h : t ∈ partsIn us) (f : fitT i us t = false) : partsFit i us = false := by
  refine Bool.eq_false_iff.mpr fun z => ?_
  have := List.all_eq_true.mp z t h
  rw [f] at this
  cases this
theorem parts_in {us : List RowU} {u : RowU} {t : Tm} (hu : u ∈ us) (ht : t ∈ u.2.2.all) : t ∈ partsIn us := List.mem_flatMap.mpr ⟨u, hu, ht⟩
/-- the entries that lie too far -/
def fars (i : Int) (l : List (Option Nat)) : List PyData := l.filterMap fun e => match e with | none => none | some n => if i ≤ (n : Int) then some (.int (n : Int)) else none
theorem fars_more (i : Int) {l : List (Option Nat)} {k : Nat} {e : Option Nat} (h : l[k]? = some e) : fars i (l.take (k + 1)) = fars i (l.take k) ++ (match e with | none => [] | some n => if i ≤ (n : Int) then [.int (n : Int)] else []) := by
  unfold fars
  rw [take_more h, List.filterMap_append]
  cases e with
  | none => rfl
  | some n =>
    by_cases z : i ≤ (n : Int) <;> simp [z]
theorem fars_ints (i : Int) : ∀ l : List (Option Nat), ∀ d ∈ fars i l, ∃ z, d = .int z := fun l d h => by
  obtain ⟨e, _, he⟩ := List.mem_filterMap.mp h
  cases e with
  | none => cases he
  | some n =>
    by_cases z : i ≤ (n : Int)
    · simp [z] at he
      exact ⟨_, he.symm⟩
    · simp [z] at he
theorem ints_shaped {l : List PyData} (h : ∀ d ∈ l, ∃ z, d = .int z) : SeqAt.shaped (.list l) = true := shaped_of (by
  show PyData.canLayAll0 l = true
  exact lay_all _ fun d hd => by
    obtain ⟨z, rfl⟩ := h d hd
    rfl) (by
  show PyData.depthAll l + 1 ≤ 64
  have := depths_le l fun d hd => by
    obtain ⟨z, rfl⟩ := h d hd
    exact Nat.zero_le _
  omega)
theorem eqv_none (l : List PyData) : PyData.eqv (.list l) (.list []) = l.isEmpty := by cases l <;> rfl
theorem fars_fit (i : Int) (l : List (Option Nat)) : (fars i l).isEmpty = l.all (fun e => match e with | none => true | some n => decide ((n : Int) < i)) := by
  induction l with
  | nil => rfl
  | cons e r ih =>
    cases e with
    | none => exact ih
    | some n =>
      show (fars i (some n :: r)).isEmpty = (decide ((n : Int) < i) && _)
      unfold fars
      by_cases z : i ≤ (n : Int)
      · rw [decide_eq_false (by omega)]
        simp [z]
      · rw [decide_eq_true (by omega), Bool.true_and]
        simp only [List.filterMap_cons, z, if_false]
        exact ih
theorem tag_isW (h : Hd) : inV (V.str h.tag) [V.str "own", V.str "with"] = h.isW := by
  cases h <;> (simp only [Hd.tag, Hd.isW]; decide +kernel)
theorem tag_calls (i : Int) (us : List RowU) (h : Hd) (ks : List Tm) (e0 : ¬ decide (h.num = 0) = true) : (∃ n, h = .call n) ∨ (∃ n, h = .wth n) ∨ (inV (V.str h.tag) [V.str "call", V.str "with"] = false ∧ fitT i us (.mk h ks) = true) := by
  cases h with
  | deed w t => exact absurd (by rfl) e0
  | call n => exact .inl ⟨n, rfl⟩
  | wth n => exact .inr (.inl ⟨n, rfl⟩)
  | seq => exact .inr (.inr ⟨(by simp only [Hd.tag]; decide +kernel), rfl⟩)
  | alt => exact .inr (.inr ⟨(by simp only [Hd.tag]; decide +kernel), rfl⟩)
  | run x => exact .inr (.inr ⟨(by simp only [Hd.tag]; decide +kernel), rfl⟩)
  | wrp => exact .inr (.inr ⟨(by simp only [Hd.tag]; decide +kernel), rfl⟩)
  | own x => exact .inr (.inr ⟨(by simp only [Hd.tag]; decide +kernel), rfl⟩)
theorem cut_kids {K : PySem.W.Frag} {H : Hp} {a : Addr} {tag n : Str} {kv : List V} {Q : VK} (sq : SqT K H a (V.str tag :: ([V.str n] ++ kv))) (q : ∀ H2 p, Same H H2 → SqT K H2 p kv → Q (.ref p) H2) : rSlA K (.ref a) (some ((2 : Nat) : Int)) none H Q := by
  refine ⟨a, _, rfl, sq, fun z => absurd z.1 (cut_ne (k := 2) (by decide) (List.cons_ne_nil _ _)), fun _ p2 np2 => ?_⟩
  refine q _ _ (same_upd np2) (.inl (.inl ?_))
  rw [upd_same]
  show some (HO.tup (cutV (V.str tag :: ([V.str n] ++ kv)) (some ((2 : Nat) : Int)) none)) = some (HO.tup kv)
  rw [cut_from]
  rfl
def moreB (w0 : Bool) : List Bool := if w0 = true then [false] else []
theorem call_ex (i : Int) (us : List RowU) (n : Str) (ks : List Tm) : ∃ w0 : Bool, decide (V.str (Hd.call n).tag = V.str "with") = w0 ∧ fitT i us (.mk (.call n) ks) = decide (((tbOf us).lookup n).map (fun o => o.map (·.2)) = some (ks.map Tm.isW ++ moreB w0)) :=
  ⟨false, (show decide (V.str "call" = V.str "with") = false by decide +kernel), by
    rw [show moreB false = [] from rfl, List.append_nil]
    rfl⟩
theorem wth_ex (i : Int) (us : List RowU) (n : Str) (ks : List Tm) : ∃ w0 : Bool, decide (V.str (Hd.wth n).tag = V.str "with") = w0 ∧ fitT i us (.mk (.wth n) ks) = decide (((tbOf us).lookup n).map (fun o => o.map (·.2)) = some (ks.map Tm.isW ++ moreB w0)) :=
  ⟨true, (show decide (V.str "with" = V.str "with") = true by decide +kernel), rfl⟩
def spIsProg (K : PySem.W.Frag) : Sp := fun vs H Q _ => ∃ (v : V) (m : Option Int) (rl : Addr) (rs : List Addr) (us : List RowU), vs = [v, .ref rl] ∧ ModV v m ∧ SqL K H rl (rs.map V.ref) ∧ RowsG K H rs us ∧ us.length ≤ 30 ∧ ∀ H', Same H H' → Q (.bl (canB m (some us))) H'
end FS

set_option Elab.async false
set_option linter.all false
set_option maxRecDepth 100000
set_option maxHeartbeats 4000000
/-! a list turned round -/
namespace FS
open PySem PySem.Spec PyProof.Rows L2
theorem vals_rev {xs : List V} {its : List Value} (r : Vals xs its) : Vals xs.reverse its.reverse := by
  induction r with
  | nil => exact .nil
  | cons h _ ih =>
    rw [List.reverse_cons, List.reverse_cons]
    exact Paired.snoc ih h
section
variable {X : Cx} {e k : Expr} {te tk : TE} {p2 pos : Pos}
def tRev (K : PySem.W.Frag) (te : TE) : TE := fun σ H Q => te σ H fun x H1 => ∃ a xs, x = .ref a ∧ SqL K H1 a xs ∧ ∀ p, H1 p = none → Q (.ref p) (upd H1 p (.lst xs.reverse))
theorem pe_rev (he : PE X e te) (hk : ∀ σ H (Q : VK), Q (.int (-1)) H → tk σ H Q) (hs : PE X k tk) : PE X (.Subscript e (.Slice none none (some k) p2) pos) (tRev X.K te) := by
  refine ⟨fun pins s σ H Q I h => ?_⟩
  refine Subscript_ (thn (he.run pins s σ H _ I h) fun v s1 ⟨x, H1, I1, r1, a, xs, ex, hx, q⟩ => ?_)
  subst ex
  cases r1
  refine wpAny_Slice (thn ((po_none (X := X)).run pins s1 σ H1 (fun l H2 => l = none ∧ H2 = H1) I1 ⟨rfl, rfl⟩) fun vl s2 ⟨l, H2, I2, pl, z2⟩ => ?_)
  obtain ⟨rfl, rfl⟩ := z2
  refine thn ((po_none (X := X)).run pins s2 σ H2 (fun l H3 => l = none ∧ H3 = H2) I2 ⟨rfl, rfl⟩) fun vu s3 ⟨u, H3, I3, pu, z3⟩ => ?_
  obtain ⟨rfl, rfl⟩ := z3
  refine thn ((po_some hs).run pins s3 σ H3 (fun l H4 => l = some (-1) ∧ H4 = H3) I3 (hk _ _ _ ⟨_, rfl, rfl, rfl⟩)) fun vs s4 ⟨st, H4, I4, ps, z4⟩ => ?_
  obtain ⟨rfl, rfl⟩ := z4
  let s5 : Shared := { s4 with heap := s4.heap.push { cls := .type "slice", data := .fields #[vl, vu, vs] } }
  have I5 : Inv X pins σ H4 s5 := I4.kept (t' := s4.toks) fun b ob q => Heap.get?_push_of_some _ q
  obtain ⟨its, r, ht, hz⟩ := I5.list hx
  have got : wpAny (model X.prog X.w) X.A (getItem (.ref a) (.ref s4.heap.objs.size)) (EP X pins σ Q) X.xe s5 := by
    refine wpAny_getItem_list_slice ht.isList (Heap.IsSliceOf.new s4.heap vl vu vs) pl pu ps (by decide) ?_ (by rw [List.size_toArray, ← r.length]; exact hz)
    rw [PySem.W.krv_pick]
    refine ⟨.ref s5.heap.objs.size, _, I5.laid (t' := s5.toks) (o := .lst xs.reverse) (fun b ob q => Heap.get?_push_of_some _ q) (Nat.le_refl _) ?_, rfl, q _ (I5.hok.fresh (Nat.le_refl _))⟩
    exact ⟨by rw [List.length_reverse]; exact hz, _, 0, vals_rev r, Heap.get?_push_size _ rfl⟩
  exact tail_any (s := s5) (ops := [.ref a, .ref s4.heap.objs.size]) ht.isList.typeIs PySem.F.slot_list_getitem.lookup got rfl
end
end FS

set_option Elab.async false
set_option linter.all false
set_option maxRecDepth 100000
set_option maxHeartbeats 4000000
/-! what lies near a program -/
namespace FS
open PySem PySem.Spec PyProof.Rows L2
theorem op_notInK {X : Cx} {K : PySem.W.Frag} (h : X.K = K) : OpR X (compareOp .NotIn) (rIn K true) := by
  subst h
  exact op_notIn_seq
theorem RowG.go {K : PySem.W.Frag} {H H' : Hp} {D r : Addr} {u : RowU} (d : Die H D) (g : Go D H H') (x : RowG K H r u) : RowG K H' r u := by
  obtain ⟨⟨ov, bv, h1, h2, h3⟩, a, b, c, e, f, l⟩ := x
  have k := g.tk d
  refine ⟨⟨ov, bv, g.1 _ _ (fun z => ?_) h1, Dp.tk k (pars_noL _) h2, Dp.tk k (Tm.noL _) h3⟩, a, b, c, e, f, l⟩
  subst z
  obtain ⟨p, q, t, w⟩ := d
  rw [w] at h1
  cases Option.some.inj h1
theorem RowsG.go {K : PySem.W.Frag} {H H' : Hp} {D : Addr} {rs : List Addr} {us : List RowU} (d : Die H D) (g : Go D H H') (x : RowsG K H rs us) : RowsG K H' rs us := by
  induction x with
  | nil => exact .nil
  | cons h _ ih => exact .cons (h.go d g) ih
theorem RowAt.g {K : PySem.W.Frag} {H : Hp} {m : Int} {tb : Tbl} {r : Addr} {nm : Str} {own : List (Str × Bool)} {t : Tm} (x : RowAt K H m tb r nm own t) : RowG K H r (nm, own, t) := by
  obtain ⟨⟨ov, bv, h1, h2, h3⟩, po, wd, lk⟩ := x
  exact ⟨⟨ov, bv, h1, h2, h3.dp⟩, po, wd, h3.good, h3.kind, h3.few, Nat.le_trans h3.deep (by decide)⟩
theorem RowsAt.g {K : PySem.W.Frag} {H : Hp} {m : Int} {tb : Tbl} {rs : List Addr} {us : List RowU} (x : RowsAt K H m tb rs us) : RowsG K H rs us := by
  induction x with
  | nil => exact .nil
  | cons h _ ih => exact .cons h.g ih
/-- a list of rows, none of them the die -/
structure RL (K : PySem.W.Frag) (D : Addr) (H : Hp) (l : Addr) (rs : List Addr) (us : List RowU) : Prop where
  at_ : H l = some (.lst (rs.map V.ref))
  ne : l ≠ D
  rows : RowsG K H rs us
theorem RL.go {K : PySem.W.Frag} {H H' : Hp} {D l : Addr} {rs : List Addr} {us : List RowU} (d : Die H D) (g : Go D H H') (x : RL K D H l rs us) : RL K D H' l rs us := ⟨g.1 _ _ x.ne x.at_, x.ne, x.rows.go d g⟩
theorem RL.same {K : PySem.W.Frag} {H H' : Hp} {D l : Addr} {rs : List Addr} {us : List RowU} (s : Same H H') (x : RL K D H l rs us) : RL K D H' l rs us := ⟨s _ _ x.at_, x.ne, x.rows.same s⟩
theorem Good.more {own : List (Str × Bool)} {t : Tm} (g : Good own t) (p : Str × Bool) : Good (own ++ [p]) t := by
  induction g with
  | @mk h ks ok kk kids ih =>
    refine .mk ?_ kk ih
    have sub : ∀ q : Str × Bool, decide (q ∈ own) = true → decide (q ∈ own ++ [p]) = true := fun q hq => decide_eq_true (List.mem_append.mpr (.inl (of_decide_eq_true hq)))
    cases h with
    | run x =>
      obtain ⟨a, b⟩ := Bool.and_eq_true_iff.mp ok
      exact Bool.and_eq_true_iff.mpr ⟨sub _ a, b⟩
    | own x =>
      obtain ⟨a, b⟩ := Bool.and_eq_true_iff.mp ok
      exact Bool.and_eq_true_iff.mpr ⟨sub _ a, b⟩
    | deed w t => exact ok
    | seq => exact ok
    | alt => exact ok
    | call n => exact ok
    | wrp => exact ok
    | wth n => exact ok
theorem ParOk.more {own : List (Str × Bool)} (po : ParOk own) {p : Str × Bool} (l : own.length < 3) (w : wordB p.1 = true) (n : p.1 ∉ own.map (·.1)) : ParOk (own ++ [p]) := by
  refine ⟨by rw [List.length_append]; show _ + 1 ≤ 3; omega, fun q hq => ?_, ?_⟩
  · rcases List.mem_append.mp hq with z | z
    · exact po.nms q z
    · rw [List.mem_singleton.mp z]
      exact w
  · rw [List.map_append]
    exact List.nodup_append.mpr ⟨po.nd, List.nodup_cons.mpr ⟨List.not_mem_nil, .nil⟩, fun a ha b hb z => n (by rw [List.mem_singleton.mp hb] at z; exact (show a = p.1 from z) ▸ ha)⟩
theorem RowsG.app {K : PySem.W.Frag} {H : Hp} {rs qs : List Addr} {us vs : List RowU} (x : RowsG K H rs us) (y : RowsG K H qs vs) : RowsG K H (rs ++ qs) (us ++ vs) := by
  induction x with
  | nil => exact y
  | cons h _ ih => exact .cons h ih
theorem RowsG.take {K : PySem.W.Frag} {H : Hp} {rs : List Addr} {us : List RowU} (x : RowsG K H rs us) : ∀ k, RowsG K H (rs.take k) (us.take k) := by
  induction x with
  | nil => intro k; rw [List.take_nil, List.take_nil]; exact .nil
  | cons h _ ih =>
    intro k
    cases k with
    | zero => exact .nil
    | succ k => exact .cons h (ih k)
theorem RowsG.drop {K : PySem.W.Frag} {H : Hp} {rs : List Addr} {us : List RowU} (x : RowsG K H rs us) : ∀ k, RowsG K H (rs.drop k) (us.drop k) := by
  induction x with
  | nil => intro k; rw [List.drop_nil, List.drop_nil]; exact .nil
  | cons h t ih =>
    intro k
    cases k with
    | zero => exact .cons h t
    | succ k => exact ih k
theorem RowsG.rev {K : PySem.W.Frag} {H : Hp} {rs : List Addr} {us : List RowU} (x : RowsG K H rs us) : RowsG K H rs.reverse us.reverse := by
  induction x with
  | nil => exact .nil
  | cons h _ ih =>
    rw [List.reverse_cons, List.reverse_cons]
    exact ih.app (.cons h .nil)
theorem cut_to (xs : List V) (k : Nat) : cutV xs none (some (k : Int)) = xs.take k := by
  unfold cutV
  rw [HT.sIx_nat, HT.sIx_none]
  by_cases h : k ≤ xs.length
  · rw [Nat.min_eq_left h]
    simp
  · have h2 : xs.length ≤ k := by omega
    rw [Nat.min_eq_right h2, List.take_of_length_le h2]
    simp
section
variable {K : PySem.W.Frag} {H : Hp} {D l l2 p : Addr} {rs qs : List Addr} {us vs : List RowU}
theorem RL.mk_ (d : Die H D) (n : H p = none) (r : RowsG K H rs us) : RL K D (upd H p (.lst (rs.map V.ref))) p rs us := ⟨upd_same, d.ne n, r.same (same_upd n)⟩
theorem RL.cat (x : RL K D H l rs us) (y : RL K D H l2 qs vs) (d : Die H D) (n : H p = none) : RL K D (upd H p (.lst (rs.map V.ref ++ qs.map V.ref))) p (rs ++ qs) (us ++ vs) := by
  rw [← List.map_append]
  exact RL.mk_ d n (x.rows.app y.rows)
theorem RL.one {r : Addr} {u : RowU} (g : RowG K H r u) (d : Die H D) (n : H p = none) : RL K D (upd H p (.lst [V.ref r])) p [r] [u] := RL.mk_ (rs := [r]) d n (.cons g .nil)
theorem RL.cutL (x : RL K D H l rs us) (d : Die H D) (n : H p = none) (k : Nat) : RL K D (upd H p (.lst (cutV (rs.map V.ref) none (some (k : Int))))) p (rs.take k) (us.take k) := by
  rw [cut_to, ← List.map_take]
  exact RL.mk_ d n (x.rows.take k)
theorem RL.cutR (x : RL K D H l rs us) (d : Die H D) (n : H p = none) (k : Nat) : RL K D (upd H p (.lst (cutV (rs.map V.ref) (some (k : Int)) none))) p (rs.drop k) (us.drop k) := by
  rw [cut_from, ← List.map_drop]
  exact RL.mk_ d n (x.rows.drop k)
theorem RL.rev (x : RL K D H l rs us) (d : Die H D) (n : H p = none) : RL K D (upd H p (.lst (rs.map V.ref).reverse)) p rs.reverse us.reverse := by
  rw [← List.map_reverse]
  exact RL.mk_ d n x.rows.rev
end
/-- one of the lists of rows -/
def Cand (K : PySem.W.Frag) (D : Addr) (H : Hp) (v : V) : Prop := ∃ l rs us, v = .ref l ∧ RL K D H l rs us ∧ us.length ≤ 20
theorem Cand.same {K : PySem.W.Frag} {D : Addr} {H H' : Hp} {v : V} (c : Cand K D H v) (s : Same H H') : Cand K D H' v := by
  obtain ⟨l, rs, us, e, r, n⟩ := c
  exact ⟨l, rs, us, e, r.same s, n⟩
theorem Cand.go {K : PySem.W.Frag} {D : Addr} {H H' : Hp} {v : V} (c : Cand K D H v) (d : Die H D) (g : Go D H H') : Cand K D H' v := by
  obtain ⟨l, rs, us, e, r, n⟩ := c
  exact ⟨l, rs, us, e, r.go d g, n⟩
/-- what lies behind an assignment is walked once, however its value comes about -/
theorem seq_leaf {a : TE} {i : Nat} {r : TS} {D : Ends} {σ : L2.St} {H : Hp} {P : V → Hp → Prop} (h : ∀ Q : VK, (∀ v HX, P v HX → Q v HX) → a σ H Q) (k : ∀ v HX, P v HX → r D (σ.set i (some v)) HX) : tSeq (tAsg a (gName i)) r D σ H := h _ fun v HX p => k v HX p
/-- as seq_leaf, the slots written anew -/
theorem seq_leafE {a : TE} {i : Nat} {r : TS} {D : Ends} {σ : L2.St} {σ' : V → L2.St} {H : Hp} {P : V → Hp → Prop} (e : ∀ v, σ.set i (some v) = σ' v) (h : ∀ Q : VK, (∀ v HX, P v HX → Q v HX) → a σ H Q) (k : ∀ v HX, P v HX → r D (σ' v) HX) : tSeq (tAsg a (gName i)) r D σ H := h _ fun v HX p => show r D (σ.set i (some v)) HX from (e v).symm ▸ k v HX p
def spNear (K : PySem.W.Frag) : Sp := fun vs H Q _ => ∃ (D pl rl : Addr) (m : Int) (rs : List Addr) (us : List RowU), vs = [.ref D, .ref pl] ∧ Die H D ∧ H pl = some (.lst [.int m, .ref rl]) ∧ pl ≠ D ∧ RL K D H rl rs us ∧ 1 ≤ us.length ∧ us.length ≤ 8 ∧
  ∀ H' q v mo l rs' us', Go D H H' → H' q = some (.lst [v, .ref l]) → q ≠ D → ModV v mo → RL K D H' l rs' us' → us'.length ≤ 20 → Q (.ref q) H'
end FS

set_option Elab.async false
set_option linter.all false
set_option maxRecDepth 100000
set_option maxHeartbeats 4000000
/-! what stays where lambdas are made: all but tables of code objects -/
namespace FS
open PySem PySem.Spec PyProof.Rows L2 LamX
def GoN (D : Addr) (H H' : Hp) : Prop := (∀ b o, b ≠ D → H b = some o → (∀ ps, o ≠ .tbl ps) → H' b = some o) ∧ Die H' D
theorem GoN.of {D : Addr} {H H' : Hp} (g : Go D H H') : GoN D H H' := ⟨fun b o n e _ => g.1 b o n e, g.2⟩
theorem GoN.trans {D : Addr} {H H1 H2 : Hp} (x : GoN D H H1) (y : GoN D H1 H2) : GoN D H H2 := ⟨fun b o n e t => y.1 b o n (x.1 b o n e t) t, y.2⟩
theorem GoN.same {D : Addr} {H H1 H2 : Hp} (x : GoN D H H1) (y : Same H1 H2) : GoN D H H2 := x.trans (.of (.of x.2 y))
theorem GoN.refl {D : Addr} {H : Hp} (d : Die H D) : GoN D H H := .of (.refl d)
theorem GoN.ext {D : Addr} {H H' : Hp} (d : Die H D) (e : ExtN H H') : GoN D H H' := ⟨fun b o _ h n => e b o h n, by
  obtain ⟨x, y, z, h⟩ := d
  exact ⟨x, y, z, e _ _ h (fun ps z => nomatch z)⟩⟩
theorem GoN.tk {D : Addr} {H H' : Hp} (d : Die H D) (g : GoN D H H') : TK H H' := fun b o t h => g.1 b o (fun z => by
  subst z
  obtain ⟨x, y, w, q⟩ := d
  rw [q] at h
  cases Option.some.inj h
  cases t) h (fun ps z => by
  subst z
  cases t)
theorem RowG.goN {K : PySem.W.Frag} {H H' : Hp} {D r : Addr} {u : RowU} (d : Die H D) (g : GoN D H H') (x : RowG K H r u) : RowG K H' r u := by
  obtain ⟨⟨ov, bv, h1, h2, h3⟩, a, b, c, e, f, l⟩ := x
  have k := g.tk d
  refine ⟨⟨ov, bv, g.1 _ _ (fun z => ?_) h1 (fun ps z => nomatch z), Dp.tk k (pars_noL _) h2, Dp.tk k (Tm.noL _) h3⟩, a, b, c, e, f, l⟩
  subst z
  obtain ⟨p, q, t, w⟩ := d
  rw [w] at h1
  cases Option.some.inj h1
theorem RowsG.goN {K : PySem.W.Frag} {H H' : Hp} {D : Addr} {rs : List Addr} {us : List RowU} (d : Die H D) (g : GoN D H H') (x : RowsG K H rs us) : RowsG K H' rs us := by
  induction x with
  | nil => exact .nil
  | cons h _ ih => exact .cons (h.goN d g) ih
theorem RL.goN {K : PySem.W.Frag} {H H' : Hp} {D l : Addr} {rs : List Addr} {us : List RowU} (d : Die H D) (g : GoN D H H') (x : RL K D H l rs us) : RL K D H' l rs us := ⟨g.1 _ _ x.ne x.at_ (fun ps z => nomatch z), x.ne, x.rows.goN d g⟩
theorem PAt.goN {K : PySem.W.Frag} {C : Addr} {H H' : Hp} {D a : Addr} {nm : Str} {own : List (Str × Bool)} {t : Tm} (d : Die H D) (g : GoN D H H') (p : PAt K C H a nm own t) : PAt K C H' a nm own t := by
  obtain ⟨⟨dx, pv, bv, pa, ka, wa, ua, xs, ws, us, h1, h2, h3, h4, h5, h6, h7, h8, h9, h10⟩, b, c, dd, e, f, gg⟩ := p
  have k := g.tk d
  obtain ⟨x, y, w', q⟩ := d
  have n1 : a ≠ D := fun z => by
    rw [z, q] at h1
    cases h1
  have n2 : pa ≠ D := fun z => by
    rw [z, q] at h4
    have e4 := HO.lst.inj (Option.some.inj h4)
    rw [all_eq] at h5
    cases h5 with
    | cons hd tl =>
      have e5 := (List.cons.inj e4).1
      obtain ⟨hh, kk⟩ := t
      obtain ⟨aa, _, _, ee, _⟩ := tm_open hd
      rw [ee] at e5
      cases e5
  exact ⟨⟨dx, pv, bv, pa, ka, wa, ua, xs, ws, us, g.1 _ _ n1 h1 (fun ps z => nomatch z), Dp.tk k (pars_noL own) h2, Dp.tk k t.noL h3, g.1 _ _ n2 h4 (fun ps z => nomatch z), DpAll.tk k (noL_datas _) h5, Dp.tk k (kindD_noL _) h6, Dp.tk k (strs_noL _) h7, Dp.tk k (strs_noL _) h8, h9, h10⟩, b, c, dd, e, f, gg⟩
theorem PsAt.goN {K : PySem.W.Frag} {C : Addr} {H H' : Hp} {D : Addr} {xs : List V} {us : List RowU} (d : Die H D) (g : GoN D H H') (x : PsAt K C H xs us) : PsAt K C H' xs us := by
  induction x with
  | nil => exact .nil
  | cons h _ ih => exact .cons (h.goN d g) ih
theorem PgX.same {K : PySem.W.Frag} {CP C : Addr} {H H' : Hp} {a : Addr} {m : Int} {us : List RowU} {xs : List V} (p : PgX K CP C H a m us xs) (s : Same H H') : PgX K CP C H' a m us xs := by
  obtain ⟨dx, pv, dv, nv, wv, kvs, ns, ws, h1, h2, h3, h4, h5, h6, h7, h8, h9, h10, h11, h12⟩ := p
  have k := TK.of s
  exact ⟨dx, pv, dv, nv, wv, kvs, ns, ws, s _ _ h1, Same.sqT s h2, h3.same s, h4, s _ _ h5, h6, Dp.tk k (strs_noL _) h7, h8, Dp.tk k (strs_noL _) h9, h10, h11, h12⟩
theorem PgX.goN {K : PySem.W.Frag} {CP C : Addr} {H H' : Hp} {D a : Addr} {m : Int} {us : List RowU} {xs : List V} (d : Die H D) (g : GoN D H H') (p : PgX K CP C H a m us xs) : PgX K CP C H' a m us xs := by
  obtain ⟨dx, pv, dv, nv, wv, kvs, ns, ws, h1, h2, h3, h4, h5, h6, h7, h8, h9, h10, h11, h12⟩ := p
  have k := g.tk d
  have n1 : a ≠ D := fun z => by
    obtain ⟨x, y, w', q⟩ := d
    rw [z, q] at h1
    cases h1
  have n2 : dv ≠ D := fun z => by
    obtain ⟨x, y, w', q⟩ := d
    rw [z, q] at h5
    cases h5
  exact ⟨dx, pv, dv, nv, wv, kvs, ns, ws, g.1 _ _ n1 h1 (fun ps z => nomatch z), k.sqT h2, h3.goN d g, h4, g.1 _ _ n2 h5 (fun ps z => nomatch z), h6, Dp.tk k (strs_noL _) h7, h8, Dp.tk k (strs_noL _) h9, h10, h11, h12⟩
theorem PgX.ins {K : PySem.W.Frag} {CP C : Addr} {H : Hp} {a : Addr} {m : Int} {us : List RowU} {xs : List V} (p : PgX K CP C H a m us xs) : ∃ dx fs, H a = some (.ins CP dx fs) := by
  obtain ⟨dx, pv, dv, nv, wv, kvs, ns, ws, h1, _⟩ := p
  exact ⟨_, _, h1⟩
theorem Tabs.same {T : List (Addr × Str)} {H H' : Hp} (t : Tabs T H) (s : Same H H') : Tabs T H' := t.ext s
theorem Tabs.go {T : List (Addr × Str)} {H H' : Hp} {D : Addr} (d : Die H D) (g : Go D H H') (t : Tabs T H) : Tabs T H' := fun p hp => by
  obtain ⟨ps, h1, h2, h3⟩ := t p hp
  have nD : ∀ b o, (∀ xs, o ≠ .lst xs) → H b = some o → b ≠ D := fun b o n e z => by
    obtain ⟨x, y, w', q⟩ := d
    rw [z, q] at e
    exact n _ (Option.some.inj e).symm
  refine ⟨ps, g.1 _ _ (nD _ (.tbl ps) (fun xs z => nomatch z) h1) h1, h2, fun pos cv hc => ?_⟩
  obtain ⟨c, e1, e2⟩ := h3 pos cv hc
  exact ⟨c, e1, g.1 _ _ (nD _ _ (fun xs z => by unfold CodeO at z; cases z) e2) e2⟩
/-! ### the code object of a def -/
/-- as Fun, its code object at c -/
structure FunC (K : PySem.W.Frag) (x qual : Str) (st : Stmt) (f : Addr) (fd : FuncData) (c : Addr) : Prop where
  ex : ∃ (oc : Value) (od : Option Addr) (kV doc pm : Value) (an : Option Addr) (ct : Value) (osl : Array (Option Value)), fd = PySem.W.fnOf x qual (defArgs st) (defBody st) (defScope st) .none kV doc pm an (.ref c) ct ∧
    K.lookup f = some ⟨oc, od, .func (PySem.W.fnOf x qual (defArgs st) (defBody st) (defScope st) .none kV doc pm an (.ref c) ct), osl⟩ ∧ PySem.W.codeIn K (.ref c) qual = true
section
variable {P : Program} {w : World} {K : PySem.W.Frag} {mg : Str → Option Value} {base : Heap}
theorem FunC.ok {c : Addr} {x qual : Str} {st : Stmt} {f : Addr} {fd : FuncData} {N ps : List Str} {k : Nat} {sp : Sp} (F : FunC K x qual st f fd c) (S : FnScope N ps (defScope st)) (len : ∀ vs H Q E, sp vs H Q E → vs.length = ps.length)
    (body : ∀ (A : Around) (outer : List Env) (s : Shared) (H : Hp) (vs : List V) (Q : VK) (E : XK), Room k (A.deeper (envOfC qual (defScope st) s.heap.objs.size f (.ref c))) → sp vs H Q E →
      ∃ t, PSs (cxOf CX0 P w K mg base N qual (defScope st) f (.ref c) A outer s H E).nox (defBody st) t ∧ t { nx := fun _ H' => Q .non H', rt := Q } (start N vs) H) : FnOk P w K mg base CX0 (k + 1) f fd ps sp := by
  obtain ⟨oc, od, kV, doc, pm, an, ct, osl, rfl, lk, hcd⟩ := F.ex
  refine fn_of lk hcd S len fun A outer s H vs Q E hr hsp => ?_
  obtain ⟨t, h, q⟩ := body A outer s H vs Q E hr hsp
  exact ⟨t, h.nox, q⟩
end
def lamQ (x : Str) : Str := (x ++ ".<locals>.") ++ "<lambda>"
/-! ### a program is made of right procedures -/
theorem fitH_mono {m : Int} {tb tb' : Tbl} (h : ∀ x o, tb.lookup x = some o → tb'.lookup x = some o) {hd : Hd} {bs : List Bool} (f : fitH m tb hd bs = true) : fitH m tb' hd bs = true := by
  cases hd with
  | call x =>
    have f := of_decide_eq_true (show decide ((tb.lookup x).map (fun o => o.map (·.2)) = some bs) = true from f)
    cases e : tb.lookup x with
    | none => rw [e] at f; cases f
    | some o =>
      rw [e] at f
      exact decide_eq_true (by rw [h x o e]; exact f)
  | wth x =>
    have f := of_decide_eq_true (show decide ((tb.lookup x).map (fun o => o.map (·.2)) = some (bs ++ [false])) = true from f)
    cases e : tb.lookup x with
    | none => rw [e] at f; cases f
    | some o =>
      rw [e] at f
      exact decide_eq_true (by rw [h x o e]; exact f)
  | deed w t => exact f
  | seq => exact f
  | alt => exact f
  | run x => exact f
  | wrp => exact f
  | own x => exact f
theorem canB_ok {m : Int} {tb : Tbl} {us : List RowU} (ok : ProgOk m tb us) : canB (some m) (some us) = true := by
  show (decide (1 ≤ m) && decide (m ≤ 3) && arePsB us && !(decide (2 < m) && wrapsIn us) && partsFit m us) = true
  have h1 : arePsB us = true := by
    unfold arePsB ndB
    rw [decide_eq_true ok.few, decide_eq_true ok.nd, decide_eq_true (show (tbOf us).lookup ("main" : Str) = some [] from ok.main)]
    rfl
  have h2 : (decide (2 < m) && wrapsIn us) = false := by
    by_cases e : m = 3
    · rw [ok.wr e, Bool.and_false]
    · have := ok.m3
      rw [decide_eq_false (by omega)]
      rfl
  have h3 : partsFit m us = true := List.all_eq_true.mpr fun t ht => by
    obtain ⟨u, hu, ht⟩ := List.mem_flatMap.mp ht
    exact fitH_mono ok.lk (fits_all _ (ok.fits u hu) t ht)
  rw [h1, h2, h3, decide_eq_true ok.m1, decide_eq_true ok.m3]
  rfl
/-! ### odd values -/
def Smp (v : V) : Prop := v = .non ∨ (∃ i, v = .int i) ∨ (∃ z, v = .str z ∧ z.length ≤ 30000 ∧ Asc z)
theorem Smp.knd {H : Hp} {a : Addr} {v : V} (s : Smp v) : Knd H a v := by
  rcases s with rfl | ⟨i, rfl⟩ | ⟨z, rfl, h1, h2⟩
  · exact .non
  · exact .int i
  · exact .str z h1 h2
def smpB : V → Bool
  | .non => true
  | .int _ => true
  | .str z => decide (z.length ≤ 30000) && z.cps.toList.all fun c => decide (c < 128)
  | _ => false
theorem smp_of {v : V} (h : smpB v = true) : Smp v := by
  cases v with
  | non => exact .inl rfl
  | int i => exact .inr (.inl ⟨i, rfl⟩)
  | str z =>
    obtain ⟨a, b⟩ := Bool.and_eq_true_iff.mp (show (decide (z.length ≤ 30000) && z.cps.toList.all fun c => decide (c < 128)) = true from h)
    exact .inr (.inr ⟨z, rfl, of_decide_eq_true a, fun c hc => of_decide_eq_true (List.all_eq_true.mp b c hc)⟩)
  | _ => cases h
theorem smp_all {xs : List V} (h : xs.all smpB = true) : ∀ x ∈ xs, Smp x := fun x hx => smp_of (List.all_eq_true.mp h x hx)
/-- a drawn value: what a tuple holds is told too -/
inductive Odd (H : Hp) (a : Addr) : V → Prop
  | non : Odd H a .non
  | bl (b : Bool) : Odd H a (.bl b)
  | int (i : Int) : Odd H a (.int i)
  | str (z : Str) (h : z.length ≤ 30000) (h2 : Asc z) : Odd H a (.str z)
  | tup {p : Addr} {xs : List V} (n : p ≠ a) (e : H p = some (.tup xs)) (s : ∀ x ∈ xs, Smp x) (l : xs.length ≤ 2) : Odd H a (.ref p)
  | lst {p : Addr} {xs : List V} (n : p ≠ a) (e : H p = some (.lst xs)) : Odd H a (.ref p)
  | dct {p : Addr} {kvs : List (Key × V)} (n : p ≠ a) (e : H p = some (.dK kvs)) : Odd H a (.ref p)
theorem Odd.knd {H : Hp} {a : Addr} {v : V} (o : Odd H a v) : Knd H a v := by
  cases o with
  | non => exact .non
  | bl b => exact .bl b
  | int i => exact .int i
  | str z h h2 => exact .str z h h2
  | tup n e s l => exact .tup n e
  | lst n e => exact .lst n e
  | dct n e => exact .dct n e
theorem Odd.goN {H H' : Hp} {a : Addr} {v : V} (g : GoN a H H') (o : Odd H a v) : Odd H' a v := by
  cases o with
  | non => exact .non
  | bl b => exact .bl b
  | int i => exact .int i
  | str z h h2 => exact .str z h h2
  | tup n e s l => exact .tup n (g.1 _ _ n e (fun ps z => nomatch z)) s l
  | lst n e => exact .lst n (g.1 _ _ n e (fun ps z => nomatch z))
  | dct n e => exact .dct n (g.1 _ _ n e (fun ps z => nomatch z))
theorem Odd.go {H H' : Hp} {a : Addr} {v : V} (o : Odd H a v) (g : Go a H H') : Odd H' a v := o.goN (.of g)
def OL (H : Hp) (a : Addr) (xs : List V) : Prop := ∀ v ∈ xs, Odd H a v
theorem OL.go {H H' : Hp} {a : Addr} {xs : List V} (k : OL H a xs) (g : Go a H H') : OL H' a xs := fun v h => (k v h).go g
theorem OL.nil {H : Hp} {a : Addr} : OL H a [] := fun v h => nomatch h
theorem OL.cons {H : Hp} {a : Addr} {x : V} {xs : List V} (h : Odd H a x) (k : OL H a xs) : OL H a (x :: xs) := fun v hv => by
  rcases List.mem_cons.mp hv with rfl | hv
  · exact h
  · exact k v hv
theorem owT {H0 H H' : Hp} {a p : Addr} {xs ys : List V} (e : upd H p (.tup ys) = H') (g : Go a H0 H) (k : OL H a xs) (h : H p = none) (s : ∀ x ∈ ys, Smp x) (l : ys.length ≤ 2) : Go a H0 H' ∧ OL H' a (.ref p :: xs) ∧ Go a H H' ∧ H' p = some (.tup ys) ∧ p ≠ a := by
  subst e
  exact ⟨g.trans (.new g.2 h), .cons (.tup (g.2.ne h) upd_same s l) (k.go (.new g.2 h)), .new g.2 h, upd_same, g.2.ne h⟩
theorem owL {H0 H H' : Hp} {a p : Addr} {xs ys : List V} (e : upd H p (.lst ys) = H') (g : Go a H0 H) (k : OL H a xs) (h : H p = none) : Go a H0 H' ∧ OL H' a (.ref p :: xs) ∧ Go a H H' ∧ H' p = some (.lst ys) ∧ p ≠ a := by
  subst e
  exact ⟨g.trans (.new g.2 h), .cons (.lst (g.2.ne h) upd_same) (k.go (.new g.2 h)), .new g.2 h, upd_same, g.2.ne h⟩
theorem owD {H0 H H' : Hp} {a p : Addr} {xs : List V} {ys : List (Key × V)} (e : upd H p (.dK ys) = H') (g : Go a H0 H) (k : OL H a xs) (h : H p = none) : Go a H0 H' ∧ OL H' a (.ref p :: xs) ∧ Go a H H' ∧ H' p = some (.dK ys) ∧ p ≠ a := by
  subst e
  exact ⟨g.trans (.new g.2 h), .cons (.dct (g.2.ne h) upd_same) (k.go (.new g.2 h)), .new g.2 h, upd_same, g.2.ne h⟩
def spOddT : Sp := fun vs H Q _ => ∃ (a : Addr), vs = [.ref a] ∧ Die H a ∧ ∀ v H', Go a H H' → Odd H' a v → Q v H'
/-! ### what is refused -/
theorem smps_mixed {K : PySem.W.Frag} {C D : Addr} {H : Hp} : ∀ {xs : List V}, (∀ x ∈ xs, Smp x) → ∃ b, Mixed K C D H xs b
  | [], _ => ⟨true, .nil⟩
  | x :: r, h => by
    obtain ⟨b, m⟩ := smps_mixed (K := K) (C := C) (D := D) (H := H) (xs := r) fun y hy => h y (List.mem_cons_of_mem _ hy)
    exact ⟨false, .odd (h x List.mem_cons_self).knd m⟩
theorem PsAt.mixOdd {K : PySem.W.Frag} {C D : Addr} {H : Hp} {xs : List V} {us : List RowU} (x : PsAt K C H xs us) {v : V} (k : Knd H D v) : Mixed K C D H (xs ++ [v]) false := by
  induction x with
  | nil => exact .odd k .nil
  | cons h _ ih => exact .prc h ih
theorem PsAt.tail {K : PySem.W.Frag} {C : Addr} {H : Hp} {xs : List V} {us : List RowU} (x : PsAt K C H xs us) : ∀ k, PsAt K C H (xs.drop k) (us.drop k) := by
  induction x with
  | nil => intro k; rw [List.drop_nil, List.drop_nil]; exact .nil
  | cons h t ih =>
    intro k
    cases k with
    | zero => exact .cons h t
    | succ k => exact ih k
/-- what makes no program with m modes -/
inductive BentV (K : PySem.W.Frag) (C D : Addr) (H : Hp) (m : Int) : V → Prop
  | tup {p : Addr} {xs : List V} {o : Option (List RowU)} (s : SqT K H p xs) (g : Given K C D H xs o) (l : xs.length ≤ 100) (c : canB (some m) o = false) : BentV K C D H m (.ref p)
  | lst {p : Addr} {xs : List V} (n : p ≠ D) (e : H p = some (.lst xs)) : BentV K C D H m (.ref p)
  | dct {p : Addr} {kvs : List (Key × V)} (n : p ≠ D) (e : H p = some (.dK kvs)) : BentV K C D H m (.ref p)
  | non : BentV K C D H m .non
  | bl (b : Bool) : BentV K C D H m (.bl b)
  | int (i : Int) : BentV K C D H m (.int i)
  | str (z : Str) : BentV K C D H m (.str z)
  | pr {a : Addr} {nm : Str} {own : List (Str × Bool)} {t : Tm} (p : PAt K C H a nm own t) : BentV K C D H m (.ref a)
theorem Knd.goN {H H' : Hp} {a : Addr} {v : V} (g : GoN a H H') (k : Knd H a v) : Knd H' a v := by
  cases k with
  | non => exact .non
  | bl b => exact .bl b
  | int i => exact .int i
  | str z h h2 => exact .str z h h2
  | tup n e => exact .tup n (g.1 _ _ n e (fun ps z => nomatch z))
  | lst n e => exact .lst n (g.1 _ _ n e (fun ps z => nomatch z))
  | dct n e => exact .dct n (g.1 _ _ n e (fun ps z => nomatch z))
theorem Mixed.goN {K : PySem.W.Frag} {C D : Addr} {H H' : Hp} {xs : List V} {b : Bool} (d : Die H D) (g : GoN D H H') (x : Mixed K C D H xs b) : Mixed K C D H' xs b := by
  induction x with
  | nil => exact .nil
  | prc h _ ih => exact .prc (h.goN d g) ih
  | odd h _ ih => exact .odd (h.goN g) ih
theorem Given.goN {K : PySem.W.Frag} {C D : Addr} {H H' : Hp} {xs : List V} {o : Option (List RowU)} (d : Die H D) (g : GoN D H H') (x : Given K C D H xs o) : Given K C D H' xs o := by
  cases x with
  | ps h => exact .ps (h.goN d g)
  | odd h => exact .odd (h.goN d g)
theorem BentV.goN {K : PySem.W.Frag} {C D : Addr} {H H' : Hp} {m : Int} {v : V} (d : Die H D) (g : GoN D H H') (x : BentV K C D H m v) : BentV K C D H' m v := by
  cases x with
  | tup s gv l c => exact .tup ((g.tk d).sqT s) (gv.goN d g) l c
  | lst n e => exact .lst n (g.1 _ _ n e (fun ps z => nomatch z))
  | dct n e => exact .dct n (g.1 _ _ n e (fun ps z => nomatch z))
  | non => exact .non
  | bl b => exact .bl b
  | int i => exact .int i
  | str z => exact .str z
  | pr p => exact .pr (p.goN d g)
theorem can_nil (m : Int) : canB (some m) (some []) = false := by
  show (decide (1 ≤ m) && decide (m ≤ 3) && arePsB [] && !(decide (2 < m) && wrapsIn []) && partsFit m []) = false
  rw [show arePsB [] = false from rfl, Bool.and_false]
  rfl
theorem Odd.bent {K : PySem.W.Frag} {C D : Addr} {H : Hp} {m : Int} {v : V} (o : Odd H D v) : BentV K C D H m v := by
  cases o with
  | non => exact .non
  | bl b => exact .bl b
  | int i => exact .int i
  | str z h h2 => exact .str z
  | @tup p xs n e s l =>
    cases xs with
    | nil => exact .tup (.inl (.inl e)) (.ps .nil) (Nat.zero_le _) (can_nil m)
    | cons x r =>
      obtain ⟨b, mx⟩ := smps_mixed (K := K) (C := C) (D := D) (H := H) (xs := r) fun y hy => s y (List.mem_cons_of_mem _ hy)
      exact .tup (.inl (.inl e)) (.odd (.odd (s x List.mem_cons_self).knd mx)) (by omega) rfl
  | lst n e => exact .lst n e
  | dct n e => exact .dct n e
end FS
namespace FS
open PySem PySem.Spec PyProof.Rows L2 LamX StX ClX
def spMadeX (K : PySem.W.Frag) (CP C : Addr) : Sp := fun vs H Q _ => ∃ (p rl : Addr) (m : Int) (rs : List Addr) (us : List RowU) (tb : Tbl), vs = [.ref p] ∧ H p = some (.lst [.int m, .ref rl]) ∧ H rl = some (.lst (rs.map V.ref)) ∧ RowsAt K H m tb rs us ∧ PlainOk m tb us ∧ ∀ H' a xs, Same H H' → H a = none → PgX K CP C H' a m us xs → Q (.ref a) H'
/-- all that a caller needs of the class Program -/
structure PgM (P : Program) (w : World) (K : PySem.W.Frag) (mg : Str → Option Value) (base : Heap) (CP C CI : Addr) : Prop where
  c : PgC K mg CP
  init : ∃ f, FnR P w K mg base (L2.CX P w) 10 f (spPgInitG K CP C CI) ∧ Mk K CP f
  of_ : ∃ mc p g, CRead K CP mc ∧ CMet K CP mc "of" p g ∧ FnR P w K mg base (L2.CX P w) 12 g (spPgOfG K CP C CI)
  eq : ∃ f fd, FnOk P w K mg base CX0 3 f fd ["self", "other"] (spPgEq K CP C) ∧ Binds K fd ["self", "other"] [] ∧ PySem.W.findIn K (.ref CP) "__eq__" = some (some (.ref f)) ∧ PySem.W.isFn K (.ref f) = true
  n : NoP K CP
section
variable {X : Cx} {CP C CI : Addr}
theorem op_eqPg (G : PgM X.prog X.w X.K X.mg X.base CP C CI) (hr : Room 3 X.A) : OpR X (compareOp .Eq) (rEqO X.K CP (spPgEq X.K CP C) E0 false) := by
  obtain ⟨f, fd, h1, h2, h3, h4⟩ := G.eq
  exact op_eqOwn hr h1 h3 h4 h2 pass0
end
end FS
namespace FS
open PySem PySem.Spec PyProof.Rows L2 LamX
def spRightX (T : List (Addr × Str)) : Sp := fun vs H Q _ => ∃ (D : Addr), vs = [.ref D] ∧ Die H D ∧ Tabs T H ∧ ∀ H', GoN D H H' → Tabs T H' → Q (.bl true) H'
/-- none of them stood in H -/
def NewIn (H : Hp) (xs : List V) : Prop := ∀ a, V.ref a ∈ xs → H a = none
theorem NewIn.app {H : Hp} {xs : List V} {a : Addr} (n : NewIn H xs) (h : H a = none) : NewIn H (xs ++ [.ref a]) := fun b hb => by
  rcases List.mem_append.mp hb with z | z
  · exact n b z
  · cases List.mem_singleton.mp z
    exact h
theorem PsAt.refs {K : PySem.W.Frag} {C : Addr} {H : Hp} {xs : List V} {us : List RowU} (x : PsAt K C H xs us) : ∀ v ∈ xs, ∃ a, v = .ref a := by
  induction x with
  | nil => exact fun v h => nomatch h
  | cons h _ ih =>
    intro v hv
    rcases List.mem_cons.mp hv with e | hv
    · exact ⟨_, e⟩
    · exact ih v hv
theorem none_back {H H' : Hp} {a : Addr} (s : Same H H') (h : H' a = none) : H a = none := by
  cases e : H a with
  | none => rfl
  | some o =>
    rw [s _ _ e] at h
    cases h
theorem rows_tri (us vs : List RowU) : PyData.eqv (.list (us.map rowD)) (.list (vs.map rowD)) = rowsEq us vs := by
  show PyData.eqvAll (us.map rowD) (vs.map rowD) = PyData.eqvAll (us.map tri) (vs.map tri)
  induction us generalizing vs with
  | nil => cases vs <;> rfl
  | cons u us ih =>
    cases vs with
    | nil => rfl
    | cons v vs =>
      show (PyData.eqv (rowD u) (rowD v) && PyData.eqvAll (us.map rowD) (vs.map rowD)) = (PyData.eqv (tri u) (tri v) && PyData.eqvAll (us.map tri) (vs.map tri))
      rw [ih]
      rfl
theorem rowsG_dp {K : PySem.W.Frag} {H : Hp} {rs : List Addr} {us : List RowU} (x : RowsG K H rs us) : DpAll K H (rs.map V.ref) (us.map rowD) := by
  induction x with
  | nil => exact .nil
  | cons h _ ih => exact .cons h.dp ih
end FS
namespace FS
open PySem PySem.Spec PyProof.Rows L2 LamX
/-- a slice of a tuple, whole or not -/
theorem sl_any {K : PySem.W.Frag} {H : Hp} {a : Addr} {xs : List V} {k : Nat} {Q : VK} (sq : SqT K H a xs) (q : ∀ H2 p, Same H H2 → SqT K H2 p (xs.drop k) → Q (.ref p) H2) : rSlA K (.ref a) (some (k : Int)) none H Q := by
  refine ⟨a, xs, rfl, sq, fun z => q H a (.refl H) ?_, fun _ p np => q _ _ (same_upd np) (.inl (.inl (by rw [upd_same, cut_from])))⟩
  have e := z.1
  rw [HT.sIx_nat] at e
  rcases Nat.eq_zero_or_pos k with h | h
  · rw [h]
    exact sq
  · have : xs.length = 0 := by omega
    have : xs = [] := List.eq_nil_of_length_eq_zero this
    subst this
    rw [List.drop_nil]
    exact sq
/-- two tuples joined -/
theorem cat_any {K : PySem.W.Frag} {H : Hp} {a b : Addr} {xs ys : List V} {Q : VK} (sa : SqT K H a xs) (sb : SqT K H b ys) (l : xs.length + ys.length ≤ sizeLine) (q : ∀ H2 p, Same H H2 → SqT K H2 p (xs ++ ys) → Q (.ref p) H2) : rCatA K (.ref a) (.ref b) H Q :=
  ⟨a, b, xs, ys, rfl, rfl, sa, sb, l, fun z => q H b (.refl H) (by rw [z]; exact sb), fun _ z => q H a (.refl H) (by rw [z, List.append_nil]; exact sa), fun _ _ p np => q _ _ (same_upd np) (.inl (.inl upd_same))⟩
theorem bent_goes {K : PySem.W.Frag} {CP C CI D : Addr} {H : Hp} {m : Int} {v : V} {Q : VK} {E : XK} (kC : PySem.W.kitOne K (.ref C) (.type "tuple") = some false) (c : PrC K mg C) (x : BentV K C D H m v) (e : ∀ H', Same H H' → E (.ref CI) none H') : spPgOfG K CP C CI [.ref CP, .int m, v] H Q E := by
  refine ⟨.int m, v, some m, rfl, .int m, ?_⟩
  cases x with
  | tup s g l c => exact .inl ⟨_, D, _, _, rfl, s, g, l, fun i us e1 e2 c2 => absurd c2 (by rw [c]; exact Bool.false_ne_true), fun _ H' s' => e H' s'⟩
  | lst n h => exact .inr ⟨⟨_, .base (.lst h), kit_ty (by decide +kernel)⟩, e H (.refl H)⟩
  | dct n h => exact .inr ⟨⟨_, .base (.dK h), kit_ty (by decide +kernel)⟩, e H (.refl H)⟩
  | non => exact .inr ⟨⟨_, .base .non, kit_ty (by decide +kernel)⟩, e H (.refl H)⟩
  | bl b => exact .inr ⟨⟨_, .base (.bl b), kit_ty (by decide +kernel)⟩, e H (.refl H)⟩
  | int i => exact .inr ⟨⟨_, .base (.int i), kit_ty (by decide +kernel)⟩, e H (.refl H)⟩
  | str z => exact .inr ⟨⟨_, .base (.str z), kit_ty (by decide +kernel)⟩, e H (.refl H)⟩
  | pr p =>
    obtain ⟨_, _, h⟩ := p.ins
    exact .inr ⟨⟨_, .base (.ins h c.cl c.ha c.hn c.htk c.hm), kC⟩, e H (.refl H)⟩
end FS

set_option Elab.async false
set_option linter.all false
set_option maxRecDepth 100000
set_option maxHeartbeats 4000000
/-! tuples of the very same objects, != -/
namespace FS.TupB
open PySem PySem.SeqAt GQ AutoSeq1 MeetsSeq MeetsSeq2 MeetsSeq3 SeqRoads2
section
variable {prog : Program} {w : World} {A : Around} {R : Result → Shared → Prop}
theorem tup_neS (p q : Addr) (xs ys : Array Value) (nx ny : Nat) (dx dy : Option Addr) (zx zy : Array (Option Value)) (J : Nat → Shared → Prop)
    (step : ∀ i (ix : i < xs.size) (iy : i < ys.size) s, J i s → wpAny (model prog w) A.in1 (eqBool xs[i] ys[i]) (fun r s1 => r = true ∧ J (i + 1) s1) (fun e s1 => R (.error e) s1) s)
    (alike : ∀ s, J (min xs.size ys.size) s → R (.ok (.ret (.bool (xs.size != ys.size)))) s)
    {s : Shared} (atP : s.heap.get? p = some { cls := .type "tuple", dict := dx, data := .seq xs nx, slots := zx })
    (atQ : s.heap.get? q = some { cls := .type "tuple", dict := dy, data := .seq ys ny, slots := zy }) (start : J 0 s) :
    wpAny (model prog w) A.in1 (Builtin.«tuple.__ne__» ⟨[.ref p, .ref q], []⟩) (FinOf prog w A R) (fun e s1 => R (.error e) s1) s := by
  have both := AutoSeq1.sub_tuple_tuple
  have many : (xs.toList.zip ys.toList).length = min xs.size ys.size := by simp
  have start0 := start
  obtain ⟨hp, gens, drawn, toks, os⟩ := s
  wp_walk using wpAny_loadPart' atP, wpAny_loadPart' atQ, wpAny_forIn_list _ (fun left b s1 => b.1 = none ∧ ∃ i, left = (xs.toList.zip ys.toList).drop i ∧ i ≤ min xs.size ys.size ∧ J i s1) _
  case turn =>
    rintro ⟨one, two⟩ left b s1 ⟨none1, i, cut, le, now⟩
    have lt : i < (xs.toList.zip ys.toList).length := by
      rcases Nat.lt_or_ge i (xs.toList.zip ys.toList).length with z | z
      · exact z
      · rw [List.drop_of_length_le z] at cut; cases cut
    have lt2 : i < min xs.size ys.size := many ▸ lt
    have ix : i < xs.size := by omega
    have iy : i < ys.size := by omega
    rw [List.drop_eq_getElem_cons lt] at cut
    injection cut with pair tail
    have e1 : one = xs[i] := by have := congrArg Prod.fst pair; simpa using this
    have e2 : two = ys[i] := by have := congrArg Prod.snd pair; simpa using this
    subst e1 e2
    refine wpAny_bind (wpAny_mono (step i ix iy s1 now) (fun r s2 got => ?_) fun _ _ z => z)
    obtain ⟨rc, next⟩ := got
    subst rc
    wp_walk
    exact ⟨rfl, i + 1, tail, lt2, next⟩
  case fin =>
    rintro ⟨b1, b2⟩ s1 ⟨none1, i, cut, le, now⟩
    simp only at none1
    subst none1
    have ge : min xs.size ys.size ≤ i := by
      rcases Nat.lt_or_ge i (xs.toList.zip ys.toList).length with z | z
      · rw [List.drop_eq_getElem_cons z] at cut; cases cut
      · exact many ▸ z
    have ei : i = min xs.size ys.size := by omega
    subst ei
    have out := alike s1 now
    wp_walk
    simpa [Builtin.Tuple.tupleCompareSizes] using out
  case h =>
    exact ⟨rfl, 0, rfl, Nat.zero_le _, start0⟩
end
section
variable {prog : Program} {w : World} {A : Around} {E : Value → Shared → Prop} {s : Shared}
theorem rc_tupNe {p q : Addr} {xs ys : Array Value} {Q : Value → Shared → Prop} (room : A.units < cLine) (J : Nat → Shared → Prop) (tp : s.heap.IsTuple p xs) (tq : s.heap.IsTuple q ys)
    (step : ∀ i (ix : i < xs.size) (iy : i < ys.size) s, J i s → wpAny (model prog w) A.in1 (eqBool xs[i] ys[i]) (fun r s1 => r = true ∧ J (i + 1) s1) E s)
    (alike : ∀ s, J (min xs.size ys.size) s → Q (.bool (xs.size != ys.size)) s) (start : J 0 s) :
    wpAny (model prog w) A (richCompare .NotEq (.ref p) (.ref q)) Q E s := by
  obtain ⟨⟨cp, ep, fp, zp⟩, atP, hp1, np, hp2⟩ := id tp
  obtain ⟨⟨cq, eq, fq, zq⟩, atQ, hq1, nq, hq2⟩ := id tq
  simp only at hp1 hp2 hq1 hq2
  subst hp1 hp2 hq1 hq2
  refine wpAny_richCompare_same_room (op := .NotEq) ⟨_, atP, rfl⟩ ⟨_, atQ, rfl⟩ F.slot_tuple_ne (call_here F.slot_tuple_ne ⟨_, atP, rfl⟩ F.entry_tuple_ne (F.args_tuple_ne_2 _ _) ?_) room
  exact tup_neS (R := wants (fun v s1 => v ≠ .notImplemented ∧ Q v s1) E) p q xs ys np nq ep eq zp zq J step (fun s1 a => ⟨(fun z => nomatch z), alike s1 a⟩) atP atQ start
end
end FS.TupB
namespace FS
open PySem PySem.Spec PyProof.Rows L2
/-- tuples of the same objects, != -/
def rTupSame (K : PySem.W.Frag) : R2 := fun x y H Q => ∃ (p q : Addr) (xs : List V), x = .ref p ∧ y = .ref q ∧ SqT K H p xs ∧ SqT K H q xs ∧ (∀ v ∈ xs, ∃ a, v = .ref a) ∧ Q (.bl false) H
theorem op_neSame {X : Cx} {k : Nat} (hr : Room k X.A) : OpR X (compareOp .NotEq) (rTupSame X.K) := by
  intro pins s σ H x y v u Q I rx ry hq
  obtain ⟨p, q, xs, rfl, rfl, sp, sq, rf, qq⟩ := hq
  cases rx
  cases ry
  obtain ⟨its, rv, tp, _⟩ := I.tuple sp
  obtain ⟨jts, rw', tq, _⟩ := I.tuple sq
  have e : its.toArray.size = jts.toArray.size := by rw [List.size_toArray, List.size_toArray, ← rv.length, ← rw'.length]
  show wpAny (model X.prog X.w) X.A (richCompare .NotEq (.ref p) (.ref q)) (EP X pins σ Q) X.xe s
  refine TupB.rc_tupNe hr.units0 (fun _ s1 => Inv X pins σ H s1) tp tq (fun i ix iy s1 I1 => ?_) (fun s1 I1 => ?_) I
  · obtain ⟨x1, e1, r1⟩ := vals_at rv ix
    obtain ⟨y1, e2, r2⟩ := vals_at rw' iy
    rw [e1] at e2
    cases e2
    obtain ⟨a, rfl⟩ := rf x1 (List.mem_of_getElem? e1)
    rw [show its.toArray[i] = Value.ref a from r1, show jts.toArray[i] = Value.ref a from r2]
    exact eq_same ⟨rfl, I1⟩
  · refine ⟨.bl false, H, I1, ?_, qq⟩
    rw [e]
    simp [L2.RelV]
end FS

set_option Elab.async false
set_option linter.all false
set_option maxRecDepth 100000
set_option maxHeartbeats 4000000
/-! the law's last rows -/
namespace FS
open PySem PySem.Spec PyProof.Rows L2 LamX
theorem extN_same {H H' : Hp} (s : Same H H') : ExtN H H' := fun b o h _ => s b o h
theorem extN_tk {H H' : Hp} (e : ExtN H H') : TK H H' := fun b o t h => e b o h (fun ps z => by subst z; cases t)
theorem extN_seq {K : PySem.W.Frag} {H H' : Hp} {a : Addr} {xs : List V} (e : ExtN H H') (h : SqL K H a xs) : SqL K H' a xs := by
  rcases h with (h | ⟨o, h⟩) | h
  · exact .inl (.inl (e _ _ h (fun ps z => nomatch z)))
  · exact .inl (.inr ⟨o, e _ _ h (fun ps z => nomatch z)⟩)
  · exact .inr h
theorem PAtD.ext {K : PySem.W.Frag} {C : Addr} {H H' : Hp} {D a : Addr} {nm : Str} {own : List (Str × Bool)} {t : Tm} (p : PAtD K C H D a nm own t) (e : ExtN H H') : PAtD K C H' D a nm own t := by
  obtain ⟨⟨dx, pv, bv, pa, ka, wa, ua, xs, ws, us, h1, h2, h3, h4, h5, h6, h7, h8, h9, h10, hn⟩, na, b, c, d, e1, f, g⟩ := p
  have k := extN_tk e
  exact ⟨⟨dx, pv, bv, pa, ka, wa, ua, xs, ws, us, e _ _ h1 (fun ps z => nomatch z), Dp.tk k (pars_noL own) h2, Dp.tk k t.noL h3, e _ _ h4 (fun ps z => nomatch z), DpAll.tk k (noL_datas _) h5, Dp.tk k (kindD_noL _) h6, Dp.tk k (strs_noL _) h7, Dp.tk k (strs_noL _) h8, h9, h10, hn⟩, na, b, c, d, e1, f, g⟩
theorem PAt.atD {K : PySem.W.Frag} {C : Addr} {H : Hp} {D a : Addr} {nm : Str} {own : List (Str × Bool)} {t : Tm} (p : PAt K C H a nm own t) (n : H D = none) : PAtD K C H D a nm own t := by
  obtain ⟨⟨dx, pv, bv, pa, ka, wa, ua, xs, ws, us, h1, h2, h3, h4, h5, h6, h7, h8, h9, h10⟩, b, c, d, e, f, g⟩ := p
  exact ⟨⟨dx, pv, bv, pa, ka, wa, ua, xs, ws, us, h1, h2, h3, h4, h5, h6, h7, h8, h9, h10, ne_of_none h4 n⟩, ne_of_none h1 n, b, c, d, e, f, g⟩
theorem Tabs.put {T : List (Addr × Str)} {H : Hp} {l : Addr} {xs : List V} {o' : HO} (t : Tabs T H) (h : H l = some (.lst xs)) : Tabs T (upd H l o') := fun p hp => by
  obtain ⟨ps, h1, h2, h3⟩ := t p hp
  have nl : ∀ b o, (∀ xs, o ≠ .lst xs) → H b = some o → b ≠ l := fun b o n e z => by
    rw [z, h] at e
    exact n _ (Option.some.inj e).symm
  refine ⟨ps, by rw [upd_ne (nl _ (.tbl ps) (fun xs z => nomatch z) h1)]; exact h1, h2, fun pos cv hc => ?_⟩
  obtain ⟨c, e1, e2⟩ := h3 pos cv hc
  exact ⟨c, e1, by rw [upd_ne (nl _ _ (fun xs z => by unfold CodeO at z; cases z) e2)]; exact e2⟩
def tS : Tm := .mk .seq []
def tRun : Tm := .mk (.run "b") []
def tCall : Tm := .mk (.call "p") [.mk .seq []]
def tDo : Tm := .mk (.deed "go" [some 0]) []
theorem gS (own : List (Str × Bool)) : Good own tS := .mk (by rfl) (by rfl) (fun t h => nomatch h)
theorem gRun : Good [("b", false)] tRun := .mk (by decide +kernel) (by rfl) (fun t h => nomatch h)
theorem gCall : Good [] tCall := .mk (by decide +kernel) (by rfl) (fun t h => by
  rw [List.mem_singleton.mp h]
  exact gS [])
theorem gDo : Good [] tDo := .mk (by decide +kernel) (by rfl) (fun t h => nomatch h)
theorem poN : ParOk [] := ⟨by decide, (fun p hp => nomatch hp), by simp⟩
theorem poB : ParOk [("b", false)] := ⟨by decide, (fun p hp => by rw [List.mem_singleton.mp hp]; decide +kernel), by simp⟩
theorem poW : ParOk [("w", true)] := ⟨by decide, (fun p hp => by rw [List.mem_singleton.mp hp]; decide +kernel), by simp⟩
/-- what stands while the last rows are told -/
structure Told (K : PySem.W.Frag) (C : Addr) (TS : List (Addr × Str)) (H : Hp) (pm ow pl : Addr) (bs : List Bool) : Prop where
  main : PAtD K C H pl pm "main" [] tS
  own : Dp K H (.ref ow) (parsD [("b", false)])
  list : H pl = some (.lst (bs.map V.bl))
  tabs : Tabs TS H
section
variable {K : PySem.W.Frag} {C : Addr} {TS : List (Addr × Str)} {H H' : Hp} {pm ow pl : Addr} {bs : List Bool}
theorem Told.same (t : Told K C TS H pm ow pl bs) (s : Same H H') : Told K C TS H' pm ow pl bs := ⟨t.main.kp (.of s) (.of s), Dp.tk (.of s) (pars_noL _) t.own, s _ _ t.list, Tabs.same t.tabs s⟩
theorem Told.ext (t : Told K C TS H pm ow pl bs) (e : ExtN H H') (tt : Tabs TS H') : Told K C TS H' pm ow pl bs := ⟨t.main.ext e, Dp.tk (extN_tk e) (pars_noL _) t.own, e _ _ t.list (fun ps z => nomatch z), tt⟩
theorem Told.put (t : Told K C TS H pm ow pl bs) (b : Bool) : Told K C TS (upd H pl (.lst (bs.map V.bl ++ [V.bl b]))) pm ow pl (bs ++ [b]) := ⟨t.main.kp .set (TK.set t.list rfl), Dp.tk (TK.set t.list rfl) (pars_noL _) t.own, by rw [upd_same, List.map_append]; rfl, Tabs.put t.tabs t.list⟩
end
/-- a new procedure -/
theorem mkPr_goes {K : PySem.W.Frag} {C : Addr} {H : Hp} {nm : Str} {ov bv : V} {own : List (Str × Bool)} {t : Tm} {Q : VK} {E : XK} (wd : wordB nm = true) (dov : Dp K H ov (parsD own)) (po : ParOk own) (dbv : Dp K H bv t.data) (gd : Good own t) (nw : t.isW = false) (few : t.count ≤ 40) (low : t.deep ≤ 6)
    (q : ∀ H' x, Same H H' → PAt K C H' x nm own t → Q (.ref x) H') :
    ∀ x dx, H x = none → H dx = none → dx ≠ x → spInit K C (.ref x :: ([.str nm, ov, bv] ++ [])) (upd (upd H dx (.own x)) x (.ins C dx [])) (fun v H2 => v = .non ∧ Q (.ref x) H2) E := by
  intro x dx nx nd ne
  have s1 := made_same (C := C) nx nd
  exact ⟨x, dx, nm, ov, bv, own, t, rfl, upd_same, wd, Dp.tk (.of s1) (pars_noL own) dov, Dp.tk (.of s1) t.noL dbv, po, gd, nw, few, low, fun H2 pa kp fr => ⟨rfl, q H2 x (Same.made nx nd fun b o e n => kp b o n e) pa⟩⟩
/-- a program made, or refused -/
theorem mkPg_goes {K : PySem.W.Frag} {CP C CI : Addr} {H : Hp} {m : Int} {xs : List V} {us : List RowU} {Q : VK} {E : XK} (ps : PsAt K C H xs us) (l : xs.length ≤ 100)
    (yes : canB (some m) (some us) = true → ∀ H' x, Same H H' → H x = none → PgX K CP C H' x m us xs → Q (.ref x) H') (no : canB (some m) (some us) = false → ∀ H', Same H H' → E (.ref CI) none H') :
    ∀ x dx, H x = none → H dx = none → dx ≠ x → spPgInitG K CP C CI (.ref x :: (.int m :: xs)) (upd (upd H dx (.own x)) x (.ins CP dx [])) (fun v H2 => v = .non ∧ Q (.ref x) H2) E :=
  fun x dx nx nd ne => ⟨x, dx, 0, .int m, some m, xs, some us, rfl, upd_same, .int m, .ps (ps.same (made_same nx nd)), l, fun i us' e1 e2 c H' pa kp => ⟨rfl, by
    cases e1
    cases e2
    exact yes c H' x (Same.made nx nd fun b o e n => kp b o n e) nx pa⟩, fun c H' s => no c H' ((made_same nx nd).trans s)⟩
theorem can1 : canB (some 1) (some []) = false := can_nil 1
theorem can2 : canB (some 1) (some [("main", [], tS)]) = true := by decide +kernel
theorem can3 : canB (some 1) (some [("main", [("b", false)], tRun)]) = false := by decide +kernel
theorem can4 : canB (some 3) (some [("main", [], tS), ("p", [("w", true)], tS)]) = false := by decide +kernel
theorem can5 : canB (some 2) (some [("main", [], tS), ("p", [("w", true)], tS)]) = true := by decide +kernel
theorem can6 : canB (some 1) (some [("main", [], tCall)]) = false := by decide +kernel
theorem can7 : canB (some 2) (some [("main", [], tDo)]) = false := by decide +kernel
end FS
namespace FS
open PySem PySem.Spec PyProof.Rows L2 LamX
def spLawT (K : PySem.W.Frag) (TS : List (Addr × Str)) : Sp := fun vs H Q _ => ∃ (a : Addr) (ns : List Int), vs = [.ref a] ∧ SqL K H a (ns.map V.int) ∧ ns.length ≤ 63 ∧ Tabs TS H ∧ ∀ H', Q (.bl true) H'
end FS
namespace FS
open PySem PySem.Spec PyProof.Rows L2 LamX
theorem PAt.ext {K : PySem.W.Frag} {C : Addr} {H H' : Hp} {a : Addr} {nm : Str} {own : List (Str × Bool)} {t : Tm} (p : PAt K C H a nm own t) (e : ExtN H H') : PAt K C H' a nm own t := by
  obtain ⟨⟨dx, pv, bv, pa, ka, wa, ua, xs, ws, us, h1, h2, h3, h4, h5, h6, h7, h8, h9, h10⟩, b, c, d, e1, f, g⟩ := p
  have k := extN_tk e
  exact ⟨⟨dx, pv, bv, pa, ka, wa, ua, xs, ws, us, e _ _ h1 (fun ps z => nomatch z), Dp.tk k (pars_noL own) h2, Dp.tk k t.noL h3, e _ _ h4 (fun ps z => nomatch z), DpAll.tk k (noL_datas _) h5, Dp.tk k (kindD_noL _) h6, Dp.tk k (strs_noL _) h7, Dp.tk k (strs_noL _) h8, h9, h10⟩, b, c, d, e1, f, g⟩
theorem Told.start {K : PySem.W.Frag} {C : Addr} {TS : List (Addr × Str)} {H : Hp} {pm ow pl : Addr} {b : Bool} (p : PAt K C H pm "main" [] tS) (d : Dp K H (.ref ow) (parsD [("b", false)])) (t : Tabs TS H) (n : H pl = none) : Told K C TS (upd H pl (.lst [V.bl b])) pm ow pl [b] :=
  ⟨(p.atD n).kp .set (.of (same_upd n)), Dp.tk (.of (same_upd n)) (pars_noL _) d, upd_same, Tabs.same t (same_upd n)⟩
theorem Told.ps {K : PySem.W.Frag} {C : Addr} {TS : List (Addr × Str)} {H : Hp} {pm ow pl : Addr} {bs : List Bool} (t : Told K C TS H pm ow pl bs) : PsAt K C H [.ref pm] [("main", [], tS)] := .cons (u := ("main", [], tS)) t.main.pat .nil
theorem PsAt.one {K : PySem.W.Frag} {C : Addr} {H : Hp} {a : Addr} {nm : Str} {own : List (Str × Bool)} {t : Tm} (p : PAt K C H a nm own t) : PsAt K C H [.ref a] [(nm, own, t)] := .cons (u := (nm, own, t)) p .nil
theorem PsAt.two {K : PySem.W.Frag} {C : Addr} {H : Hp} {a b : Addr} {nm nm' : Str} {own own' : List (Str × Bool)} {t t' : Tm} (p : PAt K C H a nm own t) (q : PAt K C H b nm' own' t') : PsAt K C H [.ref a, .ref b] [(nm, own, t), (nm', own', t')] := .cons (u := (nm, own, t)) p (.one q)
theorem same_main : (decide ((1 : Int) = 1) && rowsEq [("main", [], tS)] [("main", [], tS)]) = true := by decide +kernel
theorem apart_main {a : Addr} : Apart [.ref a] [.ref a] [("main", [], tS)] [("main", [], tS)] := fun i b u v h1 h2 hu hv => by
  rw [hu] at hv
  exact Option.some.inj hv
end FS
namespace FS
open PySem PySem.Spec PyProof.Rows L2 LamX
theorem dpB {K : PySem.W.Frag} {H : Hp} : DpAll K H [V.bl true, V.bl true, V.bl true, V.bl true, V.bl false, V.bl true, V.bl true] [.bool true, .bool true, .bool true, .bool true, .bool false, .bool true, .bool true] := .cons (.bl _) (.cons (.bl _) (.cons (.bl _) (.cons (.bl _) (.cons (.bl _) (.cons (.bl _) (.cons (.bl _) .nil))))))
end FS

set_option Elab.async false
set_option linter.all false
set_option maxRecDepth 100000
set_option maxHeartbeats 4000000
/-! programs changed: promises -/
namespace FS
open PySem PySem.Spec PyProof.Rows L2
/-- a row in the place of the one of its name, or behind all -/
def swapU (us : List RowU) (u : RowU) : List RowU := us.map fun v => if v.1 = u.1 then u else v
def putU (us : List RowU) (u : RowU) : List RowU := if u.1 ∈ us.map (·.1) then swapU us u else us ++ [u]
/-- the rows without those of a name -/
def outU (us : List RowU) (nm : Str) : List RowU := us.filter fun v => decide (v.1 ≠ nm)
theorem PsAtD.get {K : PySem.W.Frag} {C : Addr} {H : Hp} {D : Addr} {xs : List V} {us : List RowU} (x : PsAtD K C H D xs us) {i : Nat} {v : V} (e : xs[i]? = some v) : ∃ a u, v = .ref a ∧ us[i]? = some u ∧ PAtD K C H D a u.1 u.2.1 u.2.2 := by
  induction x generalizing i with
  | nil => cases e
  | @cons a u xs us h k ih =>
    cases i with
    | zero => cases e; exact ⟨a, u, rfl, rfl, h⟩
    | succ i => exact ih e
theorem PsAtD.same {K : PySem.W.Frag} {C : Addr} {H H' : Hp} {D : Addr} {xs : List V} {us : List RowU} (x : PsAtD K C H D xs us) (s : Same H H') : PsAtD K C H' D xs us := x.kp (.of s) (.of s)
theorem PAtD.same {K : PySem.W.Frag} {C : Addr} {H H' : Hp} {D a : Addr} {nm : Str} {own : List (Str × Bool)} {t : Tm} (p : PAtD K C H D a nm own t) (s : Same H H') : PAtD K C H' D a nm own t := p.kp (.of s) (.of s)
theorem PsAtD.len {K : PySem.W.Frag} {C : Addr} {H : Hp} {D : Addr} {xs : List V} {us : List RowU} (x : PsAtD K C H D xs us) : xs.length = us.length := by
  induction x with
  | nil => rfl
  | cons _ _ ih => rw [List.length_cons, List.length_cons, ih]
theorem swap_more {us : List RowU} {u : RowU} {i : Nat} {v : RowU} (h : us[i]? = some v) : swapU (us.take (i + 1)) u = swapU (us.take i) u ++ [if v.1 = u.1 then u else v] := by
  unfold swapU
  rw [take_more h, List.map_append]
  rfl
theorem out_more {us : List RowU} {nm : Str} {i : Nat} {v : RowU} (h : us[i]? = some v) : outU (us.take (i + 1)) nm = outU (us.take i) nm ++ (if v.1 = nm then [] else [v]) := by
  unfold outU
  rw [take_more h, List.filter_append]
  by_cases e : v.1 = nm <;> simp [e]
def spWithP (K : PySem.W.Frag) (CP C CI : Addr) : Sp := fun vs H Q E => ∃ (L a p : Addr) (m : Int) (us : List RowU) (xs : List V) (u : RowU), vs = [.ref a, .ref p] ∧ PgX K CP C H a m us xs ∧ PsAtD K C H L xs us ∧ PAtD K C H L p u.1 u.2.1 u.2.2 ∧
  (canB (some m) (some (putU us u)) = true → ∀ H' b ys, Same H H' → H b = none → PgX K CP C H' b m (putU us u) ys → PsAtD K C H' L ys (putU us u) → Q (.ref b) H') ∧ (canB (some m) (some (putU us u)) = false → ∀ H', Same H H' → E (.ref CI) none H')
def spWithout (K : PySem.W.Frag) (CP C CO : Addr) : Sp := fun vs H Q E => ∃ (L a : Addr) (m : Int) (us : List RowU) (xs : List V) (nm : Str), vs = [.ref a, .str nm] ∧ PgX K CP C H a m us xs ∧ PsAtD K C H L xs us ∧ nm ∈ us.map (·.1) ∧
  (canB (some m) (some (outU us nm)) = true → ∀ H' b ys, Same H H' → H b = none → PgX K CP C H' b m (outU us nm) ys → PsAtD K C H' L ys (outU us nm) → Q (.ref b) H') ∧ (canB (some m) (some (outU us nm)) = false → ∀ H', Same H H' → E (.ref CO) none H')
end FS
namespace FS
open PySem PySem.Spec PyProof.Rows L2
theorem str_dec (a b : Str) : decide (V.str a = V.str b) = decide (a = b) := by
  by_cases h : a = b <;> simp [h]
theorem PsAt.atD {K : PySem.W.Frag} {C : Addr} {H : Hp} {D : Addr} {xs : List V} {us : List RowU} (x : PsAt K C H xs us) (n : H D = none) : PsAtD K C H D xs us := by
  induction x with
  | nil => exact .nil
  | cons h _ ih => exact .cons (h.atD n) ih
theorem swap_len (us : List RowU) (u : RowU) : (swapU us u).length = us.length := List.length_map _
end FS
namespace FS
open PySem PySem.Spec PyProof.Rows L2 LamX StX ClX
def spMadeG (K : PySem.W.Frag) (CP C : Addr) : Sp := fun vs H Q _ => ∃ (p rl : Addr) (m : Int) (rs : List Addr) (us : List RowU), vs = [.ref p] ∧ H p = some (.lst [.int m, .ref rl]) ∧ H rl = some (.lst (rs.map V.ref)) ∧ RowsG K H rs us ∧ canB (some m) (some us) = true ∧ ∀ H' a xs, Same H H' → H a = none → NewIn H xs → PgX K CP C H' a m us xs → Q (.ref a) H'
theorem can_few {m : Int} {us : List RowU} (c : canB (some m) (some us) = true) : us.length ≤ 8 := by
  obtain ⟨i, vs, e1, e2, _, _, h, _⟩ := canB_true c
  cases e2
  exact h
theorem can_nd {m : Int} {us : List RowU} (c : canB (some m) (some us) = true) : (us.map (·.1)).Nodup := by
  obtain ⟨i, vs, e1, e2, _, _, _, h⟩ := canB_true c
  cases e2
  exact h
theorem can_m {m : Int} {us : List RowU} (c : canB (some m) (some us) = true) : 1 ≤ m ∧ m ≤ 3 := by
  obtain ⟨i, vs, e1, e2, h1, h2, _, _⟩ := canB_true c
  cases e1
  exact ⟨h1, h2⟩
end FS
namespace FS
open PySem PySem.Spec PyProof.Rows L2 LamX StX ClX
/-- all that a caller needs of the class Program, changes too -/
structure PgW (P : Program) (w : World) (K : PySem.W.Frag) (mg : Str → Option Value) (base : Heap) (CP C CI CO : Addr) : Prop where
  m : PgM P w K mg base CP C CI
  wp : ∃ f fd, FnOk P w K mg base (L2.CX P w) 12 f fd ["self", "procedure"] (spWithP K CP C CI) ∧ Binds K fd ["self", "procedure"] [] ∧ Meth K CP "with_procedure" f
  wo : ∃ f fd, FnOk P w K mg base (L2.CX P w) 12 f fd ["self", "name"] (spWithout K CP C CO) ∧ Binds K fd ["self", "name"] [] ∧ Meth K CP "without" f
  ne : PySem.W.findIn K (.ref CP) "__ne__" = some (some (.builtin "object.__ne__"))
/-- the list at rl of the rows, none of them at D or L -/
structure RLL (K : PySem.W.Frag) (D L : Addr) (H : Hp) (l : Addr) (rs : List Addr) (us : List RowU) : Prop where
  rl : RL K D H l rs us
  ne : l ≠ L
  rows : ∀ r ∈ rs, r ≠ L
theorem RLL.goN {K : PySem.W.Frag} {H H' : Hp} {D L l : Addr} {rs : List Addr} {us : List RowU} (d : Die H D) (g : GoN D H H') (x : RLL K D L H l rs us) : RLL K D L H' l rs us := ⟨x.rl.goN d g, x.ne, x.rows⟩
theorem RLL.same {K : PySem.W.Frag} {H H' : Hp} {D L l : Addr} {rs : List Addr} {us : List RowU} (s : Same H H') (x : RLL K D L H l rs us) : RLL K D L H' l rs us := ⟨x.rl.same s, x.ne, x.rows⟩
theorem PAtD.goN {K : PySem.W.Frag} {C : Addr} {H H' : Hp} {D L a : Addr} {nm : Str} {own : List (Str × Bool)} {t : Tm} (d : Die H D) (g : GoN D H H') (p : PAtD K C H L a nm own t) : PAtD K C H' L a nm own t := by
  obtain ⟨⟨dx, pv, bv, pa, ka, wa, ua, xs, ws, us, h1, h2, h3, h4, h5, h6, h7, h8, h9, h10, hn⟩, na, b, c, dd, e, f, gg⟩ := p
  have k := g.tk d
  obtain ⟨x, y, w', q⟩ := d
  have n1 : a ≠ D := fun z => by
    rw [z, q] at h1
    cases h1
  have n2 : pa ≠ D := fun z => by
    rw [z, q] at h4
    have e4 := HO.lst.inj (Option.some.inj h4)
    rw [all_eq] at h5
    cases h5 with
    | cons hd tl =>
      have e5 := (List.cons.inj e4).1
      obtain ⟨hh, kk⟩ := t
      obtain ⟨aa, _, _, ee, _⟩ := tm_open hd
      rw [ee] at e5
      cases e5
  exact ⟨⟨dx, pv, bv, pa, ka, wa, ua, xs, ws, us, g.1 _ _ n1 h1 (fun ps z => nomatch z), Dp.tk k (pars_noL own) h2, Dp.tk k t.noL h3, g.1 _ _ n2 h4 (fun ps z => nomatch z), DpAll.tk k (noL_datas _) h5, Dp.tk k (kindD_noL _) h6, Dp.tk k (strs_noL _) h7, Dp.tk k (strs_noL _) h8, h9, h10, hn⟩, na, b, c, dd, e, f, gg⟩
theorem PsAtD.goN {K : PySem.W.Frag} {C : Addr} {H H' : Hp} {D L : Addr} {xs : List V} {us : List RowU} (d : Die H D) (g : GoN D H H') (x : PsAtD K C H L xs us) : PsAtD K C H' L xs us := by
  induction x with
  | nil => exact .nil
  | cons h _ ih => exact .cons (h.goN d g) ih
/-- a program of the rows, at a, apart from L -/
structure Prg (K : PySem.W.Frag) (CP C L : Addr) (H : Hp) (a : Addr) (m : Int) (us : List RowU) : Prop where
  ex : ∃ xs, PgX K CP C H a m us xs ∧ PsAtD K C H L xs us
theorem Prg.goN {K : PySem.W.Frag} {CP C D L : Addr} {H H' : Hp} {a : Addr} {m : Int} {us : List RowU} (d : Die H D) (g : GoN D H H') (p : Prg K CP C L H a m us) : Prg K CP C L H' a m us := by
  obtain ⟨xs, h1, h2⟩ := p
  exact ⟨xs, h1.goN d g, h2.goN d g⟩
theorem Prg.same {K : PySem.W.Frag} {CP C L : Addr} {H H' : Hp} {a : Addr} {m : Int} {us : List RowU} (s : Same H H') (p : Prg K CP C L H a m us) : Prg K CP C L H' a m us := by
  obtain ⟨xs, h1, h2⟩ := p
  exact ⟨xs, h1.same s, h2.same s⟩
/-- how one change comes out: the rows and the program, or twice the same word -/
inductive Came (K : PySem.W.Frag) (CP C D L : Addr) (H : Hp) (m : Int) : V → V → Prop
  | made {l a : Addr} {rs : List Addr} {us : List RowU} (r : RLL K D L H l rs us) (c : canB (some m) (some us) = true) (p : Prg K CP C L H a m us) : Came K CP C D L H m (.ref l) (.ref a)
  | word (z : Str) : Came K CP C D L H m (.str z) (.str z)
def spChanged (K : PySem.W.Frag) (CP C : Addr) (TS : List (Addr × Str)) : Sp := fun vs H Q _ => ∃ (D pl a L rl : Addr) (m : Int) (rs : List Addr) (us : List RowU) (o : HO), vs = [.ref D, .ref pl, .ref a] ∧ Die H D ∧ H pl = some (.lst [.int m, .ref rl]) ∧ pl ≠ D ∧ H L = some o ∧ (∀ ps, o ≠ .tbl ps) ∧ L ≠ D ∧ RLL K D L H rl rs us ∧ canB (some m) (some us) = true ∧ Prg K CP C L H a m us ∧ Tabs TS H ∧
  ∀ H' q v1 v2, GoN D H H' → Tabs TS H' → H' q = some (.lst [v1, v2]) → q ≠ D → Came K CP C D L H' m v1 v2 → Q (.ref q) H'
end FS
namespace FS
open PySem PySem.Spec PyProof.Rows L2
theorem TabV.merged {K : PySem.W.Frag} {H : Hp} : ∀ {kvs : List (Key × V)} {tb : Tbl} {acc : List (Key × V)} {tb0 : Tbl}, TabV K H acc tb0 → TabV K H kvs tb → ((tb0 ++ tb).map (·.1)).Nodup → TabV K H (mergeK acc kvs) (tb0 ++ tb)
  | _, _, acc, tb0, a, .nil, _ => by
    rw [List.append_nil]
    exact a
  | _, _, acc, tb0, a, .cons (x := x) (v := v) (own := own) (kvs := kvs) (tb := tb) h po wd r, n => by
    have n1 : x ∉ tb0.map (·.1) := fun z => by
      rw [List.map_append] at n
      exact (List.nodup_append.mp n).2.2 x z x List.mem_cons_self rfl
    have e : tb0 ++ (x, own) :: tb = (tb0 ++ [(x, own)]) ++ tb := by simp
    rw [e] at n ⊢
    exact TabV.merged (acc := putK acc (Sum.inr x) v) (a.putN h po wd n1) r n
end FS
namespace FS
open PySem PySem.Spec PyProof.Rows L2
section
variable {m : Int} {pv dv nv wv : Addr} {hb : Bool}
theorem gn1 : (pgF m pv dv nv wv hb).lookup ("without" : Str) = none := (lkP (by decide +kernel)).trans ((lkP (by decide +kernel)).trans ((lkP (by decide +kernel)).trans ((lkP (by decide +kernel)).trans ((lkP (by decide +kernel)).trans ((lkP (by decide +kernel)).trans rfl)))))
theorem gn2 : (pgF m pv dv nv wv hb).lookup ("with_procedure" : Str) = none := (lkP (by decide +kernel)).trans ((lkP (by decide +kernel)).trans ((lkP (by decide +kernel)).trans ((lkP (by decide +kernel)).trans ((lkP (by decide +kernel)).trans ((lkP (by decide +kernel)).trans rfl)))))
end
theorem PgX.insF {K : PySem.W.Frag} {CP C : Addr} {H : Hp} {a : Addr} {m : Int} {us : List RowU} {xs : List V} (p : PgX K CP C H a m us xs) : ∃ dx pv dv nv wv hb, H a = some (.ins CP dx (pgF m pv dv nv wv hb)) := by
  obtain ⟨dx, pv, dv, nv, wv, kvs, ns, ws, h1, _⟩ := p
  exact ⟨_, _, _, _, _, _, h1⟩
end FS
namespace FS
open PySem PySem.Spec PyProof.Rows L2
/-- what lies behind a statement is walked once, however it comes through -/
theorem seq_gen {a r : TS} {D : Ends} {σ : L2.St} {H : Hp} {P : L2.St → Hp → Prop} (h : ∀ N : L2.St → Hp → Prop, (∀ σ' H', P σ' H' → N σ' H') → a { D with nx := N } σ H) (k : ∀ σ' H', P σ' H' → r D σ' H') : tSeq a r D σ H := h _ fun σ' H' p => k σ' H' p
theorem tbOf_more {us : List RowU} {i : Nat} {u : RowU} (h : us[i]? = some u) : tbOf (us.take (i + 1)) = tbOf (us.take i) ++ [(u.1, u.2.1)] := by
  unfold tbOf
  rw [take_more h, List.map_append]
  rfl
theorem poBX : ParOk [("b", false), ("x", false)] := ⟨by decide, (fun p hp => by
  rcases List.mem_cons.mp hp with rfl | hp
  · decide +kernel
  · rw [List.mem_singleton.mp hp]; decide +kernel), by decide +kernel⟩
theorem poWB : ParOk [("w", true), ("b", false)] := ⟨by decide, (fun p hp => by
  rcases List.mem_cons.mp hp with rfl | hp
  · decide +kernel
  · rw [List.mem_singleton.mp hp]; decide +kernel), by decide +kernel⟩
/-- parameters, at v -/
def ParV (K : PySem.W.Frag) (H : Hp) (v : V) : Prop := ∃ own, Dp K H v (parsD own) ∧ ParOk own
theorem ParV.tk {K : PySem.W.Frag} {H H' : Hp} {v : V} (e : TK H H') (p : ParV K H v) : ParV K H' v := by
  obtain ⟨own, h1, h2⟩ := p
  exact ⟨own, Dp.tk e (pars_noL _) h1, h2⟩
end FS
namespace FS
open PySem PySem.Spec PyProof.Rows L2
theorem TabV.getN {K : PySem.W.Frag} {H : Hp} {kvs : List (Key × V)} {tb : Tbl} (t : TabV K H kvs tb) {x : Str} (h : x ∉ tb.map (·.1)) : valV kvs (Sum.inr x) = none := by
  induction t with
  | nil => rfl
  | @cons y v own kvs tb hd po wd r ih =>
    have e : ¬ (Sum.inr y : Key) = Sum.inr x := fun z => h (by
      rw [← Sum.inr.inj z]
      exact List.mem_cons_self)
    rw [valV_neg e]
    exact ih fun z => h (List.mem_cons_of_mem _ z)
/-- the value of a name in a table, or another one -/
theorem TabAt.look {K : PySem.W.Frag} {H : Hp} {ta : Addr} {tb : Tbl} (t : TabAt K H ta tb) (x : Str) : ∃ o, DGet H ta (.str x) o ∧ ∀ z, ParV K H z → ParV K H (o.getD z) := by
  obtain ⟨kvs, e, tv, _⟩ := t
  by_cases h : x ∈ tb.map (·.1)
  · obtain ⟨v, own, hv, dp, po, -⟩ := tv.get h
    exact ⟨some v, hv ▸ DGet.k (k := Sum.inr x) e, fun z _ => ⟨own, dp, po⟩⟩
  · exact ⟨none, (tv.getN h) ▸ DGet.k (k := Sum.inr x) e, fun z p => p⟩
end FS

set_option Elab.async false
set_option linter.all false
set_option maxRecDepth 100000
set_option maxHeartbeats 4000000
/-! the elder programs -/
namespace FS
open PySem PySem.Spec PyProof.Rows L2 LamX StX ClX
theorem RowsG.ne {K : PySem.W.Frag} {H : Hp} {L : Addr} {rs : List Addr} {us : List RowU} (x : RowsG K H rs us) (n : H L = none) : ∀ r ∈ rs, r ≠ L := by
  induction x with
  | nil => exact fun r h => nomatch h
  | cons h _ ih =>
    intro r hr
    rcases List.mem_cons.mp hr with e | hr
    · obtain ⟨_, _, h1, _⟩ := h.ex
      rw [e]
      exact ne_of_none h1 n
    · exact ih r hr
theorem RowsG.set {K : PySem.W.Frag} {H : Hp} {L : Addr} {ys : List V} {o : HO} {rs : List Addr} {us : List RowU} (x : RowsG K H rs us) (e : H L = some (.lst ys)) (n : ∀ r ∈ rs, r ≠ L) : RowsG K (upd H L o) rs us := by
  induction x with
  | nil => exact .nil
  | cons h _ ih =>
    refine .cons ?_ (ih fun r hr => n r (List.mem_cons_of_mem _ hr))
    obtain ⟨⟨ov, bv, h1, h2, h3⟩, a, b, c, d, f, l⟩ := h
    exact ⟨⟨ov, bv, by rw [upd_ne (n _ List.mem_cons_self)]; exact h1, Dp.tk (TK.set e rfl) (pars_noL _) h2, Dp.tk (TK.set e rfl) (Tm.noL _) h3⟩, a, b, c, d, f, l⟩
theorem RLL.set {K : PySem.W.Frag} {H : Hp} {D L l : Addr} {ys : List V} {o : HO} {rs : List Addr} {us : List RowU} (x : RLL K D L H l rs us) (e : H L = some (.lst ys)) : RLL K D L (upd H L o) l rs us :=
  ⟨⟨by rw [upd_ne x.ne]; exact x.rl.at_, x.rl.ne, x.rl.rows.set e x.rows⟩, x.ne, x.rows⟩
theorem Prg.set {K : PySem.W.Frag} {CP C L : Addr} {H : Hp} {ys : List V} {o : HO} {a : Addr} {m : Int} {us : List RowU} (x : Prg K CP C L H a m us) (e : H L = some (.lst ys)) : Prg K CP C L (upd H L o) a m us := by
  obtain ⟨xs, ⟨dx, pv, dv, nv, wv, kvs, ns, ws, h1, h2, h3, h4, h5, h6, h7, h8, h9, h10, h11, h12⟩, ps⟩ := x
  have k : TK H (upd H L o) := TK.set e rfl
  have ps2 : PsAtD K C (upd H L o) L xs us := ps.kp .set k
  have n1 : a ≠ L := fun z => by
    rw [z, e] at h1
    cases h1
  have n2 : dv ≠ L := fun z => by
    rw [z, e] at h5
    cases h5
  exact ⟨xs, ⟨dx, pv, dv, nv, wv, kvs, ns, ws, by rw [upd_ne n1]; exact h1, k.sqT h2, ps2.ps, h4, by rw [upd_ne n2]; exact h5, h6, Dp.tk k (strs_noL _) h7, h8, Dp.tk k (strs_noL _) h9, h10, h11, h12⟩, ps2⟩
/-- a program and the plain one, apart from L -/
structure Cur (K : PySem.W.Frag) (CP C D L : Addr) (H : Hp) (a p : Addr) (m : Int) (rl : Addr) (rs : List Addr) (us : List RowU) : Prop where
  pr : Prg K CP C L H a m us
  at_ : H p = some (.lst [.int m, .ref rl])
  nD : p ≠ D
  nL : p ≠ L
  r : RLL K D L H rl rs us
  ok : canB (some m) (some us) = true
section
variable {K : PySem.W.Frag} {CP C D L : Addr} {H H' : Hp} {a p : Addr} {m : Int} {rl : Addr} {rs : List Addr} {us : List RowU}
theorem Cur.goN (d : Die H D) (g : GoN D H H') (x : Cur K CP C D L H a p m rl rs us) : Cur K CP C D L H' a p m rl rs us := ⟨x.pr.goN d g, g.1 _ _ x.nD x.at_ (fun ps z => nomatch z), x.nD, x.nL, x.r.goN d g, x.ok⟩
theorem Cur.same (s : Same H H') (x : Cur K CP C D L H a p m rl rs us) : Cur K CP C D L H' a p m rl rs us := ⟨x.pr.same s, s _ _ x.at_, x.nD, x.nL, x.r.same s, x.ok⟩
theorem Cur.set {ys : List V} {o : HO} (x : Cur K CP C D L H a p m rl rs us) (e : H L = some (.lst ys)) : Cur K CP C D L (upd H L o) a p m rl rs us := ⟨x.pr.set e, by rw [upd_ne x.nL]; exact x.at_, x.nD, x.nL, x.r.set e, x.ok⟩
end
structure Ent (K : PySem.W.Frag) (CP C D L : Addr) (H : Hp) (q : Addr) : Prop where
  ex : ∃ a p m rl rs us, H q = some (.lst [.ref a, .ref p]) ∧ q ≠ D ∧ q ≠ L ∧ Cur K CP C D L H a p m rl rs us
section
variable {K : PySem.W.Frag} {CP C D L : Addr} {H H' : Hp} {q : Addr}
theorem Ent.goN (d : Die H D) (g : GoN D H H') (x : Ent K CP C D L H q) : Ent K CP C D L H' q := by
  obtain ⟨a, p, m, rl, rs, us, h1, h2, h3, h4⟩ := x
  exact ⟨a, p, m, rl, rs, us, g.1 _ _ h2 h1 (fun ps z => nomatch z), h2, h3, h4.goN d g⟩
theorem Ent.same (s : Same H H') (x : Ent K CP C D L H q) : Ent K CP C D L H' q := by
  obtain ⟨a, p, m, rl, rs, us, h1, h2, h3, h4⟩ := x
  exact ⟨a, p, m, rl, rs, us, s _ _ h1, h2, h3, h4.same s⟩
theorem Ent.set {ys : List V} {o : HO} (x : Ent K CP C D L H q) (e : H L = some (.lst ys)) : Ent K CP C D L (upd H L o) q := by
  obtain ⟨a, p, m, rl, rs, us, h1, h2, h3, h4⟩ := x
  exact ⟨a, p, m, rl, rs, us, by rw [upd_ne h3]; exact h1, h2, h3, h4.set e⟩
end
/-- the list of the elder ones -/
structure Eld (K : PySem.W.Frag) (CP C D L : Addr) (H : Hp) (qs : List Addr) : Prop where
  at_ : H L = some (.lst (qs.map V.ref))
  all : ∀ q ∈ qs, Ent K CP C D L H q
section
variable {K : PySem.W.Frag} {CP C D L : Addr} {H H' : Hp} {qs : List Addr}
theorem Eld.goN (n : L ≠ D) (d : Die H D) (g : GoN D H H') (x : Eld K CP C D L H qs) : Eld K CP C D L H' qs := ⟨g.1 _ _ n x.at_ (fun ps z => nomatch z), fun q hq => (x.all q hq).goN d g⟩
theorem Eld.same (s : Same H H') (x : Eld K CP C D L H qs) : Eld K CP C D L H' qs := ⟨s _ _ x.at_, fun q hq => (x.all q hq).same s⟩
theorem Eld.put {q : Addr} (x : Eld K CP C D L H qs) (e : Ent K CP C D L H q) : Eld K CP C D L (upd H L (.lst (qs.map V.ref ++ [V.ref q]))) (qs ++ [q]) := ⟨by rw [upd_same, List.map_append]; rfl, fun z hz => by
  rcases List.mem_append.mp hz with h | h
  · exact (x.all z h).set x.at_
  · rw [List.mem_singleton.mp h]
    exact e.set x.at_⟩
end
theorem GoN.set {D L : Addr} {H H' : Hp} {o : HO} (g : GoN D H H') (n : H L = none) (nD : L ≠ D) : GoN D H (upd H' L o) := ⟨fun b u hb e t => by
  rw [upd_ne (ne_of_none e n)]
  exact g.1 b u hb e t, by
  obtain ⟨x, y, z, h⟩ := g.2
  exact ⟨x, y, z, by rw [upd_ne (Ne.symm nD)]; exact h⟩⟩
theorem PsAt.eq_self {K : PySem.W.Frag} {C : Addr} {H : Hp} {xs : List V} {us : List RowU} (x : PsAt K C H xs us) : rowsEq us us = true := by
  induction x with
  | nil => rfl
  | @cons a u xs us h k ih =>
    show (prEq u u && rowsEq us us) = true
    rw [prEq_self h.po h.good, ih]
    rfl
/-- no object of the one is among the others, which are new -/
theorem PsAt.apart {K : PySem.W.Frag} {C : Addr} {H : Hp} {xs ys : List V} {us vs : List RowU} (x : PsAt K C H xs us) (n : NewIn H ys) : Apart xs ys us vs := fun i a u v e1 e2 hu hv => by
  have n1 := n a (List.mem_of_getElem? e2)
  obtain ⟨b, w', eb, hw, pb⟩ := x.get e1
  cases eb
  obtain ⟨_, _, hb⟩ := pb.ins
  rw [n1] at hb
  cases hb
theorem PgX.ps {K : PySem.W.Frag} {CP C : Addr} {H : Hp} {a : Addr} {m : Int} {us : List RowU} {xs : List V} (p : PgX K CP C H a m us xs) : PsAt K C H xs us := by
  obtain ⟨_, _, _, _, _, _, _, _, _, _, h3, _⟩ := p
  exact h3
theorem eq_of_self {m : Int} {us : List RowU} (e : rowsEq us us = true) : (decide (m = m) && rowsEq us us) = true := by
  rw [decide_eq_true rfl, e]
  rfl
theorem flat_true (n : Nat) : (List.replicate n (V.bl true)).all flatV = true := List.all_eq_true.mpr fun v hv => by
  rw [(List.mem_replicate.mp hv).2]
  rfl
theorem inV_true (n : Nat) : inV (.bl false) (List.replicate n (V.bl true)) = false := by
  induction n with
  | zero => rfl
  | succ n ih =>
    show (eqV (V.bl true) (V.bl false) || inV (.bl false) (List.replicate n (V.bl true))) = false
    rw [ih]
    rfl
section
variable {X : Cx} {P : Program} {w : World} {K : PySem.W.Frag} {mg : Str → Option Value} {base : Heap} {CP C CI CO : Addr}
theorem op_eqPgK (G : PgM P w K mg base CP C CI) (h1 : X.prog = P) (h2 : X.w = w) (h3 : X.K = K) (h4 : X.mg = mg) (h5 : X.base = base) (hr : Room 3 X.A) : OpR X (compareOp .Eq) (rEqO K CP (spPgEq K CP C) E0 false) := by
  subst h1 h2 h3 h4 h5
  exact op_eqPg G hr
theorem op_nePg (G : PgW X.prog X.w X.K X.mg X.base CP C CI CO) (hr : Room 4 X.A) : OpR X (compareOp .NotEq) (rEqO X.K CP (spPgEq X.K CP C) E0 true) := by
  obtain ⟨f, fd, h1, h2, h3, h4⟩ := G.m.eq
  exact op_neOwn hr h1 h3 h4 h2 pass0 G.ne G.m.c.hm
end
end FS

set_option Elab.async false
set_option linter.all false
set_option maxRecDepth 100000
set_option maxHeartbeats 4000000
/-! the law's last rows: words and programs in a list -/
namespace FS
open PySem PySem.Spec PyProof.Rows L2 LamX StX ClX
/-- equal programs -/
def R6 (K : PySem.W.Frag) (CP C : Addr) (a b : Addr) (H : Hp) : Prop := ∃ m us us' xs ys, PgX K CP C H a m us xs ∧ PgX K CP C H b m us' ys ∧ Apart xs ys us us' ∧ rowsEq us us' = true
def D6 (K : PySem.W.Frag) (CP C : Addr) : Eqv := fun x y H => DFlat x y H ∨ DIns CP (R6 K CP C) x y H
theorem mon6 {K : PySem.W.Frag} {CP C : Addr} : Mon (D6 K CP C) := mon_flat.or (mon_ins fun a b H H' e r => by
  obtain ⟨m, us, us', xs, ys, h1, h2, h3, h4⟩ := r
  exact ⟨m, us, us', xs, ys, h1.same e, h2.same e, h3, h4⟩)
theorem eq6 {X : Cx} {CP C CI : Addr} (G : PgM X.prog X.w X.K X.mg X.base CP C CI) : EqG X 3 (D6 X.K CP C) := by
  obtain ⟨f, fd, h1, h2, h3, h4⟩ := G.eq
  refine (eqG_flat.mono (by decide)).or ?_
  refine eqG_ins (CX := CX0) (E := E0) (h1.imp fun vs H Q E h => ?_) h3 h4 h2 pass0
  obtain ⟨a, b, rfl, ⟨m, us, us', xs, ys, p1, p2, ap, e⟩, q⟩ := h
  refine ⟨a, .ref b, m, us, xs, rfl, p1, .inr ⟨b, m, us', ys, rfl, p2, ap, ?_⟩⟩
  rw [decide_eq_true rfl, e]
  exact q H Ext.rfl'
def tCl : Tm := .mk (.call "p") []
def tCq : Tm := .mk (.call "q") []
theorem gCl : Good [] tCl := .mk (by decide +kernel) (by rfl) (fun t h => nomatch h)
theorem gCq : Good [] tCq := .mk (by decide +kernel) (by rfl) (fun t h => nomatch h)
def usQ : List RowU := [("main", [], tCl), ("p", [], tS)]
def rowS : RowU := ("main", [], tS)
def rowC : RowU := ("main", [], tCq)
theorem cQ0 : canB (some 1) (some usQ) = true := by decide +kernel
theorem cQ1 : canB (some 1) (some (outU usQ "p")) = false := by decide +kernel
theorem cQ2 : canB (some 1) (some (outU usQ "main")) = false := by decide +kernel
theorem cQ3 : canB (some 1) (some (putU usQ rowS)) = true := by decide +kernel
theorem cQ4 : canB (some 1) (some (outU (putU usQ rowS) "p")) = true := by decide +kernel
theorem cQ6 : canB (some 1) (some (putU usQ rowC)) = false := by decide +kernel
theorem cQ7 : canB (some 1) (some [rowS]) = true := by decide +kernel
theorem eQ : rowsEq (outU (putU usQ rowS) "p") [rowS] = true := by decide +kernel
theorem inQ1 : ("p" : Str) ∈ usQ.map (·.1) := List.mem_cons_of_mem _ List.mem_cons_self
theorem inQ2 : ("main" : Str) ∈ usQ.map (·.1) := List.mem_cons_self
theorem inQ3 : ("p" : Str) ∈ (putU usQ rowS).map (·.1) := by decide +kernel
/-- what stands while the last rows are told -/
structure Told6 (K : PySem.W.Frag) (CP C : Addr) (TS : List (Addr × Str)) (H : Hp) (pr pl : Addr) (vs : List V) : Prop where
  pr : Prg K CP C pl H pr 1 usQ
  list : H pl = some (.lst vs)
  tabs : Tabs TS H
theorem PsAtD.ext {K : PySem.W.Frag} {C : Addr} {H H' : Hp} {L : Addr} {xs : List V} {us : List RowU} (e : ExtN H H') (x : PsAtD K C H L xs us) : PsAtD K C H' L xs us := by
  induction x with
  | nil => exact .nil
  | cons h _ ih => exact .cons (h.ext e) ih
theorem PgX.ext {K : PySem.W.Frag} {CP C : Addr} {H H' : Hp} {a : Addr} {m : Int} {us : List RowU} {xs : List V} (e : ExtN H H') (p : PgX K CP C H a m us xs) (q : PsAt K C H' xs us) : PgX K CP C H' a m us xs := by
  obtain ⟨dx, pv, dv, nv, wv, kvs, ns, ws, h1, h2, h3, h4, h5, h6, h7, h8, h9, h10, h11, h12⟩ := p
  have k := extN_tk e
  exact ⟨dx, pv, dv, nv, wv, kvs, ns, ws, e _ _ h1 (fun ps z => nomatch z), k.sqT h2, q, h4, e _ _ h5 (fun ps z => nomatch z), h6, Dp.tk k (strs_noL _) h7, h8, Dp.tk k (strs_noL _) h9, h10, h11, h12⟩
theorem Prg.ext {K : PySem.W.Frag} {CP C L : Addr} {H H' : Hp} {a : Addr} {m : Int} {us : List RowU} (e : ExtN H H') (p : Prg K CP C L H a m us) : Prg K CP C L H' a m us := by
  obtain ⟨xs, h1, h2⟩ := p
  exact ⟨xs, h1.ext e (h2.ext e).ps, h2.ext e⟩
section
variable {K : PySem.W.Frag} {CP C : Addr} {TS : List (Addr × Str)} {H H' : Hp} {pr pl : Addr} {vs : List V}
theorem Told6.same (t : Told6 K CP C TS H pr pl vs) (s : Same H H') : Told6 K CP C TS H' pr pl vs := ⟨t.pr.same s, s _ _ t.list, Tabs.same t.tabs s⟩
theorem Told6.ext (t : Told6 K CP C TS H pr pl vs) (e : ExtN H H') (tt : Tabs TS H') : Told6 K CP C TS H' pr pl vs := ⟨t.pr.ext e, e _ _ t.list (fun ps z => nomatch z), tt⟩
theorem Told6.put (t : Told6 K CP C TS H pr pl vs) (v : V) : Told6 K CP C TS (upd H pl (.lst (vs ++ [v]))) pr pl (vs ++ [v]) := ⟨t.pr.set t.list, upd_same, Tabs.put t.tabs t.list⟩
theorem Told6.start {xs : List V} {v : V} (p : PgX K CP C H pr 1 usQ xs) (t : Tabs TS H) (n : H pl = none) : Told6 K CP C TS (upd H pl (.lst [v])) pr pl [v] :=
  ⟨⟨xs, p.same (same_upd n), (p.ps.atD n).kp .set (.of (same_upd n))⟩, upd_same, Tabs.same t (same_upd n)⟩
end
/-- without a name: refused -/
theorem out_goes {K : PySem.W.Frag} {CP C CO L : Addr} {H : Hp} {a : Addr} {m : Int} {us : List RowU} {nm : Str} {Q : VK} {E : XK} (p : Prg K CP C L H a m us) (hin : nm ∈ us.map (·.1)) (c : canB (some m) (some (outU us nm)) = false) (q : ∀ H', Same H H' → E (.ref CO) none H') : spWithout K CP C CO [.ref a, .str nm] H Q E := by
  obtain ⟨xs, h1, h2⟩ := p
  exact ⟨L, a, m, us, xs, nm, rfl, h1, h2, hin, fun c2 => absurd c2 (by rw [c]; exact Bool.false_ne_true), fun _ H' s => q H' s⟩
end FS

set_option Elab.async false
set_option linter.all false
set_option maxRecDepth 100000
set_option maxHeartbeats 4000000
/-! a lambda handed on: two errors are told by a word each -/
namespace FS
open PySem PySem.Spec PyProof.Rows L2 LamX
/-- what is returned, or the word of the error -/
def TMet2 (K : PySem.W.Frag) (CI CO : Addr) : (XK → Hp → VK → Prop) → Hp → VK → Prop := fun tl H Q =>
  tl (fun cls _ H1 => ∃ b, PySem.W.exmOne K cls (.ref CI) = some b ∧ (b = true → Q (.str "program") H1) ∧ (b = false → PySem.W.exmOne K cls (.ref CO) = some true ∧ Q (.str "operation") H1)) H Q
theorem met_body2 {X : Cx} {Ng : List Str} {x a e e2 q : Str} {sg : Scope} {g CI CO : Addr} {cdg : Value} {j j2 : Nat} {p1 p2 p3 p4 p5 p6 p7 p8 r4 r5 r6 r7 : Pos}
    (globalE : sg.names.lookup e = some .globalImplicit) (atE : X.mg e = some (.ref CI)) (notDebug : (e == ("__debug__" : Str)) = false)
    (globalE2 : sg.names.lookup e2 = some .globalImplicit) (atE2 : X.mg e2 = some (.ref CO)) (notDebug2 : (e2 == ("__debug__" : Str)) = false)
    (slot0 : ∀ b : Addr, (L2.start Ng [V.ref b])[0]? = some (some (V.ref b))) :
    GivesTo X Ng x sg g cdg
      [.Try [.Return (some (.Call (.Name a p1) [] [] p2)) p3]
        [.ExceptHandler (some (.Name e p4)) none [.Return (some (.Constant (.str "program") j p5)) p6] p7, .ExceptHandler (some (.Name e2 r4)) none [.Return (some (.Constant (.str "operation") j2 r5)) r6] r7] [] [] p8]
      a q (TMet2 X.K CI CO) := by
  intro b c1 s H Q tl called code told
  let Y : Cx := (cxOf C8.CX0 X.prog X.w X.K X.mg X.base Ng x sg g cdg X.A X.stack s H C8.E0).nox
  have inG : Gl Y e := globalE
  have inG2 : Gl Y e2 := globalE2
  let wish : XK := fun cls _ H1 => ∃ b, PySem.W.exmOne X.K cls (.ref CI) = some b ∧ (b = true → Q (.str "program") H1) ∧ (b = false → PySem.W.exmOne X.K cls (.ref CO) = some true ∧ Q (.str "operation") H1)
  refine ⟨_, pss_one (ps_try_many (X := Y)
    (tb := fun W D σ H1 => ∃ Z : XK, (∀ cls d σ1 H2, Z cls d H2 → W cls d σ1 H2) ∧ σ[0]? = some (some (.ref b)) ∧ H1 c1 = some (CodeO c1 q) ∧ tl Z H1 D.rt)
    rfl rfl LamX.takes0 ?inTry (.cons (c := .ref CI) ⟨inG, notDebug, .inl atE⟩ (fun _ _ _ _ _ _ _ => pss_one (ps_ret pe_str)) (.cons (c := .ref CO) ⟨inG2, notDebug2, .inl atE2⟩ (fun _ _ _ _ _ _ _ => pss_one (ps_ret pe_str)) .nil))), ?told⟩
  case inTry =>
    intro W pn xe takes _
    refine ⟨fun pins s1 σ H1 D I hz => ?_⟩
    obtain ⟨Z, up, z1, z2, z3⟩ := hz
    exact (pss_one (ps_ret (pos := p3) (called W pn xe Z p1 p2 takes up))).run pins s1 σ H1 D I ⟨z1, z2, z3⟩
  case told =>
    refine ⟨wish, ?_, slot0 b, code, told⟩
    intro cls d σ1 H2 hw
    obtain ⟨b, e1, h1, h2⟩ := hw
    exact ⟨b, e1, fun hb _ _ => h1 hb, fun hb => ⟨true, (h2 hb).1, fun _ _ _ => (h2 hb).2, fun z => nomatch z⟩⟩
/-- the law's def that calls what it is handed -/
structure MetG2 (K : PySem.W.Frag) (mg : Str → Option Value) : Prop where
  ex : ∃ (g : Addr) (oc : Value) (od : Option Addr) (kV doc pm : Value) (an : Option Addr) (cdv ct : Value) (osl : Array (Option Value)),
    mg "_law_met" = some (.ref g) ∧ PySem.W.keepIn K (.ref g) = true ∧
    K.lookup g = some ⟨oc, od, .func (PySem.W.fnOf "_law_met" "_law_met" (defArgs s_law_met) (defBody s_law_met) (defScope s_law_met) .none kV doc pm an cdv ct), osl⟩ ∧ PySem.W.codeIn K cdv "_law_met" = true ∧
    L2.Binds K (PySem.W.fnOf "_law_met" "_law_met" (defArgs s_law_met) (defBody s_law_met) (defScope s_law_met) .none kV doc pm an cdv ct) ["_law_call"] []
/-- the error of what cannot be done -/
structure BadO (K : PySem.W.Frag) (mg : Str → Option Value) (CI CO : Addr) : Prop where
  gO : mg "InvalidOperation" = some (.ref CO)
  kO : PySem.W.keepIn K (.ref CO) = true
  xO : PySem.W.excIn K CO [.type "ValueError", .type "Exception", .type "BaseException", .type "object"] "ValueError.__new__" = true
  bO : PySem.W.subIn K (.ref CO) (.type "BaseException") = some true
  tO : PySem.W.typeIn K (.ref CO) = some (.type "type")
  eO : PySem.W.exmOne K (.ref CO) (.ref CO) = some true
  nO : PySem.W.exmOne K (.ref CO) (.ref CI) = some false
theorem pe_met2 {X : Cx} {CI CO c Pt : Addr} {k : Nat} {T : List (Addr × Str)} {params : Arguments} {body : Expr} {scope : Scope} {t : XK → TE} {p lpos pos : Pos}
    (M : MetG2 X.K X.mg) (B : Bad X.K X.mg CI) (BO : BadO X.K X.mg CI CO) (hg : Gl X "_law_met") (TB : TabB X.base X.mg c Pt) (hcode : X.env.code = .ref c)
    (hmT : (Pt, X.env.qual ++ "<lambda>") ∈ T) (hu : ∀ p ∈ T, p.1 = Pt → p.2 = X.env.qual ++ "<lambda>") (hr : Room (k + 2) X.A) (L : LamS X.env.scope scope) (hdef : defaultsOf params X.env = ([], []))
    (hbind : ∀ (q : Str) (cl : List (Str × Addr)) (pm cv ctv : Value), bindArgs (PySem.W.kla_fn "<lambda>" q params body scope cl pm cv ctv) ⟨[], []⟩ = pure [])
    (hbody : ∀ (A : Around) (outer : List Env) (s : Shared) (H : Hp) (E : XK) (f c1 : Addr), Room k (A.deeper (lamEnv X scope s.heap.objs.size f c1)) → PE (lamCx X A outer s H E scope f c1) body (t E)) :
    PE X (.Call (.Name "_law_met" p) [.Lambda params body scope lpos] [] pos) (tLam T (TMet2 X.K CI CO) t) := by
  obtain ⟨g, oc, od, kV, doc, pm, an, cdv, ct, osl, m1, m2, m3, m4, m5⟩ := M.ex
  exact pe_lamcall hg m1 m2 m3 m4 m5 sc_law_met rfl (.inl rfl) (met_body2 rfl B.gI (by decide +kernel) rfl BO.gO (by decide +kernel) (fun _ => rfl)) TB hcode hmT hu hr L hdef hbind hbody
end FS

set_option Elab.async false
set_option linter.all false
set_option maxRecDepth 100000
set_option maxHeartbeats 4000000
namespace FS
open PySem PySem.Spec PyProof.Rows L2
section
variable {P : Program} {w : World} {K : PySem.W.Frag} {mg : Str → Option Value} {base : Heap}
abbrev Nlaw : List Str := ["_law_script", "_law_at", "_law_die", "_law_main", "_law_lone", "_law_program", "_law_told"]
theorem sclaw : FnScope Nlaw ["_law_script"] (defScope slaw) := ⟨rfl, rfl, rfl, by decide +kernel, rfl, by decide +kernel, by decide +kernel⟩
theorem ok_law {f cF : Addr} {fd : FuncData} (F : FunC K "law" "law" slaw f fd cF) (T : Nm K mg) {CP C CI CO PL : Addr} {TS : List (Addr × Str)} (TB : LamX.TabB base mg cF PL) (hmT : (PL, lamQ "law") ∈ TS) (hu : ∀ p ∈ TS, p.1 = PL → p.2 = lamQ "law") (MG : MetG2 K mg) (B : Bad K mg CI) (BO : BadO K mg CI CO) (PG : PgW P w K mg base CP C CI CO) (G : PrG P w K mg base C) (Cl_numbers : Cal P w K mg base 1 "_law_numbers" ["_law_script", "_law_at"] (spNumbers K)) (Cl_right : Cal P w K mg base 17 "_law_right" ["_law_die"] (spRightX TS)) : FnOk P w K mg base CX0 18 f fd ["_law_script"] (spLawT K TS) := by
  have nd := sclaw.nd
  refine F.ok sclaw (fun vs H Q E h => ?_) (fun A outer s H vs Q E hr h => ?_)
  · obtain ⟨a, ns, rfl, sq, hlen, tT, q⟩ := h
    rfl
  · obtain ⟨a, ns, rfl, sq, hlen, tT, q⟩ := h
    obtain ⟨fw, fdw, Fw, bw, mw⟩ := PG.wp
    obtain ⟨fo, fdo, Fo, bo, mo⟩ := PG.wo
    obtain ⟨fI, FI, MI⟩ := PG.m.init
    refine ⟨_, (pss_cons (ps_for PassesOwn.never rfl (pi_range1 rfl T.b_range (pa_cons (pe_callB (call_max2 rfl) (by rfl) T.b_max (by decide +kernel) (pa_cons pe_int (pa_cons (pe_callB (call_min2 rfl) (by rfl) T.b_min (by decide +kernel) (pa_cons pe_int (pa_cons (pe_callB call_len (by rfl) T.b_len PySem.boot_len (pa_cons (pv 0) pa_nil)) pa_nil))) pa_nil))) pa_nil)) (pg_name (i := 1) nd rfl (Or.inl rfl))
  (pss_cons (ps_set (i := 2) nd rfl (Or.inl rfl) (pe_own Cl_numbers (hr.mono (by decide)) (by rfl) (pa_cons (pv 0) (pa_cons (pv 1) pa_nil))))
  (pss_one (ps_if (PW.pt (pw_or (pt_not (pt_val (pe_own Cl_right (hr.mono (by decide)) (by rfl) (pa_cons (pv 2) pa_nil)))) (pw_or1 (pt_not (pt_val (pe_own Cl_right (hr.mono (by decide)) (by rfl) (pa_cons (pv 2) pa_nil)))))))
  (pss_one (ps_ret pe_bl))
  pss_nil))))
  (pss_cons (ps_par (i := 3) (j := 4) (by rfl) nd rfl rfl (by decide) rfl rfl (pa_cons (pe_mkP G (hr.mono (by decide)) (by rfl) (pa_cons pe_str (pa_cons (pe_tup pa_nil) (pa_cons (pe_tup (pa_cons pe_str (pa_cons pe_str pa_nil))) pa_nil)))) (pa_cons (pe_mkP G (hr.mono (by decide)) (by rfl) (pa_cons pe_str (pa_cons (pe_tup pa_nil) (pa_cons (pe_tup (pa_cons pe_str pa_nil)) pa_nil)))) pa_nil)) (by rfl))
  (pss_cons (ps_set (i := 5) nd rfl (Or.inr rfl) (StX.pe_makeR (k := 10) MI FI (hr.mono (by decide)) (by rfl) PG.m.c.gC passL (pa_cons pe_int (pa_cons (pv 3) (pa_cons (pv 4) pa_nil)))))
  (pss_cons (ps_set (i := 6) nd rfl (Or.inl rfl) (pe_lst (pa_cons (pe_met2 (k := 13) MG B BO (by rfl) TB rfl hmT hu (hr.mono (by decide)) (LamX.lamS_by (sc := defScope slaw) (by decide +kernel)) rfl (fun _ _ _ _ _ => rfl) (fun A2 outer2 s2 H2 E2 f2 c2 hr2 => (pe_meth (pv 5) PG.m.c.cl mo Fo (hr2.mono (by decide)) bo .nil lam_lets (pa_cons pe_str pa_nil)))) pa_nil)))
  (pss_cons (ps_expr (pe_bm PySem.F.plainAttrs_list PySem.F.slot_list_append PySem.F.type_list_append mt_append (pv 6) (pa_cons (pe_met2 (k := 13) MG B BO (by rfl) TB rfl hmT hu (hr.mono (by decide)) (LamX.lamS_by (sc := defScope slaw) (by decide +kernel)) rfl (fun _ _ _ _ _ => rfl) (fun A2 outer2 s2 H2 E2 f2 c2 hr2 => (pe_meth (pv 5) PG.m.c.cl mo Fo (hr2.mono (by decide)) bo .nil lam_lets (pa_cons pe_str pa_nil)))) pa_nil)))
  (pss_cons (ps_expr (pe_bm PySem.F.plainAttrs_list PySem.F.slot_list_append PySem.F.type_list_append mt_append (pv 6) (pa_cons (pe_met2 (k := 13) MG B BO (by rfl) TB rfl hmT hu (hr.mono (by decide)) (LamX.lamS_by (sc := defScope slaw) (by decide +kernel)) rfl (fun _ _ _ _ _ => rfl) (fun A2 outer2 s2 H2 E2 f2 c2 hr2 => (pe_meth (pe_meth (pv 5) PG.m.c.cl mw Fw (hr2.mono (by decide)) bw .nil lam_lets (pa_cons (pe_mkPK G rfl rfl rfl rfl rfl (by first | exact hr2.mono (by decide) | exact hr.mono (by decide)) (by rfl) (pa_cons pe_str (pa_cons (pe_tup pa_nil) (pa_cons (pe_tup (pa_cons pe_str pa_nil)) pa_nil)))) pa_nil)) PG.m.c.cl mo Fo (hr2.mono (by decide)) bo .nil lam_lets (pa_cons pe_str pa_nil)))) pa_nil)))
  (pss_cons (ps_expr (pe_bm PySem.F.plainAttrs_list PySem.F.slot_list_append PySem.F.type_list_append mt_append (pv 6) (pa_cons (pe_met2 (k := 13) MG B BO (by rfl) TB rfl hmT hu (hr.mono (by decide)) (LamX.lamS_by (sc := defScope slaw) (by decide +kernel)) rfl (fun _ _ _ _ _ => rfl) (fun A2 outer2 s2 H2 E2 f2 c2 hr2 => (pe_meth (pv 5) PG.m.c.cl mw Fw (hr2.mono (by decide)) bw .nil lam_lets (pa_cons (pe_mkPK G rfl rfl rfl rfl rfl (hr2.mono (by decide)) (by rfl) (pa_cons pe_str (pa_cons (pe_tup pa_nil) (pa_cons (pe_tup (pa_cons pe_str (pa_cons pe_str pa_nil))) pa_nil)))) pa_nil)))) pa_nil)))
  (pss_one (ps_ret (pe_cmpR (op_eqG (rcG_list mon6 (eq6 PG.m)) (hr.mono (by decide))) (pv 6) (pe_op op_cat (pe_op op_rep (pe_lst (pa_cons pe_str pa_nil)) pe_int) (pe_lst (pa_cons (StX.pe_makeR (k := 10) MI FI (hr.mono (by decide)) (by rfl) PG.m.c.gC passL (pa_cons pe_int (pa_cons (pe_mkPK G rfl rfl rfl rfl rfl (by first | exact hr2.mono (by decide) | exact hr.mono (by decide)) (by rfl) (pa_cons pe_str (pa_cons (pe_tup pa_nil) (pa_cons (pe_tup (pa_cons pe_str pa_nil)) pa_nil)))) pa_nil))) (pa_cons pe_str pa_nil)))) (nomark _))))))))))), ?_⟩

    refine ⟨_, rfl, _, _, rfl, .inl ⟨_, sq, rfl⟩, _, _, rfl, _, _, rfl, ?_⟩
    have hl : (ns.map V.int).length = ns.length := List.length_map _
    rw [hl]
    obtain ⟨m, em, hm⟩ : ∃ m : Nat, (if (if ((ns.length : Nat) : Int) < 5 then ((ns.length : Nat) : Int) else 5) > 1 then (if ((ns.length : Nat) : Int) < 5 then ((ns.length : Nat) : Int) else 5) else 1) = (m : Int) ∧ m ≤ 5 := by
      refine ⟨(if (if ((ns.length : Nat) : Int) < 5 then ((ns.length : Nat) : Int) else 5) > 1 then (if ((ns.length : Nat) : Int) < 5 then ((ns.length : Nat) : Int) else 5) else 1).toNat, ?_, ?_⟩ <;> (split <;> split <;> omega)
    rw [em]
    refine ⟨_, rfl, by omega, by omega, for_range (lo := 0) (n := m) (fun i σ H' => (∃ y1 y2, σ = [some (.ref a), y1, y2, none, none, none, none]) ∧ LamX.ExtN H H' ∧ LamX.Tabs TS H') ⟨⟨_, _, rfl⟩, .refl H, tT⟩ (fun i σ H1 hi hp => ?_) (fun σ H1 hp => ?_)⟩
    · obtain ⟨⟨y1, y2, rfl⟩, x1, t1⟩ := hp
      have ei : (0 : Int) + (i : Int) = (i : Int) := by omega
      rw [ei]
      refine ⟨_, rfl, _, rfl, a, ns, i, rfl, extN_seq x1 sq, by omega, fun H2 p s2 np dp => ?_⟩
      refine ⟨_, rfl, p, rfl, dp, Tabs.same t1 s2, fun H3 g3 t3 => ⟨_, rfl, iteF ?_⟩⟩
      refine ⟨_, rfl, p, rfl, g3.2, t3, fun H4 g4 t4 => ⟨_, rfl, iteF ?_⟩⟩
      exact ⟨⟨_, _, rfl⟩, x1.trans fun b o e n => (g3.trans g4).1 b o (ne_of_none e np) (s2 b o e) n, t4⟩
    · obtain ⟨⟨y1, y2, rfl⟩, x1, t1⟩ := hp
      clear em hm hl x1 sq
      refine ⟨Nat.zero_le _, fun p0 np0 => ?_⟩
      have sp0 := same_upd (o := .tup []) np0
      have ep0 : upd H1 p0 (.tup []) p0 = some (.tup []) := upd_same
      generalize upd H1 p0 (.tup []) = J6 at sp0 ep0 ⊢
      refine ⟨by show 2 ≤ sizeLine; decide, fun p1 np1 => ?_⟩
      have sp1 := same_upd (o := .tup [V.str "call", V.str "p"]) np1
      have ep1 : upd J6 p1 (.tup [V.str "call", V.str "p"]) p1 = some (.tup [V.str "call", V.str "p"]) := upd_same
      replace ep0 := sp1 _ _ ep0
      generalize upd J6 p1 (.tup [V.str "call", V.str "p"]) = J7 at sp1 ep1 ep0 ⊢
      intro pm dx nx nd' ne
      have sm := made_same (C := C) nx nd'
      refine ⟨pm, dx, "main", .ref p0, .ref p1, [], tCl, rfl, upd_same, by decide +kernel, Dp.tk (.of sm) (pars_noL _) (.tup (.inl (.inl ep0)) .nil), Dp.tk (.of sm) tCl.noL (.tup (.inl (.inl ep1)) (.cons (.str _) (.cons (.str _) .nil))), poN, gCl, rfl, by decide, by decide, fun J8 pa kp fr => ⟨rfl, ?_⟩⟩
      have sM : Same J7 J8 := Same.made nx nd' fun b o e n => kp b o n e
      have pL := fr p0 _ (sm _ _ ep0) (ne_of_none ep0 nx)
      clear kp fr sm nd' ne
      have eZ := sM _ _ ep0
      have tA := Tabs.same t1 (sp0.trans (sp1.trans sM))
      have pA := pa
      have pLA := pL
      clear sp0 sp1 sM ep1 np0 np1 t1 pa pL ep0 nx
      refine ⟨Nat.zero_le _, fun p2 np2 => ?_⟩
      have sp2 := same_upd (o := .tup []) np2
      have ep2 : upd J8 p2 (.tup []) p2 = some (.tup []) := upd_same
      replace eZ := sp2 _ _ eZ
      generalize upd J8 p2 (.tup []) = J9 at sp2 ep2 eZ ⊢
      refine ⟨by show 1 ≤ sizeLine; decide, fun p3 np3 => ?_⟩
      have sp3 := same_upd (o := .tup [V.str "seq"]) np3
      have ep3 : upd J9 p3 (.tup [V.str "seq"]) p3 = some (.tup [V.str "seq"]) := upd_same
      replace ep2 := sp3 _ _ ep2
      replace eZ := sp3 _ _ eZ
      generalize upd J9 p3 (.tup [V.str "seq"]) = J10 at sp3 ep3 ep2 eZ ⊢
      intro pn dx nx nd' ne
      have sm := made_same (C := C) nx nd'
      refine ⟨pn, dx, "p", .ref p2, .ref p3, [], tS, rfl, upd_same, by decide +kernel, Dp.tk (.of sm) (pars_noL _) (.tup (.inl (.inl ep2)) .nil), Dp.tk (.of sm) tS.noL (.tup (.inl (.inl ep3)) (.cons (.str _) .nil)), poN, gS _, rfl, by decide, by decide, fun J11 pa kp fr => ⟨rfl, ?_⟩⟩
      have sM : Same J10 J11 := Same.made nx nd' fun b o e n => kp b o n e
      have pL := fr p0 _ (sm _ _ eZ) (ne_of_none eZ nx)
      clear kp fr sm nd' ne
      have s23 := sp2.trans (sp3.trans sM)
      have tB := Tabs.same tA s23
      have pA2 := pA.same s23
      have pLA2 := pLA.same s23
      have pB := pa
      have pLB := pL
      clear sp2 sp3 sM s23 ep2 ep3 np2 np3 tA pA pLA pa pL eZ nx
      refine ⟨_, _, rfl, ?_⟩
      refine ⟨_, rfl, _, rfl, ?_⟩
      intro pr dx nx nd' ne
      have sm := made_same (C := CP) nx nd'
      refine ⟨pr, dx, 0, .int 1, some 1, [.ref pm, .ref pn], some usQ, rfl, upd_same, .int 1, .ps (PsAt.same (.two pA2 pB) sm), Nat.le_of_ble_eq_true rfl, fun i us e1 e2 c J12 pg kp => ⟨rfl, ?_⟩, fun c => absurd cQ0 (by rw [c]; exact Bool.false_ne_true)⟩
      cases e1; cases e2
      have sM : Same J11 J12 := Same.made nx nd' fun b o e n => kp b o n e
      have tC := Tabs.same tB sM
      have dC : PsAtD K C J12 p0 [.ref pm, .ref pn] usQ := PsAtD.same (.cons (u := ("main", [], tCl)) pLA2 (.cons (u := ("p", [], tS)) pLB .nil)) sM
      clear sM sm nx nd' ne kp c tB pA2 pB pLA2 pLB dx
      refine ⟨tC, fun J13 eN tD => ?_⟩
      have PR : Prg K CP C p0 J13 pr 1 usQ := Prg.ext eN ⟨_, pg, dC⟩
      clear pg dC tC eN
      obtain ⟨xs0, pg0, ps0⟩ := id PR
      obtain ⟨dx, pv', dv, nv, wv, hb, hi⟩ := pg0.insF
      refine ⟨_, rfl, pr, dx, _, rfl, hi, gn1, ?_⟩
      refine ⟨p0, pr, 1, usQ, xs0, "p", rfl, pg0, ps0, inQ1, fun c => absurd c (by rw [cQ1]; exact Bool.false_ne_true), fun _ J14 s7 => ?_⟩
      refine ⟨false, BO.nO, fun z => (nomatch z), fun _ => ⟨BO.eO, ?_⟩⟩
      replace pg0 := pg0.same s7
      replace tD := Tabs.same tD s7
      clear PR s7 hi ps0
      refine ⟨by show 1 ≤ sizeLine; decide, fun pl npl => ?_⟩
      have W := Told6.start (v := V.str "operation") pg0 tD npl
      generalize upd J14 pl (.lst [V.str "operation"]) = J15 at W ⊢
      clear pg0 tD npl
      refine ⟨_, rfl, .inl ⟨rfl, _, .inl (.inl W.list)⟩, ?_⟩
      refine ⟨W.tabs, fun J16 eN tt => ?_⟩
      replace W := W.ext eN tt
      clear eN tt
      obtain ⟨xs0, pg0, ps0⟩ := id W.pr
      obtain ⟨dx, pv', dv, nv, wv, hb, hi⟩ := pg0.insF
      refine ⟨_, rfl, pr, dx, _, rfl, hi, gn1, ?_⟩
      refine ⟨pl, pr, 1, usQ, xs0, "main", rfl, pg0, ps0, inQ2, fun c => absurd c (by rw [cQ2]; exact Bool.false_ne_true), fun _ J17 s7 => ?_⟩
      refine ⟨false, BO.nO, fun z => (nomatch z), fun _ => ⟨BO.eO, ?_⟩⟩
      replace W := W.same s7
      clear s7 hi pg0 ps0
      refine ⟨pl, _, _, rfl, rfl, W.list, Nat.lt_of_lt_of_le (show _ < 1000 from Nat.le_of_ble_eq_true rfl) (by decide), ?_⟩
      replace W := W.put (V.str "operation")
      generalize upd J17 pl _ = J18 at W ⊢
      refine ⟨_, rfl, .inl ⟨rfl, _, .inl (.inl W.list)⟩, ?_⟩
      refine ⟨W.tabs, fun J19 eN tt => ?_⟩
      replace W := W.ext eN tt
      clear eN tt
      obtain ⟨xs0, pg0, ps0⟩ := id W.pr
      obtain ⟨dx, pv', dv, nv, wv, hb, hi⟩ := pg0.insF
      refine ⟨_, rfl, pr, dx, _, rfl, hi, gn2, ?_⟩
      clear hi pg0 ps0
      refine ⟨Nat.zero_le _, fun q1 nq1 => ?_⟩
      have sq1 := same_upd (o := .tup []) nq1
      have eq1 : upd J19 q1 (.tup []) q1 = some (.tup []) := upd_same
      generalize upd J19 q1 (.tup []) = J20 at sq1 eq1 ⊢
      replace W := W.same sq1
      refine ⟨by show 1 ≤ sizeLine; decide, fun q2 nq2 => ?_⟩
      have sq2 := same_upd (o := .tup [V.str "seq"]) nq2
      have eq2 : upd J20 q2 (.tup [V.str "seq"]) q2 = some (.tup [V.str "seq"]) := upd_same
      replace eq1 := sq2 _ _ eq1
      generalize upd J20 q2 (.tup [V.str "seq"]) = J21 at sq2 eq2 eq1 ⊢
      replace W := W.same sq2
      intro px dx nx nd' ne
      have sm := made_same (C := C) nx nd'
      refine ⟨px, dx, "main", .ref q1, .ref q2, [], tS, rfl, upd_same, by decide +kernel, Dp.tk (.of sm) (pars_noL _) (.tup (.inl (.inl eq1)) .nil), Dp.tk (.of sm) tS.noL (.tup (.inl (.inl eq2)) (.cons (.str _) .nil)), poN, gS _, rfl, by decide, by decide, fun J22 pa kp fr => ⟨rfl, ?_⟩⟩
      have sM : Same J21 J22 := Same.made nx nd' fun b o e n => kp b o n e
      have pL := fr pl _ (sm _ _ W.list) (ne_of_none W.list nx)
      clear kp fr sm nd' ne
      replace W := W.same sM
      clear sM sq1 eq1 nq1 sq2 eq2 nq2 pa nx
      obtain ⟨xs1, pg1, ps1⟩ := id W.pr
      refine ⟨pl, pr, px, 1, usQ, xs1, rowS, rfl, pg1, ps1, pL, fun c J23 b1 ys1 s7 nb pb psb => ?_, fun c => absurd cQ3 (by rw [c]; exact Bool.false_ne_true)⟩
      replace W := W.same s7
      clear s7 nb pL pg1 ps1 c
      obtain ⟨dx, pv', dv, nv, wv, hb, hi⟩ := pb.insF
      refine ⟨b1, dx, _, rfl, hi, gn1, ?_⟩
      refine ⟨pl, b1, 1, putU usQ rowS, ys1, "p", rfl, pb, psb, inQ3, fun c J24 b2 zs s7 nb2 pb2 psb2 => ?_, fun c => absurd cQ4 (by rw [c]; exact Bool.false_ne_true)⟩
      replace W := W.same s7
      have PB : Prg K CP C pl J24 b2 1 (outU (putU usQ rowS) "p") := ⟨zs, pb2, psb2⟩
      clear s7 nb2 pb2 psb2 pb psb c hi
      replace PB := PB.set (o := .lst ([V.str "operation"] ++ [V.str "operation"] ++ [V.ref b2])) W.list
      refine ⟨pl, _, _, rfl, rfl, W.list, Nat.lt_of_lt_of_le (show _ < 1000 from Nat.le_of_ble_eq_true rfl) (by decide), ?_⟩
      replace W := W.put (V.ref b2)
      generalize upd J24 pl _ = J25 at W PB ⊢
      refine ⟨_, rfl, .inl ⟨rfl, _, .inl (.inl W.list)⟩, ?_⟩
      refine ⟨W.tabs, fun J26 eN tt => ?_⟩
      replace W := W.ext eN tt
      replace PB := Prg.ext eN PB
      clear eN tt
      obtain ⟨xs0, pg0, ps0⟩ := id W.pr
      obtain ⟨dx, pv', dv, nv, wv, hb, hi⟩ := pg0.insF
      refine ⟨_, rfl, pr, dx, _, rfl, hi, gn2, ?_⟩
      clear hi pg0 ps0
      refine ⟨Nat.zero_le _, fun q1 nq1 => ?_⟩
      have sq1 := same_upd (o := .tup []) nq1
      have eq1 : upd J26 q1 (.tup []) q1 = some (.tup []) := upd_same
      generalize upd J26 q1 (.tup []) = J27 at sq1 eq1 ⊢
      replace W := W.same sq1
      replace PB := PB.same sq1
      refine ⟨by show 2 ≤ sizeLine; decide, fun q2 nq2 => ?_⟩
      have sq2 := same_upd (o := .tup [V.str "call", V.str "q"]) nq2
      have eq2 : upd J27 q2 (.tup [V.str "call", V.str "q"]) q2 = some (.tup [V.str "call", V.str "q"]) := upd_same
      replace eq1 := sq2 _ _ eq1
      generalize upd J27 q2 (.tup [V.str "call", V.str "q"]) = J28 at sq2 eq2 eq1 ⊢
      replace W := W.same sq2
      replace PB := PB.same sq2
      intro px dx nx nd' ne
      have sm := made_same (C := C) nx nd'
      refine ⟨px, dx, "main", .ref q1, .ref q2, [], tCq, rfl, upd_same, by decide +kernel, Dp.tk (.of sm) (pars_noL _) (.tup (.inl (.inl eq1)) .nil), Dp.tk (.of sm) tCq.noL (.tup (.inl (.inl eq2)) (.cons (.str _) (.cons (.str _) .nil))), poN, gCq, rfl, by decide, by decide, fun J29 pa kp fr => ⟨rfl, ?_⟩⟩
      have sM : Same J28 J29 := Same.made nx nd' fun b o e n => kp b o n e
      have pL := fr pl _ (sm _ _ W.list) (ne_of_none W.list nx)
      clear kp fr sm nd' ne
      replace W := W.same sM
      replace PB := PB.same sM
      clear sM sq1 eq1 nq1 sq2 eq2 nq2 pa nx
      obtain ⟨xs1, pg1, ps1⟩ := id W.pr
      refine ⟨pl, pr, px, 1, usQ, xs1, rowC, rfl, pg1, ps1, pL, fun c => absurd c (by rw [cQ6]; exact Bool.false_ne_true), fun c J30 s7 => ?_⟩
      refine ⟨true, B.eI, fun _ => ?_, fun z => nomatch z⟩
      replace W := W.same s7
      replace PB := PB.same s7
      clear s7 pL pg1 ps1 c
      replace PB := PB.set (o := .lst ([V.str "operation"] ++ [V.str "operation"] ++ [V.ref b2] ++ [V.str "program"])) W.list
      refine ⟨pl, _, _, rfl, rfl, W.list, Nat.lt_of_lt_of_le (show _ < 1000 from Nat.le_of_ble_eq_true rfl) (by decide), ?_⟩
      replace W := W.put (V.str "program")
      generalize upd J30 pl _ = J31 at W PB ⊢
      refine ⟨_, rfl, by show 1 ≤ sizeLine; decide, fun l1 n1 => ?_⟩
      have s1 := same_upd (o := .lst [V.str "operation"]) n1
      have e1 : upd J31 l1 (.lst [V.str "operation"]) l1 = some (.lst [V.str "operation"]) := upd_same
      generalize upd J31 l1 (.lst [V.str "operation"]) = J32 at s1 e1 ⊢
      replace W := W.same s1
      replace PB := PB.same s1
      refine ⟨l1, 2, _, rfl, rfl, e1, by decide, by decide, by decide, fun l2 n2 => ?_⟩
      have s2 := same_upd (o := .lst (List.replicate ((2 : Int)).toNat [V.str "operation"]).flatten) n2
      have e2 : upd J32 l2 (.lst (List.replicate ((2 : Int)).toNat [V.str "operation"]).flatten) l2 = some (.lst [V.str "operation", V.str "operation"]) := upd_same
      generalize upd J32 l2 (.lst (List.replicate ((2 : Int)).toNat [V.str "operation"]).flatten) = J33 at s2 e2 ⊢
      replace W := W.same s2
      replace PB := PB.same s2
      clear s1 e1 n1 s2 n2
      refine ⟨Nat.zero_le _, fun q1 nq1 => ?_⟩
      have sq1 := same_upd (o := .tup []) nq1
      have eq1 : upd J33 q1 (.tup []) q1 = some (.tup []) := upd_same
      replace e2 := sq1 _ _ e2
      generalize upd J33 q1 (.tup []) = J34 at sq1 eq1 e2 ⊢
      replace W := W.same sq1
      replace PB := PB.same sq1
      refine ⟨by show 1 ≤ sizeLine; decide, fun q2 nq2 => ?_⟩
      have sq2 := same_upd (o := .tup [V.str "seq"]) nq2
      have eq2 : upd J34 q2 (.tup [V.str "seq"]) q2 = some (.tup [V.str "seq"]) := upd_same
      replace eq1 := sq2 _ _ eq1
      replace e2 := sq2 _ _ e2
      generalize upd J34 q2 (.tup [V.str "seq"]) = J35 at sq2 eq2 eq1 e2 ⊢
      replace W := W.same sq2
      replace PB := PB.same sq2
      obtain ⟨zs2, pz2, dz2⟩ := PB
      intro px dx nx nd' ne
      have sm := made_same (C := C) nx nd'
      refine ⟨px, dx, "main", .ref q1, .ref q2, [], tS, rfl, upd_same, by decide +kernel, Dp.tk (.of sm) (pars_noL _) (.tup (.inl (.inl eq1)) .nil), Dp.tk (.of sm) tS.noL (.tup (.inl (.inl eq2)) (.cons (.str _) .nil)), poN, gS _, rfl, by decide, by decide, fun J36 pa kp fr => ⟨rfl, ?_⟩⟩
      have sM : Same J35 J36 := Same.made nx nd' fun b o e n => kp b o n e
      have pL := fr pl _ (sm _ _ W.list) (ne_of_none W.list nx)
      clear kp fr sm nd' ne
      have ap : Apart zs2 [.ref px] (outU (putU usQ rowS) "p") [rowS] := pz2.ps.apart fun a ha => by
        cases List.mem_singleton.mp ha
        exact nx
      replace W := W.same sM
      replace pz2 := pz2.same sM
      replace e2 := sM _ _ e2
      clear sM sq1 eq1 nq1 sq2 eq2 nq2 nx pL dz2
      intro b3 dx nx nd' ne
      have sm := made_same (C := CP) nx nd'
      refine ⟨b3, dx, 0, .int 1, some 1, [.ref px], some [rowS], rfl, upd_same, .int 1, .ps (PsAt.same (PsAt.one pa) sm), Nat.le_of_ble_eq_true rfl, fun i us e1 e2 c J37 pg3 kp => ⟨rfl, ?_⟩, fun c => absurd cQ7 (by rw [c]; exact Bool.false_ne_true)⟩
      cases e1; cases e2
      have sM : Same J36 J37 := Same.made nx nd' fun b o e n => kp b o n e
      replace W := W.same sM
      replace pz2 := pz2.same sM
      replace e2 := sM _ _ e2
      clear sM sm nx nd' ne kp pa c
      refine ⟨by show 2 ≤ sizeLine; decide, fun l3 n3 => ?_⟩
      have s3 := same_upd (o := .lst [V.ref b3, V.str "program"]) n3
      have e3 : upd J37 l3 (.lst [V.ref b3, V.str "program"]) l3 = some (.lst [V.ref b3, V.str "program"]) := upd_same
      generalize upd J37 l3 (.lst [V.ref b3, V.str "program"]) = J38 at s3 e3 ⊢
      refine ⟨l2, l3, _, _, rfl, rfl, s3 _ _ e2, e3, by show 4 ≤ sizeLine; decide, fun l4 n4 => ?_⟩
      have s4 := s3.trans (same_upd (o := .lst ([V.str "operation", V.str "operation"] ++ [V.ref b3, V.str "program"])) n4)
      obtain ⟨dxa, fsa, ha⟩ := (pz2.same s4).ins
      obtain ⟨dxb, fsb, hb'⟩ := (pg3.same s4).ins
      refine ⟨⟨pl, l4, _, _, rfl, rfl, s4 _ _ W.list, upd_same, ?_⟩, fun H' _ => q H'⟩
      exact .cons (.inl ⟨rfl, rfl, by decide +kernel⟩) (.cons (.inl ⟨rfl, rfl, by decide +kernel⟩) (.cons (.inr ⟨b2, b3, dxa, dxb, fsa, fsb, rfl, rfl, ha, hb', 1, _, _, zs2, [.ref px], pz2.same s4, pg3.same s4, ap, eQ⟩) (.cons (.inl ⟨rfl, rfl, by decide +kernel⟩) .nil)))
end
end FS

set_option Elab.async false
set_option linter.all false
set_option maxRecDepth 100000
set_option maxHeartbeats 4000000
namespace FS
open PySem PySem.Spec PyProof.Rows L2
section
variable {P : Program} {w : World} {K : PySem.W.Frag} {mg : Str → Option Value} {base : Heap}
abbrev N_law_right : List Str := ["_law_die", "_law_plain", "_law_program", "_law_elder", "_law_turn", "_law_due", "_law_told", "_law_one", "_law_rows"]
theorem sc_law_right : FnScope N_law_right ["_law_die"] (defScope s_law_right) := ⟨rfl, rfl, rfl, by decide +kernel, rfl, by decide +kernel, by decide +kernel⟩
theorem ok_l_right {f : Addr} {fd : FuncData} (F : Fun K "_law_right" "_law_right" s_law_right f fd) (T : Nm K mg) {CP C CI CO : Addr} {TS : List (Addr × Str)} (PG : PgW P w K mg base CP C CI CO) (kP : PySem.W.kitOne K (.ref CP) (.type "str") = some false) (Cl_any_plain : Cal P w K mg base 14 "_law_any_plain" ["_law_die", "_law_wraps"] (spPlain K)) (Cl_made : Cal P w K mg base 13 "_law_made" ["_law_plain"] (spMadeG K CP C)) (Cl_changed : Cal P w K mg base 16 "_law_changed" ["_law_die", "_law_plain", "_law_program"] (spChanged K CP C TS)) : FnOk P w K mg base CX0 17 f fd ["_law_die"] (spRightX TS) := by
  have nd := sc_law_right.nd
  refine F.ok sc_law_right (fun vs H Q E h => ?_) (fun cdv A outer s H vs Q E hr h => ?_)
  · obtain ⟨D, rfl, d, tT, q⟩ := h
    rfl
  · obtain ⟨D, rfl, d, tT, q⟩ := h
    skip
    refine ⟨_, (pss_cons (ps_set (i := 1) nd rfl (Or.inl rfl) (pe_own Cl_any_plain (hr.mono (by decide)) (by rfl) (pa_cons (pv 0) (pa_cons pe_bl pa_nil))))
  (pss_cons (ps_par (i := 2) (j := 3) (by rfl) nd rfl rfl (by decide) rfl rfl (pa_cons (pe_own Cl_made (hr.mono (by decide)) (by rfl) (pa_cons (pv 1) pa_nil)) (pa_cons (pe_lst pa_nil) pa_nil)) (by rfl))
  (pss_cons (ps_for PassesOwn.never rfl (pi_range1 rfl T.b_range (pa_cons pe_int pa_nil)) (pg_name (i := 4) nd rfl (Or.inl rfl))
  (pss_cons (ps_asg (pe_own Cl_changed (hr.mono (by decide)) (by rfl) (pa_cons (pv 0) (pa_cons (pv 1) (pa_cons (pv 2) pa_nil)))) (pg_unl rfl (pgs_cons (pg_name (i := 5) nd rfl (Or.inl rfl)) (pgs_cons (pg_name (i := 6) nd rfl (Or.inl rfl)) pgs_nil))))
  (pss_one (ps_if (pt_val (pe_callB call_isi (by rfl) T.b_isinstance (by decide +kernel) (pa_cons (pv 5) (pa_cons (pe_bltn (v := .ty "str") (by rfl) T.b_str (by decide +kernel) rfl) pa_nil))))
  (pss_one (ps_if (pt_cmpR op_ne (pv 6) (pv 5) (nomark _))
  (pss_one (ps_ret pe_bl))
  pss_nil))
  (pss_cons (ps_if (PW.pt (pw_or (pt_val (pe_callB call_isi (by rfl) T.b_isinstance (by decide +kernel) (pa_cons (pv 6) (pa_cons (pe_bltn (v := .ty "str") (by rfl) T.b_str (by decide +kernel) rfl) pa_nil)))) (pw_or1 (pt_cmpR (op_nePg PG (hr.mono (by decide))) (pv 6) (pe_own Cl_made (hr.mono (by decide)) (by rfl) (pa_cons (pe_lst (pa_cons (pe_ix ix_list (pv 1) pe_int (fun _ _ => rfl)) (pa_cons (pv 5) pa_nil))) pa_nil)) (nomark _)))))
  (pss_one (ps_ret pe_bl))
  pss_nil)
  (pss_cons (ps_expr (pe_bm PySem.F.plainAttrs_list PySem.F.slot_list_append PySem.F.type_list_append mt_append (pv 3) (pa_cons (pe_lst (pa_cons (pv 2) (pa_cons (pv 1) pa_nil))) pa_nil)))
  (pss_one (ps_par (i := 2) (j := 1) (by rfl) nd rfl rfl (by decide) rfl rfl (pa_cons (pv 6) (pa_cons (pe_lst (pa_cons (pe_ix ix_list (pv 1) pe_int (fun _ _ => rfl)) (pa_cons (pv 5) pa_nil))) pa_nil)) (by rfl)))))))))
  (pss_cons (ps_expr (pe_bm PySem.F.plainAttrs_list PySem.F.slot_list_append PySem.F.type_list_append mt_append (pv 3) (pa_cons (pe_lst (pa_cons (pv 2) (pa_cons (pv 1) pa_nil))) pa_nil)))
  (pss_one (ps_ret (pe_cmpR op_notIn_seq pe_bl (pe_lc (own := [("_law_one", 7), ("_law_rows", 8)]) (g := gUnl K 2 (gCons (gName 7) (gCons (gName 8) gNil))) (tt := tYes) rfl nd (pi_list (pv 3)) (blkOk_by (own := [("_law_one", 7), ("_law_rows", 8)]) (N := N_law_right) (sc := defScope s_law_right) (by decide +kernel)) (fun _ _ _ _ _ => (pg_unl rfl (pgs_cons (pg_name (i := 7) nd rfl (Or.inl rfl)) (pgs_cons (pg_name (i := 8) nd rfl (Or.inl rfl)) pgs_nil)))) (fun _ _ _ _ _ => pts_nil) (fun _ _ _ _ _ => (pe_cmpR (op_eqPgK PG.m rfl rfl rfl rfl rfl (hr.mono (by decide))) (pv 7) (pe_own Cl_made (hr.mono (by decide)) (by rfl) (pa_cons (pv 8) pa_nil)) (nomark _)))) (by rfl)))))))), ?_⟩

    have kStr : PySem.W.kitOne K (.type "str") (.type "str") = some true := kit_ty (by decide +kernel)
    have kLst : PySem.W.kitOne K (.type "list") (.type "str") = some false := kit_ty (by decide +kernel)
    refine ⟨_, rfl, D, true, rfl, d, fun H1 pl rl m rs us tb g1 e1 er ra ok npD nrD => ?_⟩
    have okc := canB_ok (prog_ok ok ra)
    refine ⟨_, rfl, pl, rl, m, rs, us, rfl, e1, er, ra.g, okc, fun H2 pr xs s2 npr nw pg => ?_⟩
    refine ⟨Nat.zero_le _, fun L nL => ?_⟩
    have s3 := same_upd (o := .lst []) nL
    have eL0 : upd H2 L (.lst []) L = some (.lst ([].map V.ref)) := upd_same
    have n0 : H L = none := by
      have a1 := none_back s2 nL
      cases e : H L with
      | none => rfl
      | some o =>
        have nLD : L ≠ D := g1.2.ne a1
        rw [g1.1 _ _ nLD e] at a1
        cases a1
    have nLD : L ≠ D := (g1.same s2).2.ne nL
    have C0 : Cur K CP C D L (upd H2 L (.lst [])) pr pl m rl rs us := ⟨⟨xs, pg.same s3, (pg.ps.atD nL).same s3⟩, s3 _ _ (s2 _ _ e1), npD, ne_of_none (s2 _ _ e1) nL, ⟨⟨s3 _ _ (s2 _ _ er), nrD, ra.g.same (s2.trans s3)⟩, ne_of_none (s2 _ _ er) nL, (ra.g.same s2).ne nL⟩, okc⟩
    have G0 : GoN D H (upd H2 L (.lst [])) := (GoN.of (g1.same s2)).same s3
    have T0 : LamX.Tabs TS (upd H2 L (.lst [])) := Tabs.same (Tabs.go d g1 tT) (s2.trans s3)
    have E0 : Eld K CP C D L (upd H2 L (.lst [])) [] := ⟨eL0, fun q hq => nomatch hq⟩
    generalize upd H2 L (.lst []) = H3 at C0 G0 T0 E0 ⊢
    clear g1 e1 er ra ok npD nrD s2 npr nw pg nL s3 eL0 okc tT
    refine ⟨_, _, rfl, ?_⟩
    refine ⟨_, rfl, by decide, by decide, for_range (lo := 0) (n := 10) (fun i σ H' => ∃ (pl' pr' : Addr) (y4 y5 y6 : Option V) (qs : List Addr) (m' : Int) (rl' : Addr) (rs' : List Addr) (us' : List RowU), σ = [some (.ref D), some (.ref pl'), some (.ref pr'), some (.ref L), y4, y5, y6, none, none] ∧ Eld K CP C D L H' qs ∧ qs.length ≤ i ∧ Cur K CP C D L H' pr' pl' m' rl' rs' us' ∧ GoN D H H' ∧ LamX.Tabs TS H') ⟨_, _, _, _, _, _, _, _, _, _, rfl, E0, Nat.zero_le _, C0, G0, T0⟩ (fun i σ H4 hi hp => ?_) (fun σ H4 hp => ?_)⟩
    · clear C0 G0 T0 E0
      obtain ⟨p, a, y4, y5, y6, qs, m, rl, rs, us, rfl, EL, lq, CU, G4, T4⟩ := hp
      refine ⟨_, rfl, _, rfl, _, rfl, D, p, a, L, rl, m, rs, us, _, rfl, G4.2, CU.at_, CU.nD, EL.at_, (fun ps z => nomatch z), nLD, CU.r, CU.ok, CU.pr, T4, fun H5 q' v1 v2 g5 T5 eq nq came => ?_⟩
      have EL5 := EL.goN nLD G4.2 g5
      have CU5 := CU.goN G4.2 g5
      have G5 := G4.trans g5
      clear EL CU g5 G4 T4
      refine ⟨q', _, rfl, .inl (.inl eq), rfl, _, _, rfl, _, _, rfl, rfl, ?_⟩
      clear eq nq
      cases came with
      | word z =>
        refine ⟨_, rfl, _, _, _, _, true, rfl, .ty "str", .base (.str z), kStr, true, rfl, iteT ?_⟩
        refine ⟨_, rfl, _, rfl, rfl, _, rfl, ite2 (fun e => by simp at e) (fun _ => ?_)⟩
        exact ⟨p, a, _, _, _, qs, m, rl, rs, us, rfl, EL5, by omega, CU5, G5, T5⟩
      | @made l b rs' us' RX ok' pX =>
        refine ⟨_, rfl, _, _, _, _, false, rfl, .ty "str", .base (.lst RX.rl.at_), kLst, false, rfl, iteF ?_⟩
        obtain ⟨xs', pg', ps'⟩ := pX
        obtain ⟨dxb, fsb, hb⟩ := pg'.ins
        refine ⟨_, rfl, _, _, _, _, false, rfl, .ty "str", .base (.ins hb PG.m.c.cl PG.m.c.ha PG.m.c.hn PG.m.c.htk PG.m.c.hm), kP, false, rfl, iteF ?_⟩
        refine ⟨_, rfl, _, rfl, p, _, 0, _, rfl, rfl, .inl (.inl CU5.at_), at0, _, rfl, by show 2 ≤ sizeLine; decide, fun qn nn => ?_⟩
        have sn := same_upd (o := .lst [V.int m, V.ref l]) nn
        have en : upd H5 qn (.lst [V.int m, V.ref l]) qn = some (.lst [V.int m, V.ref l]) := upd_same
        generalize upd H5 qn (.lst [V.int m, V.ref l]) = H6 at sn en ⊢
        have RX6 := RX.same sn
        refine ⟨qn, l, m, rs', us', rfl, en, RX6.rl.at_, RX6.rl.rows, ok', fun H7 c ys s7 nc nw pgc => ?_⟩
        have s57 := sn.trans s7
        have pgb := pg'.same s57
        obtain ⟨dxb', fsb', hb'⟩ := pgb.ins
        obtain ⟨dxc, fsc, hc⟩ := pgc.ins
        refine ⟨b, dxb', fsb', .ref CP, rfl, hb', .base (.ins hc PG.m.c.cl PG.m.c.ha PG.m.c.hn PG.m.c.htk PG.m.c.hm), nf_self, b, .ref c, m, us', xs', rfl, pgb, .inr ⟨c, m, us', ys, rfl, pgc, (pg'.same sn).ps.apart nw, _, rfl, _, rfl, ?_⟩⟩
        rw [eq_of_self pgb.ps.eq_self, if_pos rfl]
        refine iteF ?_
        have EL7 := EL5.same s57
        have CU7 := CU5.same s57
        have G7 := G5.same s57
        have T7 := Tabs.same T5 s57
        have RX7 := RX.same s57
        have pX7 : Prg K CP C L H7 b m us' := ⟨xs', pgb, ps'.same s57⟩
        clear EL5 CU5 G5 T5 RX RX6 pg' pgb pgc ps' sn en nn hb hb' hc nc nw s7 s57
        refine ⟨_, rfl, .inl ⟨rfl, _, .inl (.inl EL7.at_)⟩, _, rfl, _, rfl, by show 2 ≤ sizeLine; decide, fun qe ne => ?_⟩
        have s8 := same_upd (o := .lst [V.ref a, V.ref p]) ne
        have ee : upd H7 qe (.lst [V.ref a, V.ref p]) qe = some (.lst [V.ref a, V.ref p]) := upd_same
        have neD : qe ≠ D := G7.2.ne ne
        have neL : qe ≠ L := fun z => by
          rw [z, EL7.at_] at ne
          cases ne
        generalize upd H7 qe (.lst [V.ref a, V.ref p]) = H8 at s8 ee ⊢
        have EL8 := EL7.same s8
        have CU8 := CU7.same s8
        have EN8 : Ent K CP C D L H8 qe := ⟨a, p, m, rl, rs, us, ee, neD, neL, CU8⟩
        refine ⟨L, _, _, rfl, rfl, EL8.at_, by rw [List.length_map]; exact small1000 (by omega), ?_⟩
        have EL9 := EL8.put EN8
        have CU9 := CU8.set (o := .lst (qs.map V.ref ++ [V.ref qe])) EL8.at_
        have G9 := (G7.same s8).set (o := .lst (qs.map V.ref ++ [V.ref qe])) n0 nLD
        have T9 := Tabs.put (o' := .lst (qs.map V.ref ++ [V.ref qe])) (Tabs.same T7 s8) EL8.at_
        have RX9 := (RX7.same s8).set (o := .lst (qs.map V.ref ++ [V.ref qe])) EL8.at_
        have pX9 := (pX7.same s8).set (o := .lst (qs.map V.ref ++ [V.ref qe])) EL8.at_
        generalize upd H8 L (.lst (qs.map V.ref ++ [V.ref qe])) = H9 at EL9 CU9 G9 T9 RX9 pX9 ⊢
        clear EL7 CU7 G7 T7 RX7 pX7 EL8 CU8 EN8 s8 ee ne
        refine ⟨_, rfl, _, rfl, p, _, 0, _, rfl, rfl, .inl (.inl CU9.at_), at0, _, rfl, by show 2 ≤ sizeLine; decide, fun qp np => ?_⟩
        have s10 := same_upd (o := .lst [V.int m, V.ref l]) np
        have npL : qp ≠ L := fun z => by
          rw [z, EL9.at_] at np
          cases np
        refine ⟨_, _, rfl, ?_⟩
        exact ⟨qp, b, _, _, _, qs ++ [qe], m, l, rs', us', rfl, EL9.same s10, by rw [List.length_append]; show qs.length + 1 ≤ i + 1; omega, ⟨pX9.same s10, upd_same, G9.2.ne np, npL, RX9.same s10, ok'⟩, G9.same s10, Tabs.same T9 s10⟩
    · clear C0 G0 T0 E0
      obtain ⟨p, a, y4, y5, y6, qs, m, rl, rs, us, rfl, EL, lq, CU, G4, T4⟩ := hp
      refine ⟨_, rfl, .inl ⟨rfl, _, .inl (.inl EL.at_)⟩, _, rfl, _, rfl, by show 2 ≤ sizeLine; decide, fun qe ne => ?_⟩
      have s8 := same_upd (o := .lst [V.ref a, V.ref p]) ne
      have ee : upd H4 qe (.lst [V.ref a, V.ref p]) qe = some (.lst [V.ref a, V.ref p]) := upd_same
      have neD : qe ≠ D := G4.2.ne ne
      have neL : qe ≠ L := fun z => by
        rw [z, EL.at_] at ne
        cases ne
      generalize upd H4 qe (.lst [V.ref a, V.ref p]) = H8 at s8 ee ⊢
      have EL8 := EL.same s8
      have EN8 : Ent K CP C D L H8 qe := ⟨a, p, m, rl, rs, us, ee, neD, neL, CU.same s8⟩
      refine ⟨L, _, _, rfl, rfl, EL8.at_, by rw [List.length_map]; exact small1000 (by omega), ?_⟩
      have EL9 := EL8.put EN8
      have G9 := (G4.same s8).set (o := .lst (qs.map V.ref ++ [V.ref qe])) n0 nLD
      have T9 := Tabs.put (o' := .lst (qs.map V.ref ++ [V.ref qe])) (Tabs.same T4 s8) EL8.at_
      generalize upd H8 L (.lst (qs.map V.ref ++ [V.ref qe])) = H9 at EL9 G9 T9 ⊢
      have lz : (qs ++ [qe]).length ≤ 11 := by rw [List.length_append]; show qs.length + 1 ≤ 11; omega
      generalize qs ++ [qe] = zs at EL9 lz
      clear EL CU G4 T4 EL8 EN8 s8 ee ne neD neL lq
      refine ⟨_, rfl, L, rfl, ⟨_, .inl (.inl EL9.at_)⟩, fun DB nB => ?_⟩
      refine lc_list (xs := zs.map V.ref) (fun j H' => Same H9 H' ∧ H' DB = some (.lst (List.replicate j (V.bl true)))) ⟨same_upd nB, upd_same⟩ (fun j H' hj h => .inl (.inl (h.1 _ _ EL9.at_))) (fun j y H5 hy h => ?_) (fun H5 h => ?_)
      · obtain ⟨s5, e5⟩ := h
        rw [List.getElem?_map] at hy
        obtain ⟨q', hq', ey⟩ := Option.map_eq_some_iff.mp hy
        subst ey
        have lj := (List.getElem?_eq_some_iff.mp hq').1
        obtain ⟨a', p', m', rl', rs', us', h1, h2, h3, h4⟩ := (EL9.all q' (List.mem_of_getElem? hq')).same s5
        refine ⟨q', _, rfl, .inl (.inl h1), rfl, _, _, rfl, _, _, rfl, rfl, ?_⟩
        obtain ⟨xs', pg', ps'⟩ := h4.pr
        refine ⟨rfl, _, rfl, _, rfl, p', rl', m', rs', us', rfl, h4.at_, h4.r.rl.at_, h4.r.rl.rows, h4.ok, fun H7 c ys s7 nc nw pgc => ?_⟩
        have pgb := pg'.same s7
        obtain ⟨dxb', fsb', hb'⟩ := pgb.ins
        obtain ⟨dxc, fsc, hc⟩ := pgc.ins
        refine ⟨a', dxb', fsb', .ref CP, rfl, hb', .base (.ins hc PG.m.c.cl PG.m.c.ha PG.m.c.hn PG.m.c.htk PG.m.c.hm), nf_self, a', .ref c, m', us', xs', rfl, pgb, .inr ⟨c, m', us', ys, rfl, pgc, pg'.ps.apart nw, _, rfl, ?_⟩⟩
        rw [eq_of_self pgb.ps.eq_self, if_neg Bool.false_ne_true]
        refine ⟨_, s7 _ _ e5, by rw [List.length_replicate]; exact small1000 (by omega), Same.set (s5.trans s7) nB, ?_⟩
        rw [upd_same, List.replicate_succ']
      obtain ⟨s5, e5⟩ := h
      refine ⟨DB, _, rfl, .inl (.inl (.inl e5)), rfl, flat_true _, ?_⟩
      rw [inV_true]
      exact q _ (G9.same s5) (Tabs.same T9 s5)
end
end FS

set_option Elab.async false
set_option linter.all false
set_option maxRecDepth 100000
set_option maxHeartbeats 4000000
namespace FS
open PySem PySem.Spec PyProof.Rows L2
section
variable {P : Program} {w : World} {K : PySem.W.Frag} {mg : Str → Option Value} {base : Heap}
abbrev N_law_changed : List Str := ["_law_die", "_law_plain", "_law_program", "_law_modes", "_law_rows", "_law_names", "_law_name", "_law_due", "_law_table", "_law_own", "_law_row", "_law_told", "_law_one"]
theorem sc_law_changed : FnScope N_law_changed ["_law_die", "_law_plain", "_law_program"] (defScope s_law_changed) := ⟨rfl, rfl, rfl, by decide +kernel, rfl, by decide +kernel, by decide +kernel⟩
theorem ok_l_changed {f cF : Addr} {fd : FuncData} (F : FunC K "_law_changed" "_law_changed" s_law_changed f fd cF) (T : Nm K mg) {CP C CI CO PR : Addr} {TS : List (Addr × Str)} (bdict : mg "dict" = none) (TB : LamX.TabB base mg cF PR) (hmT : (PR, lamQ "_law_changed") ∈ TS) (hu : ∀ p ∈ TS, p.1 = PR → p.2 = lamQ "_law_changed") (MG : MetG2 K mg) (B : Bad K mg CI) (BO : BadO K mg CI CO) (PG : PgW P w K mg base CP C CI CO) (G : PrG P w K mg base C) (Cl_cast : Cal P w K mg base 1 "_law_cast" ["_law_die", "_law_total"] spCast) (Cl_pick : Cal P w K mg base 2 "_law_pick" ["_law_die", "_law_items"] (spPick K)) (Cl_is_program : Cal P w K mg base 8 "_law_is_program" ["_law_modes", "_law_rows"] (spIsProg K)) (Cl_any_body : Cal P w K mg base 13 "_law_any_body" ["_law_die", "_law_modes", "_law_table", "_law_own"] (spBody K)) : FnOk P w K mg base CX0 16 f fd ["_law_die", "_law_plain", "_law_program"] (spChanged K CP C TS) := by
  have nd := sc_law_changed.nd
  refine F.ok sc_law_changed (fun vs H Q E h => ?_) (fun A outer s H vs Q E hr h => ?_)
  · obtain ⟨D, pl, a, L, rl, m, rs, us, o, rfl, d, ep, npD, eL, hoL, nLD, R, ok, pr, tT, q⟩ := h
    rfl
  · obtain ⟨D, pl, a, L, rl, m, rs, us, o, rfl, d, ep, npD, eL, hoL, nLD, R, ok, pr, tT, q⟩ := h
    obtain ⟨fw, fdw, Fw, bw, mw⟩ := PG.wp
    obtain ⟨fo, fdo, Fo, bo, mo⟩ := PG.wo
    refine ⟨_, (pss_cons (ps_asg (pv 1) (pg_unl rfl (pgs_cons (pg_name (i := 3) nd rfl (Or.inl rfl)) (pgs_cons (pg_name (i := 4) nd rfl (Or.inl rfl)) pgs_nil))))
  (pss_cons (ps_setLc (i := 5) (own := [("_law_row", 10)]) (g := gName 10) (tt := tYes) rfl nd rfl rfl (sw_true rfl rfl rfl (by decide +kernel)) (pi_list (pv 4)) (blkOk_by (own := [("_law_row", 10)]) (N := N_law_changed) (sc := defScope s_law_changed) (by decide +kernel)) (fun _ _ _ _ _ => (pg_name (i := 10) nd rfl (Or.inl rfl))) (fun _ _ _ _ _ => pts_nil) (fun _ _ _ _ _ => (pe_ix (ix_listK (K := K) rfl) (pv 10) pe_int (fun _ _ => rfl))))
  (pss_cons (ps_if (pt_cmpR op_eq (pe_own Cl_cast (hr.mono (by decide)) (by rfl) (pa_cons (pv 0) (pa_cons pe_int pa_nil))) pe_int (nomark _))
  (pss_cons (ps_set (i := 6) nd rfl (Or.inr rfl) (pe_own Cl_pick (hr.mono (by decide)) (by rfl) (pa_cons (pv 0) (pa_cons (pv 5) pa_nil))))
  (pss_cons (ps_setLc (i := 7) (own := [("_law_row", 10)]) (g := gName 10) rfl nd rfl rfl (sw_true rfl rfl rfl (by decide +kernel)) (pi_list (pv 4)) (blkOk_by (own := [("_law_row", 10)]) (N := N_law_changed) (sc := defScope s_law_changed) (by decide +kernel)) (fun _ _ _ _ _ => (pg_name (i := 10) nd rfl (Or.inl rfl))) (fun _ _ _ _ _ => pts_one (pt_cmpR op_ne (pe_ix (ix_listK (K := K) rfl) (pv 10) pe_int (fun _ _ => rfl)) (pv 6) (nomark _))) (fun _ _ _ _ _ => (pv 10)))
  (pss_one (ps_ret (pe_lst (pa_cons (pe_ifExp (pt_val (pe_own Cl_is_program (hr.mono (by decide)) (by rfl) (pa_cons (pv 3) (pa_cons (pv 7) pa_nil)))) (pv 7) pe_str) (pa_cons (pe_met2 (k := 13) MG B BO (by rfl) TB rfl hmT hu (hr.mono (by decide)) (LamX.lamS_by (sc := defScope s_law_changed) (by decide +kernel)) rfl (fun _ _ _ _ _ => rfl) (fun A2 outer2 s2 H2 E2 f2 c2 hr2 => (pe_meth (pv 2) PG.m.c.cl mo Fo (hr2.mono (by decide)) bo .nil lam_lets (pa_cons (pv 6) pa_nil)))) pa_nil)))))))
  pss_nil)
  (pss_cons (ps_set (i := 8) nd rfl (Or.inl rfl) (pe_callTy (call_dictP rfl) (by rfl) bdict (by decide +kernel) (pa_cons (pe_lc (own := [("_law_row", 10)]) (g := gName 10) (tt := tYes) rfl nd (pi_list (pv 4)) (blkOk_by (own := [("_law_row", 10)]) (N := N_law_changed) (sc := defScope s_law_changed) (by decide +kernel)) (fun _ _ _ _ _ => (pg_name (i := 10) nd rfl (Or.inl rfl))) (fun _ _ _ _ _ => pts_nil) (fun _ _ _ _ _ => (pe_tup (pa_cons (pe_ix (ix_listK (K := K) rfl) (pv 10) pe_int (fun _ _ => rfl)) (pa_cons (pe_ix (ix_listK (K := K) rfl) (pv 10) pe_int (fun _ _ => rfl)) pa_nil))))) pa_nil)))
  (pss_cons (ps_set (i := 6) nd rfl (Or.inr rfl) (pe_own Cl_pick (hr.mono (by decide)) (by rfl) (pa_cons (pv 0) (pa_cons (pe_op op_cat (pv 5) (pe_lst (pa_cons pe_str (pa_cons pe_str (pa_cons pe_str (pa_cons pe_str (pa_cons pe_str pa_nil))))))) pa_nil))))
  (pss_cons (ps_set (i := 9) nd rfl (Or.inl rfl) (pe_dget2 (u1 hr) (pv 8) (pv 6) (pe_own Cl_pick (hr.mono (by decide)) (by rfl) (pa_cons (pv 0) (pa_cons (pe_lst (pa_cons (pe_tup pa_nil) (pa_cons (pe_tup (pa_cons (pe_tup (pa_cons pe_str (pa_cons pe_str pa_nil))) pa_nil)) (pa_cons (pe_tup (pa_cons (pe_tup (pa_cons pe_str (pa_cons pe_str pa_nil))) (pa_cons (pe_tup (pa_cons pe_str (pa_cons pe_str pa_nil))) pa_nil))) pa_nil)))) pa_nil))) ⟨rfl, by rfl, rfl, rfl⟩))
  (pss_cons (ps_if (pt_cmpR op_eq (pe_own Cl_cast (hr.mono (by decide)) (by rfl) (pa_cons (pv 0) (pa_cons pe_int pa_nil))) pe_int (nomark _))
  (pss_one (ps_set (i := 9) nd rfl (Or.inl rfl) (pe_tup (pa_cons (pe_tup (pa_cons pe_str (pa_cons pe_str pa_nil))) (pa_cons (pe_tup (pa_cons pe_str (pa_cons pe_str pa_nil))) pa_nil)))))
  pss_nil)
  (pss_cons (ps_set (i := 10) nd rfl (Or.inr rfl) (pe_lst (pa_cons (pv 6) (pa_cons (pv 9) (pa_cons (pe_own Cl_any_body (hr.mono (by decide)) (by rfl) (pa_cons (pv 0) (pa_cons (pv 3) (pa_cons (pv 8) (pa_cons (pv 9) pa_nil))))) pa_nil)))))
  (pss_cons (ps_setLc (i := 7) (own := [("_law_one", 12)]) (g := gName 12) (tt := tYes) rfl nd rfl rfl (sw_true rfl rfl rfl (by decide +kernel)) (pi_list (pv 4)) (blkOk_by (own := [("_law_one", 12)]) (N := N_law_changed) (sc := defScope s_law_changed) (by decide +kernel)) (fun _ _ _ _ _ => (pg_name (i := 12) nd rfl (Or.inl rfl))) (fun _ _ _ _ _ => pts_nil) (fun _ _ _ _ _ => (pe_ifExp (pt_cmpR op_eq (pe_ix (ix_listK (K := K) rfl) (pv 12) pe_int (fun _ _ => rfl)) (pv 6) (nomark _)) (pv 10) (pv 12))))
  (pss_cons (ps_set (i := 7) nd rfl (Or.inl rfl) (pe_ifExp (pt_cmpR op_notIn_seq (pv 6) (pv 5) (by rfl)) (pe_op op_cat (pv 7) (pe_lst (pa_cons (pv 10) pa_nil))) (pv 7)))
  (pss_cons (ps_set (i := 11) nd rfl (Or.inl rfl) (pe_met2 (k := 13) MG B BO (by rfl) TB rfl hmT hu (hr.mono (by decide)) (LamX.lamS_by (sc := defScope s_law_changed) (by decide +kernel)) rfl (fun _ _ _ _ _ => rfl) (fun A2 outer2 s2 H2 E2 f2 c2 hr2 => (pe_meth (pv 2) PG.m.c.cl mw Fw (hr2.mono (by decide)) bw .nil lam_lets (pa_cons (pe_mkPK G rfl rfl rfl rfl rfl (hr2.mono (by decide)) (by rfl) (pa_cons (pe_ix (ix_listK (K := K) rfl) (pv 10) pe_int (fun _ _ => rfl)) (pa_cons (pe_ix (ix_listK (K := K) rfl) (pv 10) pe_int (fun _ _ => rfl)) (pa_cons (pe_ix (ix_listK (K := K) rfl) (pv 10) pe_int (fun _ _ => rfl)) pa_nil)))) pa_nil)))))
  (pss_one (ps_ret (pe_lst (pa_cons (pe_ifExp (pt_val (pe_own Cl_is_program (hr.mono (by decide)) (by rfl) (pa_cons (pv 3) (pa_cons (pv 7) pa_nil)))) (pv 7) pe_str) (pa_cons (pv 11) pa_nil)))))))))))))))), ?_⟩

    have few := can_few ok
    have lr : rs.length = us.length := R.rl.rows.len
    have hm := can_m ok
    have l1 : 1 ≤ us.length := by
      rcases Nat.eq_zero_or_pos us.length with z | z
      · have : us = [] := List.eq_nil_of_length_eq_zero z
        subst this
        rw [can_nil] at ok
        cases ok
      · exact z
    refine ⟨_, rfl, pl, _, rfl, .inl (.inl ep), rfl, _, _, rfl, _, _, rfl, rfl, ?_⟩
    -- the names
    refine ⟨_, rfl, rl, rfl, ⟨_, .inl (.inl R.rl.at_)⟩, fun qN nN => ?_⟩
    refine lc_list (xs := rs.map V.ref) (fun j H' => Same H H' ∧ H' qN = some (.lst (((us.take j).map (·.1)).map V.str))) ⟨same_upd nN, upd_same⟩ (fun j H' hj h => .inl (.inl (h.1 _ _ R.rl.at_))) (fun j y H9 hy h => ?_) (fun H1 h => ?_)
    · obtain ⟨s9, e9⟩ := h
      obtain ⟨r', u', rfl, hu', rg'⟩ := (R.rl.rows.same s9).get hy
      have lj := (List.getElem?_eq_some_iff.mp hu').1
      obtain ⟨⟨_, _, k1, _, _⟩, -⟩ := rg'
      refine ⟨rfl, _, rfl, r', _, 0, _, rfl, rfl, .inl (.inl k1), at0, _, e9, ?_, Same.set s9 nN, ?_⟩
      · rw [List.length_map, List.length_map, List.length_take]
        exact small1000 (by omega)
      · rw [upd_same, take_more hu', List.map_append, List.map_append]
        rfl
    obtain ⟨s1, eN⟩ := h
    rw [List.length_map, lr, List.take_length] at eN
    have nND : qN ≠ D := d.ne nN
    have g1 : Go D H H1 := .of d s1
    -- which way
    refine ⟨_, rfl, D, 3, rfl, g1.2, by decide, by decide, fun z H2 z0 z1 g2 _ => ?_⟩
    have G2 := g1.trans g2
    have eN2 := g2.1 _ _ nND eN
    have R2 := R.goN d (.of G2)
    have P2 := pr.goN d (.of G2)
    have eL2 := G2.1 _ _ nLD eL
    have T2 := Tabs.go d G2 tT
    have d2 := G2.2
    clear s1 eN nN g1 g2 R pr eL tT ep
    refine ⟨rfl, _, rfl, ite2 (fun e => ?A) (fun e => ?B)⟩
    case A =>
      clear e
      refine ⟨_, rfl, _, rfl, D, qN, _, d2, rfl, .inl (.inl eN2), nND, by intro z; rw [List.map_eq_nil_iff, List.map_eq_nil_iff] at z; rw [z] at l1; simp at l1, by rw [List.length_map, List.length_map]; omega, fun v H3 hv g3 _ => ?_⟩
      obtain ⟨nm, hnm, rfl⟩ := List.mem_map.mp hv
      have G3 := G2.trans g3
      have R3 := R2.goN d2 (.of g3)
      have P3 := P2.goN d2 (.of g3)
      have eL3 := g3.1 _ _ nLD eL2
      have T3 := Tabs.go d2 g3 T2
      have d3 := g3.2
      clear hv g3 R2 P2 eL2 T2 eN2 d2 G2
      refine ⟨_, rfl, rl, rfl, ⟨_, .inl (.inl R3.rl.at_)⟩, fun qD nD => ?_⟩
      refine lc_list (xs := rs.map V.ref) (fun j H' => Same H3 H' ∧ ∃ ds, H' qD = some (.lst (ds.map V.ref)) ∧ ds.length ≤ j ∧ RowsG K H3 ds (outU (us.take j) nm) ∧ ∀ r ∈ ds, r ≠ L) ⟨same_upd nD, [], upd_same, Nat.zero_le _, .nil, fun r h => nomatch h⟩ (fun j H' hj h => .inl (.inl (h.1 _ _ R3.rl.at_))) (fun j y H4 hy h => ?_) (fun H4 h => ?_)
      · obtain ⟨s4, ds, e4, ld, rd, nl⟩ := h
        obtain ⟨r', u', rfl, hu', rg'⟩ := R3.rl.rows.get hy
        have lj := (List.getElem?_eq_some_iff.mp hu').1
        have rg1 := rg'
        have rm : r' ∈ rs := by
          rw [List.getElem?_map] at hy
          obtain ⟨w1, hw1, ew1⟩ := Option.map_eq_some_iff.mp hy
          cases ew1
          exact List.mem_of_getElem? hw1
        obtain ⟨⟨_, _, k1, _, _⟩, -⟩ := rg'
        refine ⟨rfl, _, rfl, r', _, 0, _, rfl, rfl, .inl (.inl (s4 _ _ k1)), at0, _, rfl, rfl, _, rfl, ?_⟩
        rw [str_dec]
        by_cases en : u'.1 = nm
        · rw [decide_eq_true en]
          refine iteF ⟨s4, ds, e4, by omega, ?_, nl⟩
          rw [out_more hu', if_pos en, List.append_nil]
          exact rd
        · rw [decide_eq_false en]
          refine iteT ⟨_, rfl, _, e4, ?_, Same.set s4 nD, ds ++ [r'], ?_, ?_, ?_, fun r hr' => ?_⟩
          · rw [List.length_map]
            exact small1000 (by omega)
          · rw [upd_same, List.map_append]
            rfl
          · rw [List.length_append]
            show ds.length + 1 ≤ _
            omega
          · rw [out_more hu', if_neg en]
            exact rd.app (.cons rg1 .nil)
          · rcases List.mem_append.mp hr' with z | z
            · exact nl r z
            · rw [List.mem_singleton.mp z]
              exact R3.rows _ rm
      obtain ⟨s4, ds, e4, ld, rd, nl⟩ := h
      rw [List.length_map, lr, List.take_length] at rd
      rw [List.length_map] at ld
      have nDL : qD ≠ L := fun z => by
        rw [z, eL3] at nD
        cases nD
      have X4 : RLL K D L H4 qD ds (outU us nm) := ⟨⟨e4, d3.ne nD, rd.same s4⟩, nDL, nl⟩
      have lo : (outU us nm).length ≤ 8 := Nat.le_trans (List.length_filter_le _ _) few
      have G4 := G3.same s4
      have P4 := P3.same s4
      have T4 := Tabs.same T3 s4
      clear s4 e4 rd ld nD R3 P3 T3 eL3 G3 d3 nl
      refine ⟨_, rfl, _, rfl, .int m, some m, qD, ds, outU us nm, rfl, .int m, .inl (.inl X4.rl.at_), X4.rl.rows, by omega, fun H5 s5 => ⟨_, rfl, ?_⟩⟩
      have G5 := G4.same s5
      have P5 := P4.same s5
      have T5 := Tabs.same T4 s5
      have X5 := X4.same s5
      clear G4 P4 T4 X4 s5
      cases hc : canB (some m) (some (outU us nm)) with
      | true =>
        refine iteT ⟨_, rfl, ?_⟩
        refine ⟨T5, fun H6 eN T6 => ?_⟩
        have gN := GoN.ext G5.2 eN
        obtain ⟨xs, pg, ps⟩ := P5.goN G5.2 gN
        have X6 := X5.goN G5.2 gN
        have G6 := (GoN.of G5).trans gN
        obtain ⟨dx, pv', dv, nv, wv, hb, hi⟩ := pg.insF
        refine ⟨_, rfl, a, dx, _, rfl, hi, gn1, _, rfl, L, a, m, us, xs, nm, rfl, pg, ps, hnm, fun c H7 b ys s7 nb pb psb => ?_, fun c => absurd hc (by rw [c]; exact Bool.false_ne_true)⟩
        refine ⟨by show 2 ≤ sizeLine; decide, fun qZ nZ => ?_⟩
        have s8 := s7.trans (same_upd (o := .lst [V.ref qD, V.ref b]) nZ)
        exact q _ qZ _ _ (G6.same s8) (Tabs.same T6 s8) upd_same ((G6.same s7).2.ne nZ) (.made (X6.same s8) hc ⟨ys, pb.same (same_upd nZ), psb.same (same_upd nZ)⟩)
      | false =>
        refine iteF ?_
        refine ⟨T5, fun H6 eN T6 => ?_⟩
        have gN := GoN.ext G5.2 eN
        obtain ⟨xs, pg, ps⟩ := P5.goN G5.2 gN
        have G6 := (GoN.of G5).trans gN
        obtain ⟨dx, pv', dv, nv, wv, hb, hi⟩ := pg.insF
        refine ⟨_, rfl, a, dx, _, rfl, hi, gn1, _, rfl, L, a, m, us, xs, nm, rfl, pg, ps, hnm, fun c => absurd c (by rw [hc]; exact Bool.false_ne_true), fun c H7 s7 => ⟨false, BO.nO, fun z => (nomatch z), fun _ => ⟨BO.eO, ?_⟩⟩⟩
        refine ⟨by show 2 ≤ sizeLine; decide, fun qZ nZ => ?_⟩
        have s8 := s7.trans (same_upd (o := .lst [V.str "operation", V.str "operation"]) nZ)
        exact q _ qZ _ _ (G6.same s8) (Tabs.same T6 s8) upd_same ((G6.same s7).2.ne nZ) (.word _)
    case B =>
      clear e
      refine ⟨_, rfl, rl, rfl, ⟨_, .inl (.inl R2.rl.at_)⟩, fun qP nP => ?_⟩
      refine lc_list (xs := rs.map V.ref) (fun j H' => Same H2 H' ∧ ∃ (ps : List Addr) (kvs : List (Key × V)), H' qP = some (.lst (ps.map V.ref)) ∧ ps.length = j ∧ Paired (fun p kv => SqT K H' p [kV kv.1, kv.2]) ps kvs ∧ TabV K H' kvs (tbOf (us.take j))) ⟨same_upd nP, [], [], upd_same, rfl, .nil, .nil⟩ (fun j H' hj h => .inl (.inl (h.1 _ _ R2.rl.at_))) (fun j y H3 hy h => ?_) (fun H3 h => ?_)
      · obtain ⟨sm, ps, kvs, eD, lj, pr', tv⟩ := h
        obtain ⟨r, u, rfl, hu, rg⟩ := (R2.rl.rows.same sm).get hy
        have li := (List.getElem?_eq_some_iff.mp hu).1
        have po := rg.po
        have wd := rg.wd
        obtain ⟨⟨ov, bv, h1, h2, h3⟩, -⟩ := rg
        refine ⟨rfl, _, rfl, r, _, 0, _, rfl, rfl, .inl (.inl h1), at0, _, rfl, r, _, 1, _, rfl, rfl, .inl (.inl h1), at1, by show 2 ≤ sizeLine; decide, fun p np => ?_⟩
        have sp := same_upd (o := .tup [V.str u.1, ov]) np
        have ep : upd H3 p (.tup [V.str u.1, ov]) p = some (.tup [V.str u.1, ov]) := upd_same
        generalize upd H3 p (.tup [V.str u.1, ov]) = H4 at sp ep ⊢
        have eD4 := sp _ _ eD
        have tk : TK H4 (upd H4 qP (.lst (ps.map V.ref ++ [V.ref p]))) := TK.set eD4 rfl
        have tk3 := (TK.of sp).trans tk
        refine ⟨_, eD4, ?_, Same.set (sm.trans sp) nP, ps ++ [p], kvs ++ [(Sum.inr u.1, ov)], ?_, ?_, ?_, ?_⟩
        · rw [List.length_map]
          exact small1000 (by omega)
        · rw [upd_same, List.map_append]
          rfl
        · rw [List.length_append, lj]
          rfl
        · exact Paired.snoc (L2.Paired.mapP pr' fun a b h => tk3.sqT h) (tk.sqT (.inl (.inl ep)))
        · rw [tbOf_more hu]
          exact (tv.tk tk3).app (Dp.tk tk3 (pars_noL _) h2) po wd
      obtain ⟨s3, ps, kvs, eD, lj, pr', tv⟩ := h
      rw [List.length_map, lr, List.take_length] at tv
      refine ⟨qP, ps, kvs, rfl, .inl (.inl eD), pr', fun ta nta => ?_⟩
      have s4 := s3.trans (same_upd (o := .dK (mergeK [] kvs)) nta)
      have tab : TabAt K (upd H3 ta (.dK (mergeK [] kvs))) ta (tbOf us) := ⟨_, upd_same, (TabV.merged (tb0 := []) .nil tv (by rw [List.nil_append, tbOf_names]; exact can_nd ok)).tk (.of (same_upd nta)), by unfold tbOf; rw [List.length_map]; exact few⟩
      generalize upd H3 ta (.dK (mergeK [] kvs)) = H4 at s4 tab ⊢
      have G4 := G2.same s4
      have R4 := R2.same s4
      have P4 := P2.same s4
      have T4 := Tabs.same T2 s4
      have eL4 := s4 _ _ eL2
      have eN4 := s4 _ _ eN2
      clear s3 eD lj pr' tv nta s4 nP R2 P2 T2 eL2 eN2 d2 G2
      have tne : tbOf us ≠ [] := fun z => by
        have := congrArg List.length z
        unfold tbOf at this
        rw [List.length_map] at this
        simp at this
        rw [this] at l1
        simp at l1
      -- the name
      refine ⟨_, rfl, _, rfl, by show 5 ≤ sizeLine; decide, fun q5 n5 => ?_⟩
      have s5 := same_upd (o := .lst [V.str "new", V.str "other", V.str "more", V.str "further", V.str "last"]) n5
      have e5 : upd H4 q5 (.lst [V.str "new", V.str "other", V.str "more", V.str "further", V.str "last"]) q5 = some (.lst [V.str "new", V.str "other", V.str "more", V.str "further", V.str "last"]) := upd_same
      generalize upd H4 q5 (.lst [V.str "new", V.str "other", V.str "more", V.str "further", V.str "last"]) = H5 at s5 e5 ⊢
      refine ⟨qN, q5, _, _, rfl, rfl, s5 _ _ eN4, e5, by rw [List.length_map, List.length_map]; show us.length + 5 ≤ sizeLine; exact Nat.le_of_lt (small1000 (by omega)), fun q6 n6 => ?_⟩
      have s6 := s5.trans (same_upd (o := .lst (((us.map (·.1)).map V.str) ++ [V.str "new", V.str "other", V.str "more", V.str "further", V.str "last"])) n6)
      have e6 : upd H5 q6 (.lst (((us.map (·.1)).map V.str) ++ [V.str "new", V.str "other", V.str "more", V.str "further", V.str "last"])) q6 = some (.lst (((us.map (·.1)).map V.str) ++ [V.str "new", V.str "other", V.str "more", V.str "further", V.str "last"])) := upd_same
      have ne6 : q6 ≠ D := (G4.same s5).2.ne n6
      generalize upd H5 q6 (.lst (((us.map (·.1)).map V.str) ++ [V.str "new", V.str "other", V.str "more", V.str "further", V.str "last"])) = H6 at s6 e6 ⊢
      refine ⟨D, q6, _, (G4.same s6).2, rfl, .inl (.inl e6), ne6, (by simp), (by rw [List.length_append, List.length_map, List.length_map]; show us.length + 5 < 1000; omega), fun v H7 hv g7 _ => ?_⟩
      obtain ⟨nm, rfl, wd⟩ : ∃ nm, v = .str nm ∧ wordB nm = true := by
        rcases List.mem_append.mp hv with h | h
        · obtain ⟨z, hz, e⟩ := List.mem_map.mp h
          obtain ⟨u, hu, eu⟩ := List.mem_map.mp hz
          exact ⟨z, e.symm, by rw [← eu]; exact (R4.rl.rows.r u hu).wd⟩
        · simp only [List.mem_cons, List.not_mem_nil, or_false] at h
          rcases h with rfl | rfl | rfl | rfl | rfl
          all_goals exact ⟨_, rfl, by decide +kernel⟩
      have d4 := G4.2
      have g47 : Go D H4 H7 := (Go.of d4 s6).trans g7
      have G7 := G4.trans g47
      have R7 := R4.goN d4 (.of g47)
      have P7 := P4.goN d4 (.of g47)
      have T7 := Tabs.go d4 g47 T4
      have eL7 := g47.1 _ _ nLD eL4
      have eN7 := g47.1 _ _ nND eN4
      have tab7 := tab.go d4 g47
      have d7 := G7.2
      clear s5 s6 e5 e6 n5 n6 ne6 hv g7 g47 G4 R4 P4 T4 eL4 eN4 tab d4
      dsimp only [gName]
      refine seq_leafE (σ' := fun v => [some (.ref D), some (.ref pl), some (.ref a), some (.int m), some (.ref rl), some (.ref qN), some (.str nm), none, some (.ref ta), some v, none, none, none]) (P := fun v HX => ParV K HX v ∧ Go D H7 HX) (fun v => rfl) (fun QQ kQ => ?own) (fun ov H8 p8 => ?rest)
      case own =>
        obtain ⟨kvt, et, tv, lt⟩ := id tab7
        refine ⟨_, rfl, ta, rfl, .inl ⟨_, .inl et⟩, _, rfl, _, rfl, ?_⟩
        refine ⟨Nat.zero_le _, fun t0 nt0 => ?_⟩
        have st0 := same_upd (o := .tup []) nt0
        have et0 : upd H7 t0 (.tup []) t0 = some (.tup []) := upd_same
        generalize upd H7 t0 (.tup []) = J0 at st0 et0 ⊢
        refine ⟨by show 2 ≤ sizeLine; decide, fun t1 nt1 => ?_⟩
        have st1 := same_upd (o := .tup [V.str "b", V.str "block"]) nt1
        have et1 : upd J0 t1 (.tup [V.str "b", V.str "block"]) t1 = some (.tup [V.str "b", V.str "block"]) := upd_same
        replace et0 := st1 _ _ et0
        generalize upd J0 t1 (.tup [V.str "b", V.str "block"]) = J1 at st1 et1 et0 ⊢
        refine ⟨by show 1 ≤ sizeLine; decide, fun t2 nt2 => ?_⟩
        have st2 := same_upd (o := .tup [V.ref t1]) nt2
        have et2 : upd J1 t2 (.tup [V.ref t1]) t2 = some (.tup [V.ref t1]) := upd_same
        replace et0 := st2 _ _ et0
        replace et1 := st2 _ _ et1
        generalize upd J1 t2 (.tup [V.ref t1]) = J2 at st2 et2 et0 et1 ⊢
        refine ⟨by show 2 ≤ sizeLine; decide, fun t3 nt3 => ?_⟩
        have st3 := same_upd (o := .tup [V.str "b", V.str "block"]) nt3
        have et3 : upd J2 t3 (.tup [V.str "b", V.str "block"]) t3 = some (.tup [V.str "b", V.str "block"]) := upd_same
        replace et0 := st3 _ _ et0
        replace et1 := st3 _ _ et1
        replace et2 := st3 _ _ et2
        generalize upd J2 t3 (.tup [V.str "b", V.str "block"]) = J3 at st3 et3 et0 et1 et2 ⊢
        refine ⟨by show 2 ≤ sizeLine; decide, fun t4 nt4 => ?_⟩
        have st4 := same_upd (o := .tup [V.str "x", V.str "block"]) nt4
        have et4 : upd J3 t4 (.tup [V.str "x", V.str "block"]) t4 = some (.tup [V.str "x", V.str "block"]) := upd_same
        replace et0 := st4 _ _ et0
        replace et1 := st4 _ _ et1
        replace et2 := st4 _ _ et2
        replace et3 := st4 _ _ et3
        generalize upd J3 t4 (.tup [V.str "x", V.str "block"]) = J4 at st4 et4 et0 et1 et2 et3 ⊢
        refine ⟨by show 2 ≤ sizeLine; decide, fun t5 nt5 => ?_⟩
        have st5 := same_upd (o := .tup [V.ref t3, V.ref t4]) nt5
        have et5 : upd J4 t5 (.tup [V.ref t3, V.ref t4]) t5 = some (.tup [V.ref t3, V.ref t4]) := upd_same
        replace et0 := st5 _ _ et0
        replace et1 := st5 _ _ et1
        replace et2 := st5 _ _ et2
        replace et3 := st5 _ _ et3
        replace et4 := st5 _ _ et4
        generalize upd J4 t5 (.tup [V.ref t3, V.ref t4]) = J5 at st5 et5 et0 et1 et2 et3 et4 ⊢
        refine ⟨by show 3 ≤ sizeLine; decide, fun tl nl => ?_⟩
        have sl := same_upd (o := .lst [V.ref t0, V.ref t2, V.ref t5]) nl
        have s7 := st0.trans (st1.trans (st2.trans (st3.trans (st4.trans (st5.trans sl)))))
        have el : upd J5 tl (.lst [V.ref t0, V.ref t2, V.ref t5]) tl = some (.lst [V.ref t0, V.ref t2, V.ref t5]) := upd_same
        have ntl : tl ≠ D := (Go.of d7 (st0.trans (st1.trans (st2.trans (st3.trans (st4.trans st5)))))).2.ne nl
        have all : ∀ v ∈ [V.ref t0, V.ref t2, V.ref t5], ParV K (upd J5 tl (.lst [V.ref t0, V.ref t2, V.ref t5])) v := fun v hv => by
          simp only [List.mem_cons, List.not_mem_nil, or_false] at hv
          rcases hv with rfl | rfl | rfl
          · exact ⟨[], .tup (.inl (.inl (sl _ _ et0))) .nil, poN⟩
          · exact ⟨[("b", false)], .tup (.inl (.inl (sl _ _ et2))) (.cons (.tup (.inl (.inl (sl _ _ et1))) (.cons (.str _) (.cons (.str _) .nil))) .nil), poB⟩
          · exact ⟨[("b", false), ("x", false)], .tup (.inl (.inl (sl _ _ et5))) (.cons (.tup (.inl (.inl (sl _ _ et3))) (.cons (.str _) (.cons (.str _) .nil))) (.cons (.tup (.inl (.inl (sl _ _ et4))) (.cons (.str _) (.cons (.str _) .nil))) .nil)), poBX⟩
        generalize upd J5 tl (.lst [V.ref t0, V.ref t2, V.ref t5]) = J6 at el s7 all ⊢
        have g7 := Go.of d7 s7
        refine ⟨D, tl, _, g7.2, rfl, .inl (.inl el), ntl, List.cons_ne_nil _ _, by show 3 < 1000; decide, fun z J7 hz gz _ => ?_⟩
        have g77 := g7.trans gz
        obtain ⟨ov, dg, pk⟩ := (tab7.go d7 g77).look nm
        exact ⟨ov, dg, kQ _ _ ⟨pk z ((all z hz).tk (gz.tk g7.2)), g77⟩⟩
      case rest =>
        obtain ⟨p8, g8⟩ := p8
        have G8 := G7.trans g8
        have R8 := R7.goN d7 (.of g8)
        have P8 := P7.goN d7 (.of g8)
        have T8 := Tabs.go d7 g8 T7
        have eL8 := g8.1 _ _ nLD eL7
        have eN8 := g8.1 _ _ nND eN7
        have tab8 := tab7.go d7 g8
        have d8 := G8.2
        clear G7 R7 P7 T7 eL7 eN7 tab7 d7 g8
        refine seq_gen (P := fun σ' H' => ∃ ov', σ' = [some (.ref D), some (.ref pl), some (.ref a), some (.int m), some (.ref rl), some (.ref qN), some (.str nm), none, some (.ref ta), some ov', none, none, none] ∧ ParV K H' ov' ∧ Go D H8 H') (fun N kN => ?ifw) (fun σ9 H9 p9 => ?rest2)
        case ifw =>
          refine ⟨_, rfl, D, 5, rfl, d8, by decide, by decide, fun z H9 z0 z1 g9 _ => ?_⟩
          refine ⟨rfl, _, rfl, ite2 (fun e => ?_) (fun e => ?_)⟩
          · clear e
            refine ⟨by show 2 ≤ sizeLine; decide, fun t1 nt1 => ?_⟩
            have st1 := same_upd (o := .tup [V.str "w", V.str "wrap"]) nt1
            have et1 : upd H9 t1 (.tup [V.str "w", V.str "wrap"]) t1 = some (.tup [V.str "w", V.str "wrap"]) := upd_same
            generalize upd H9 t1 (.tup [V.str "w", V.str "wrap"]) = J1 at st1 et1 ⊢
            refine ⟨by show 2 ≤ sizeLine; decide, fun t2 nt2 => ?_⟩
            have st2 := same_upd (o := .tup [V.str "b", V.str "block"]) nt2
            have et2 : upd J1 t2 (.tup [V.str "b", V.str "block"]) t2 = some (.tup [V.str "b", V.str "block"]) := upd_same
            replace et1 := st2 _ _ et1
            generalize upd J1 t2 (.tup [V.str "b", V.str "block"]) = J2 at st2 et2 et1 ⊢
            refine ⟨by show 2 ≤ sizeLine; decide, fun t3 nt3 => ?_⟩
            have st3 := same_upd (o := .tup [V.ref t1, V.ref t2]) nt3
            have et3 : upd J2 t3 (.tup [V.ref t1, V.ref t2]) t3 = some (.tup [V.ref t1, V.ref t2]) := upd_same
            replace et1 := st3 _ _ et1
            replace et2 := st3 _ _ et2
            generalize upd J2 t3 (.tup [V.ref t1, V.ref t2]) = J3 at st3 et3 et1 et2 ⊢
            exact kN _ _ ⟨_, rfl, ⟨[("w", true), ("b", false)], .tup (.inl (.inl et3)) (.cons (.tup (.inl (.inl et1)) (.cons (.str _) (.cons (.str _) .nil))) (.cons (.tup (.inl (.inl et2)) (.cons (.str _) (.cons (.str _) .nil))) .nil)), poWB⟩, g9.same (st1.trans (st2.trans st3))⟩
          · exact kN _ _ ⟨ov, rfl, p8.tk (g9.tk d8), g9⟩
        case rest2 =>
          obtain ⟨ov', rfl, pv9, g9⟩ := p9
          have G9 := G8.trans g9
          have R9 := R8.goN d8 (.of g9)
          have P9 := P8.goN d8 (.of g9)
          have T9 := Tabs.go d8 g9 T8
          have eL9 := g9.1 _ _ nLD eL8
          have eN9 := g9.1 _ _ nND eN8
          have tab9 := tab8.go d8 g9
          have d9 := G9.2
          clear G8 R8 P8 T8 eL8 eN8 tab8 d8 g9
          clear p8
          obtain ⟨own, dov, po⟩ := pv9
          refine ⟨_, rfl, _, rfl, _, rfl, _, rfl, _, rfl, _, rfl, D, ta, m, tbOf us, ov', own, rfl, ⟨d9, tab9, tne, dov, po, hm.1, hm.2⟩, fun bv H10 t g10 body => ?_⟩
          have dov := Dp.tk (g10.tk d9) (pars_noL _) dov
          have G10 := G9.trans g10
          have R10 := R9.goN d9 (.of g10)
          have P10 := P9.goN d9 (.of g10)
          have T10 := Tabs.go d9 g10 T9
          have eL10 := g10.1 _ _ nLD eL9
          have eN10 := g10.1 _ _ nND eN9
          have tab10 := tab9.go d9 g10
          have d10 := G10.2
          clear G9 R9 P9 T9 eL9 eN9 tab9 d9 g10
          refine ⟨by show 3 ≤ sizeLine; decide, fun qR nR => ?_⟩
          have s11 := same_upd (o := .lst [V.str nm, ov', bv]) nR
          have row : RowG K (upd H10 qR (.lst [V.str nm, ov', bv])) qR (nm, own, t) := ⟨⟨ov', bv, upd_same, Dp.tk (.of s11) (pars_noL _) dov, Dp.tk (.of s11) (Tm.noL _) body.dp⟩, po, wd, body.good, body.kind, body.few, Nat.le_trans body.deep (by decide)⟩
          have nRD : qR ≠ D := d10.ne nR
          have nRL : qR ≠ L := fun z => by
            rw [z, eL10] at nR
            cases nR
          generalize upd H10 qR (.lst [V.str nm, ov', bv]) = H11 at s11 row ⊢
          have g11 : Go D H10 H11 := .of d10 s11
          have G11 := G10.trans g11
          have R11 := R10.goN d10 (.of g11)
          have P11 := P10.goN d10 (.of g11)
          have T11 := Tabs.go d10 g11 T10
          have eL11 := g11.1 _ _ nLD eL10
          have eN11 := g11.1 _ _ nND eN10
          have tab11 := tab10.go d10 g11
          have d11 := G11.2
          clear G10 R10 P10 T10 eL10 eN10 tab10 d10 g11
          clear s11 nR dov body tab11
          -- what is due
          have lr11 : rs.length = us.length := R11.rl.rows.len
          refine ⟨_, rfl, rl, rfl, ⟨_, .inl (.inl R11.rl.at_)⟩, fun qD nD => ?_⟩
          refine lc_list (xs := rs.map V.ref) (fun j H' => Same H11 H' ∧ ∃ ds, H' qD = some (.lst (ds.map V.ref)) ∧ ds.length = j ∧ RowsG K H11 ds (swapU (us.take j) (nm, own, t)) ∧ ∀ r ∈ ds, r ≠ L) ⟨same_upd nD, [], upd_same, rfl, .nil, fun r h => nomatch h⟩ (fun j H' hj h => .inl (.inl (h.1 _ _ R11.rl.at_))) (fun j y H4 hy h => ?_) (fun H12 h => ?_)
          · obtain ⟨s4, ds, e4, ld, rd, nl⟩ := h
            obtain ⟨r', u', rfl, hu', rg'⟩ := R11.rl.rows.get hy
            have lj := (List.getElem?_eq_some_iff.mp hu').1
            have rg1 := rg'
            have rm : r' ∈ rs := by
              rw [List.getElem?_map] at hy
              obtain ⟨w1, hw1, ew1⟩ := Option.map_eq_some_iff.mp hy
              cases ew1
              exact List.mem_of_getElem? hw1
            obtain ⟨⟨_, _, k1, _, _⟩, -⟩ := rg'
            refine ⟨rfl, _, rfl, r', _, 0, _, rfl, rfl, .inl (.inl (s4 _ _ k1)), at0, _, rfl, rfl, _, rfl, ?_⟩
            rw [str_dec]
            have fin : ∀ r1 u1, RowG K H11 r1 u1 → r1 ≠ L → (if u'.1 = nm then (nm, own, t) else u') = u1 → ∃ acc, H4 qD = some (.lst acc) ∧ acc.length < sizeLine ∧ Same H11 (upd H4 qD (.lst (acc ++ [V.ref r1]))) ∧ ∃ ds, (upd H4 qD (.lst (acc ++ [V.ref r1]))) qD = some (.lst (ds.map V.ref)) ∧ ds.length = j + 1 ∧ RowsG K H11 ds (swapU (us.take (j + 1)) (nm, own, t)) ∧ ∀ r ∈ ds, r ≠ L := fun r1 u1 hr1 hn hu1 => by
              refine ⟨_, e4, by rw [List.length_map]; exact small1000 (by omega), Same.set s4 nD, ds ++ [r1], by rw [upd_same, List.map_append]; rfl, by rw [List.length_append, ld]; rfl, ?_, fun r hr' => ?_⟩
              · rw [swap_more hu']
                exact rd.app (.cons (show RowG K H11 r1 (if u'.1 = nm then (nm, own, t) else u') by rw [hu1]; exact hr1) .nil)
              · rcases List.mem_append.mp hr' with z | z
                · exact nl r z
                · rw [List.mem_singleton.mp z]; exact hn
            by_cases en : u'.1 = nm
            · rw [decide_eq_true en]
              exact iteT ⟨_, rfl, fin qR (nm, own, t) row nRL (if_pos en)⟩
            · rw [decide_eq_false en]
              exact iteF ⟨_, rfl, fin r' u' rg1 (R11.rows _ rm) (if_neg en)⟩
          obtain ⟨s12, ds, e12, ld, rd, nl⟩ := h
          rw [List.length_map, lr11, List.take_length] at rd
          rw [List.length_map] at ld
          have nDL : qD ≠ L := fun z => by
            rw [z, eL11] at nD
            cases nD
          have nDD : qD ≠ D := d11.ne nD
          have X12 : RLL K D L H12 qD ds (swapU us (nm, own, t)) := ⟨⟨e12, nDD, rd.same s12⟩, nDL, nl⟩
          have row12 := row.same s12
          have eR12 : ∃ ov bv, H12 qR = some (.lst [.str nm, ov, bv]) ∧ Dp K H12 ov (parsD own) ∧ Dp K H12 bv t.data := row12.ex
          have G12 := G11.same s12
          have P12 := P11.same s12
          have T12 := Tabs.same T11 s12
          have eL12 := s12 _ _ eL11
          have eN12 := s12 _ _ eN11
          have R12 := R11.same s12
          clear s12 e12 rd nD G11 P11 T11 eL11 eN11 R11 row nl d11
          dsimp only [gName]
          refine seq_leafE (σ' := fun v => [some (.ref D), some (.ref pl), some (.ref a), some (.int m), some (.ref rl), some (.ref qN), some (.str nm), some v, some (.ref ta), some ov', some (.ref qR), none, none]) (P := fun v HX => Same H12 HX ∧ ∃ ld ds, v = .ref ld ∧ RLL K D L HX ld ds (putU us (nm, own, t))) (fun v => rfl) (fun QQ kQ => ?app) (fun vd H13 p13 => ?rest3)
          case app =>
            refine ⟨_, rfl, _, rfl, qN, _, rfl, .inl (.inl (.inl eN12)), rfl, flat_strs _, _, rfl, ?_⟩
            rw [inV_strs]
            by_cases hin : nm ∈ us.map (·.1)
            · rw [decide_eq_true hin]
              exact iteF ⟨_, rfl, kQ _ _ ⟨.refl _, qD, ds, rfl, by rw [show putU us (nm, own, t) = swapU us (nm, own, t) from if_pos hin]; exact X12⟩⟩
            · rw [decide_eq_false hin]
              have eu : putU us (nm, own, t) = us ++ [(nm, own, t)] := if_neg hin
              have es : swapU us (nm, own, t) = us := by
                unfold swapU
                refine (List.map_congr_left fun v hv => if_neg fun z => hin (List.mem_map.mpr ⟨v, hv, z⟩)).trans (List.map_id' _)
              refine iteT ⟨_, rfl, _, rfl, by show 1 ≤ sizeLine; decide, fun q1 n1 => ?_⟩
              have s1 := same_upd (o := .lst [V.ref qR]) n1
              have e1 : upd H12 q1 (.lst [V.ref qR]) q1 = some (.lst [V.ref qR]) := upd_same
              generalize upd H12 q1 (.lst [V.ref qR]) = J1 at s1 e1 ⊢
              refine ⟨qD, q1, _, _, rfl, rfl, (X12.same s1).rl.at_, e1, by rw [List.length_map, ld]; show rs.length + 1 ≤ sizeLine; exact Nat.le_of_lt (small1000 (by omega)), fun q2 n2 => ?_⟩
              have s2 := s1.trans (same_upd (o := .lst (ds.map V.ref ++ [V.ref qR])) n2)
              refine kQ _ _ ⟨s2, q2, ds ++ [qR], rfl, ⟨⟨by rw [upd_same, List.map_append]; rfl, (G12.same s1).2.ne n2, ?_⟩, fun z => ?_, fun r hr' => ?_⟩⟩
              · rw [eu]
                have r2 := (X12.rl.rows.same s2)
                rw [es] at r2
                exact r2.app (.cons (row12.same s2) .nil)
              · rw [z] at n2
                rw [s1 _ _ eL12] at n2
                cases n2
              · rcases List.mem_append.mp hr' with z | z
                · exact X12.rows r z
                · rw [List.mem_singleton.mp z]; exact nRL
          case rest3 =>
            obtain ⟨s13, qv, dv, rfl, X13⟩ := p13
            have G13 := G12.same s13
            have P13 := P12.same s13
            have T13 := Tabs.same T12 s13
            have eL13 := s13 _ _ eL12
            have row13 := row12.same s13
            clear s13 G12 P12 T12 eL12 eN12 row12 X12 R12 eR12 ld
            have lp : (putU us (nm, own, t)).length ≤ 9 := by
              unfold putU
              split
              · rw [swap_len]; omega
              · rw [List.length_append]; show us.length + 1 ≤ 9; omega
            refine ⟨T13, fun H14 eN T14 => ?_⟩
            have gN := GoN.ext G13.2 eN
            obtain ⟨xs, pg, ps⟩ := P13.goN G13.2 gN
            have X14 := X13.goN G13.2 gN
            have G14 := (GoN.of G13).trans gN
            have row14 := row13.goN G13.2 gN
            have eL14 := gN.1 _ _ nLD eL13 hoL
            obtain ⟨dx, pv', dv', nv, wv, hb, hi⟩ := pg.insF
            clear G13 P13 T13 eL13 row13 X13 gN eN
            obtain ⟨⟨ov2, bv2, k1, k2, k3⟩, kpo, kwd, kgd, knw, kfew, klow⟩ := row14
            refine ⟨_, rfl, a, dx, _, rfl, hi, gn2, _, rfl, qR, _, 0, _, rfl, rfl, .inl (.inl k1), at0, _, rfl, qR, _, 1, _, rfl, rfl, .inl (.inl k1), at1, _, rfl, qR, _, 2, _, rfl, rfl, .inl (.inl k1), at2, ?_⟩
            intro x dx2 nx nd' ne
            have sm := made_same (C := C) nx nd'
            refine ⟨x, dx2, nm, ov2, bv2, own, t, rfl, upd_same, kwd, Dp.tk (.of sm) (pars_noL _) k2, Dp.tk (.of sm) (Tm.noL _) k3, kpo, kgd, knw, kfew, klow, fun H15 pa kp fr0 => ⟨rfl, ?_⟩⟩
            have s15 : Same H14 H15 := Same.made nx nd' fun b o e n => kp b o n e
            have pL : PAtD K C H15 L x nm own t := fr0 L _ (sm _ _ eL14) (ne_of_none eL14 nx)
            refine ⟨L, a, x, m, us, xs, (nm, own, t), rfl, pg.same s15, ps.same s15, pL, fun c H16 b ys s16 nb pb psb => ?_, fun c H16 s16 => ?_⟩
            · have s := s15.trans s16
              refine ⟨_, rfl, _, rfl, .int m, some m, qv, dv, putU us (nm, own, t), rfl, .int m, .inl (.inl ((X14.same s).rl.at_)), (X14.same s).rl.rows, by omega, fun H17 s17 => ⟨_, rfl, ?_⟩⟩
              rw [c]
              refine iteT ⟨_, rfl, _, rfl, by show 2 ≤ sizeLine; decide, fun qZ nZ => ?_⟩
              have s8 := s17.trans (same_upd (o := .lst [V.ref qv, V.ref b]) nZ)
              exact q _ qZ _ _ (G14.same (s.trans s8)) (Tabs.same T14 (s.trans s8)) upd_same ((G14.same (s.trans s17)).2.ne nZ) (.made (X14.same (s.trans s8)) c ⟨ys, pb.same s8, psb.same s8⟩)
            · refine ⟨true, B.eI, fun _ => ?_, fun z => nomatch z⟩
              have s := s15.trans s16
              refine ⟨_, rfl, _, rfl, .int m, some m, qv, dv, putU us (nm, own, t), rfl, .int m, .inl (.inl ((X14.same s).rl.at_)), (X14.same s).rl.rows, by omega, fun H17 s17 => ⟨_, rfl, ?_⟩⟩
              rw [c]
              refine iteF ⟨_, rfl, by show 2 ≤ sizeLine; decide, fun qZ nZ => ?_⟩
              have s8 := s17.trans (same_upd (o := .lst [V.str "program", V.str "program"]) nZ)
              exact q _ qZ _ _ (G14.same (s.trans s8)) (Tabs.same T14 (s.trans s8)) upd_same ((G14.same (s.trans s17)).2.ne nZ) (.word _)
end
end FS

set_option Elab.async false
set_option linter.all false
set_option maxRecDepth 100000
set_option maxHeartbeats 4000000
namespace FS
open PySem PySem.Spec PyProof.Rows L2
section
variable {P : Program} {w : World} {K : PySem.W.Frag} {mg : Str → Option Value} {base : Heap}
abbrev N_law_made : List Str := ["_law_plain", "_law_row"]
theorem sc_law_made : FnScope N_law_made ["_law_plain"] (defScope s_law_made) := ⟨rfl, rfl, rfl, by decide +kernel, rfl, by decide +kernel, by decide +kernel⟩
theorem ok_l_made {f : Addr} {fd : FuncData} (F : Fun K "_law_made" "_law_made" s_law_made f fd) (T : Nm K mg) {CP C CI : Addr} (B : Bad K mg CI) (PG : PgM P w K mg base CP C CI) (G : PrG P w K mg base C) : FnOk P w K mg base CX0 13 f fd ["_law_plain"] (spMadeG K CP C) := by
  have nd := sc_law_made.nd
  refine F.ok sc_law_made (fun vs H Q E h => ?_) (fun cdv A outer s H vs Q E hr h => ?_)
  · obtain ⟨p, rl, m, rs, us, rfl, hp, hrl, rw, ok, q⟩ := h
    rfl
  · obtain ⟨p, rl, m, rs, us, rfl, hp, hrl, rw, ok, q⟩ := h
    obtain ⟨mc, qo, fo, o1, o2, o3⟩ := PG.of_
    refine ⟨_, (pss_one (ps_ret (ClX.pe_cmeth (pe_glob (v := .ref CP) (by rfl) PG.c.gC rfl) o1 o2 o3 (hr.mono (by decide)) passL (pa_cons (pe_ix ix_list (pv 0) pe_int (fun _ _ => rfl)) (pa_cons (pe_callTy call_tuple_of (by rfl) T.b_tuple (by decide +kernel) (pa_cons (pe_lc (own := [("_law_row", 1)]) (g := gName 1) (tt := tYes) rfl nd (pi_list (pe_ix ix_list (pv 0) pe_int (fun _ _ => rfl))) (blkOk_by (own := [("_law_row", 1)]) (N := N_law_made) (sc := defScope s_law_made) (by decide +kernel)) (fun _ _ _ _ _ => (pg_name (i := 1) nd rfl (Or.inl rfl))) (fun _ _ _ _ _ => pts_nil) (fun _ _ _ _ _ => (pe_mkPK G rfl rfl rfl rfl rfl (hr.mono (by decide)) (by rfl) (pa_cons (pe_ix (ix_listK (K := K) rfl) (pv 1) pe_int (fun _ _ => rfl)) (pa_cons (pe_ix (ix_listK (K := K) rfl) (pv 1) pe_int (fun _ _ => rfl)) (pa_cons (pe_ix (ix_listK (K := K) rfl) (pv 1) pe_int (fun _ _ => rfl)) pa_nil)))))) pa_nil)) pa_nil))))), ?_⟩

    have lr := rw.len
    have few := can_few ok
    refine ⟨rfl, _, rfl, p, _, 0, .int m, rfl, rfl, .inl (.inl hp), at0, _, rfl, p, _, 1, .ref rl, rfl, rfl, .inl (.inl hp), at1, rl, rfl, ⟨_, .inl (.inl hrl)⟩, fun D nD => ?_⟩
    refine lc_list (xs := rs.map V.ref) (fun i H' => Same H H' ∧ ∃ vs, H' D = some (.lst vs) ∧ PsAtD K C H' D vs (us.take i) ∧ vs.length = i ∧ NewIn H vs) ⟨same_upd nD, [], upd_same, .nil, rfl, fun a ha => nomatch ha⟩ (fun i H' hi h => .inl (.inl (h.1 _ _ hrl))) (fun i y H2 hy h => ?_) (fun H2 h => ?_)
    · obtain ⟨sm, vs, eD, pd, lv, nw⟩ := h
      obtain ⟨r, u, rfl, hu, ra⟩ := (rw.same sm).get hy
      have li := (List.getElem?_eq_some_iff.mp hu).1
      obtain ⟨⟨ov, bv, h1, h2, h3⟩, po, wd, gd, nw', few', low⟩ := ra
      refine ⟨rfl, _, rfl, r, _, 0, .str u.1, rfl, rfl, .inl (.inl h1), at0, _, rfl, r, _, 1, ov, rfl, rfl, .inl (.inl h1), at1, _, rfl, r, _, 2, bv, rfl, rfl, .inl (.inl h1), at2, ?_⟩
      intro x dx nx nd' ne
      have s1 := made_same (C := C) nx nd'
      refine ⟨x, dx, u.1, ov, bv, u.2.1, u.2.2, rfl, upd_same, wd, Dp.tk (.of s1) (pars_noL _) h2, Dp.tk (.of s1) (Tm.noL _) h3, po, gd, nw', few', low, fun H3 pa kp fr0 => ⟨rfl, ?_⟩⟩
      have s3 : Same H2 H3 := Same.made nx nd' fun b o e n => kp b o n e
      have fr := fun (D : Addr) o (hD : H2 D = some o) => fr0 D o (s1 _ _ hD) (ne_of_none hD nx)
      have eD3 := s3 _ _ eD
      refine ⟨vs, eD3, small1000 (by omega), Same.set (sm.trans s3) nD, vs ++ [.ref x], upd_same, ?_, ?_, nw.app (none_back sm nx)⟩
      · rw [take_more hu]
        exact ((pd.kp (.of s3) (.of s3)).kp .set (TK.set eD3 rfl)).app ((fr D _ eD).kp .set (TK.set eD3 rfl))
      · rw [List.length_append, lv]
        rfl
    · obtain ⟨sm, vs, eD, pd, lv, nw⟩ := h
      rw [List.length_map, lr] at lv
      rw [List.length_map, lr, List.take_length] at pd
      refine ⟨D, vs, rfl, .inl ⟨.inl (.inl eD), fun l nl => ?_⟩⟩
      refine ⟨.int m, .ref l, some m, rfl, .int m, .inl ⟨l, D, vs, some us, rfl, .inl (.inl upd_same), .ps (pd.ps.same (same_upd nl)), by omega, fun i us' e1 e2 c H' a s' na pg => ?_, fun c => absurd ok (by rw [c]; exact Bool.false_ne_true)⟩⟩
      cases e1
      cases e2
      exact q H' a vs (sm.trans ((same_upd nl).trans s')) (none_back (sm.trans (same_upd nl)) na) nw pg
end
end FS

set_option Elab.async false
set_option linter.all false
set_option maxRecDepth 100000
set_option maxHeartbeats 4000000
namespace FS
open PySem PySem.Spec PyProof.Rows L2
section
variable {P : Program} {w : World} {K : PySem.W.Frag} {mg : Str → Option Value} {base : Heap}
abbrev NProgramwith_procedure : List Str := ["self", "procedure", "changed", "own"]
theorem scProgramwith_procedure : FnScope NProgramwith_procedure ["self", "procedure"] (defScope sProgramwith_procedure) := ⟨rfl, rfl, rfl, by decide +kernel, rfl, by decide +kernel, by decide +kernel⟩
theorem ok_Programwith_procedure {f : Addr} {fd : FuncData} (F : Fun K "with_procedure" "Program.with_procedure" sProgramwith_procedure f fd) (T : Nm K mg) {CP C CI fI : Addr} (B : Bad K mg CI) (PC : PgC K mg CP) (G : PrG P w K mg base C) (Rnamed : PrP P w K mg base C "named" "_named") (MI : Mk K CP fI) (FI : FnR P w K mg base (L2.CX P w) 10 fI (spPgInitG K CP C CI)) : FnOk P w K mg base (L2.CX P w) 12 f fd ["self", "procedure"] (spWithP K CP C CI) := by
  have nd := scProgramwith_procedure.nd
  refine F.okX scProgramwith_procedure (fun vs H Q E h => ?_) (fun cdv A outer s H vs Q E hr h => ?_)
  · obtain ⟨L, a, p, m, us, xs, u, rfl, pt, ps, pp, q, qe⟩ := h
    rfl
  · obtain ⟨L, a, p, m, us, xs, u, rfl, pt, ps, pp, q, qe⟩ := h
    skip
    refine ⟨_, (pss_cons (ps_if (pt_not (pt_val (pe_callB call_isi (by rfl) T.b_isinstance (by decide +kernel) (pa_cons (pv 1) (pa_cons (pe_glob (v := .ref C) (by rfl) G.c.gC rfl) pa_nil)))))
  (pss_one (ps_raise rfl (takes_of rfl rfl rfl rfl) (pmk_own PySem.F.excBase_ValueError B.xI B.gI B.kI (raises_own B.bI B.tI) rfl)))
  pss_nil)
  (pss_cons (ps_if (pt_cmpR op_notIn_seq (pe_prK Rnamed rfl rfl rfl rfl rfl G.c.cl (hr.mono (by decide)) (pv 1) rfl) (pe_fld (pv 0) rfl) (by rfl))
  (pss_one (ps_ret (pe_makeV (k := 10) (E := E) MI FI (hr.mono (by decide)) (passes_call (takes_of rfl rfl rfl rfl) (fun _ _ _ _ h => h)) (pe_glob (v := .ref CP) (by rfl) PC.gC rfl) (pa_cons (pe_fld (pv 0) rfl) (StX.pa_star (pe_fld (pv 0) rfl) (pa_cons (pv 1) pa_nil))))))
  pss_nil)
  (pss_cons (ps_setLc (i := 2) (own := [("own", 3)]) (g := gName 3) (tt := tYes) rfl nd rfl rfl (sw_true rfl rfl rfl (by decide +kernel)) (pi_tup (pe_fld (pv 0) rfl)) (blkOk_by (own := [("own", 3)]) (N := NProgramwith_procedure) (sc := defScope sProgramwith_procedure) (by decide +kernel)) (fun _ _ _ _ _ => (pg_name (i := 3) nd rfl (Or.inl rfl))) (fun _ _ _ _ _ => pts_nil) (fun _ _ _ _ _ => (pe_ifExp (pt_cmpR op_eq (pe_prK Rnamed rfl rfl rfl rfl rfl G.c.cl (hr.mono (by decide)) (pv 3) rfl) (pe_prK Rnamed rfl rfl rfl rfl rfl G.c.cl (hr.mono (by decide)) (pv 1) rfl) (nomark _)) (pv 1) (pv 3))))
  (pss_one (ps_ret (pe_makeV (k := 10) (E := E) MI FI (hr.mono (by decide)) (passes_call (takes_of rfl rfl rfl rfl) (fun _ _ _ _ h => h)) (pe_glob (v := .ref CP) (by rfl) PC.gC rfl) (pa_cons (pe_fld (pv 0) rfl) (StX.pa_star (pv 2) pa_nil)))))))), ?_⟩

    obtain ⟨dx, pv', dv, nv, wv, kvs, ns, ws, h1, h2, h3, few, h5, h6, h7, h8, -⟩ := id pt
    obtain ⟨dxp, fsp, hp⟩ := pp.pat.ins
    obtain ⟨⟨dxp', pv2, bv2, pa2, ka2, wa2, ua2, ys2, ws2, us2, hp1, -⟩, -⟩ := id pp.pat
    obtain ⟨aw, zs, ez, sz, rz⟩ := Dp.tup_inv (show Dp K H (.ref nv) (.tuple (ns.map PyData.str)) from h7)
    cases ez
    have e := strs_inv ns rz
    subst e
    refine ⟨_, rfl, _, _, _, _, true, rfl, .own C, .base (.ins hp G.c.cl G.c.ha G.c.hn G.c.htk G.c.hm), G.c.self, true, rfl, iteF ?_⟩
    refine ⟨_, rfl, p, dxp', _, rfl, hp1, p, dxp', _, _, rfl, hp1, lk1, _, rfl, a, CP, dx, _, _, rfl, h1, PC.cl, PC.a4, gl4, nv, _, rfl, .inr sz, rfl, flat_strs _, _, rfl, ?_⟩
    rw [inV_strs, h8.dec]
    have lx := h3.len
    by_cases hin : u.1 ∈ us.map (·.1)
    case neg =>
      rw [decide_eq_false hin]
      have eu : putU us u = us ++ [u] := if_neg hin
      rw [eu] at q qe
      refine iteT ?_
      refine ⟨rfl, _, rfl, a, CP, dx, _, _, rfl, h1, PC.cl, PC.a1, gl1, _, rfl, a, CP, dx, _, _, rfl, h1, PC.cl, PC.a2, gl2, pv', xs, rfl, .inl h2, _, rfl, ?_⟩
      intro x dx2 nx nd' ne
      have sm := made_same (C := CP) nx nd'
      refine ⟨x, dx2, 0, .int m, some m, xs ++ [.ref p], some (us ++ [u]), rfl, upd_same, .int m, .ps ((ps.app pp).ps.same sm), by rw [List.length_append]; show xs.length + 1 ≤ 100; omega, fun i us' e1 e2 c H' pa kp => ?_, fun c H' s => qe c H' (sm.trans s)⟩
      cases e1
      cases e2
      have s3 : Same H H' := Same.made nx nd' fun b o e n => kp b o n e
      exact ⟨rfl, q c H' x _ s3 nx pa ((ps.app pp).same s3)⟩
    case pos =>
      rw [decide_eq_true hin]
      have eu : putU us u = swapU us u := if_pos hin
      rw [eu] at q qe
      refine iteF ?_
      refine ⟨_, rfl, a, CP, dx, _, _, rfl, h1, PC.cl, PC.a2, gl2, pv', rfl, ⟨xs, h2⟩, fun D nD => ?_⟩
      refine lc_tup (xs := xs) (fun i H' => Same H H' ∧ ∃ vs, H' D = some (.lst vs) ∧ PsAtD K C H L vs (swapU (us.take i) u) ∧ vs.length = i) ⟨same_upd nD, [], upd_same, .nil, rfl⟩ (fun i H' hi h => Same.sqT h.1 h2) (fun i y H2 hy h => ?_) (fun H2 h => ?_)
      · obtain ⟨sm, vs, eD, pd, lv⟩ := h
        obtain ⟨a', v, rfl, hv, pv⟩ := ps.get hy
        have li := (List.getElem?_eq_some_iff.mp hv).1
        obtain ⟨⟨dxq, pv3, bv3, pa3, ka3, wa3, ua3, ys3, ws3, us3, k1, -⟩, -⟩ := id pv.pat
        have k1 := sm _ _ k1
        have k2 := sm _ _ hp1
        refine ⟨rfl, _, rfl, a', dxq, _, rfl, k1, a', dxq, _, _, rfl, k1, lk1, _, rfl, p, dxp', _, rfl, k2, p, dxp', _, _, rfl, k2, lk1, rfl, _, rfl, ?_⟩
        rw [str_dec]
        by_cases en : v.1 = u.1
        · rw [decide_eq_true en]
          refine iteT ⟨_, rfl, vs, eD, small1000 (by omega), Same.set sm nD, vs ++ [.ref p], upd_same, ?_, by rw [List.length_append, lv]; rfl⟩
          rw [swap_more hv, if_pos en]
          exact pd.app pp
        · rw [decide_eq_false en]
          refine iteF ⟨_, rfl, vs, eD, small1000 (by omega), Same.set sm nD, vs ++ [.ref a'], upd_same, ?_, by rw [List.length_append, lv]; rfl⟩
          rw [swap_more hv, if_neg en]
          exact pd.app pv
      obtain ⟨sm, vs, eD, pd, lv⟩ := h
      rw [lx, List.take_length] at pd
      have h1 := sm _ _ h1
      refine ⟨rfl, _, rfl, a, CP, dx, _, _, rfl, h1, PC.cl, PC.a1, gl1, _, rfl, D, vs, rfl, .inr (.inl (.inl eD)), ?_⟩
      intro x dx2 nx nd' ne
      have s2 := made_same (C := CP) nx nd'
      refine ⟨x, dx2, 0, .int m, some m, vs, some (swapU us u), by rw [List.append_nil], upd_same, .int m, .ps ((pd.same sm).ps.same s2), by omega, fun i us' e1 e2 c H' pa kp => ?_, fun c H' s => qe c H' (sm.trans (s2.trans s))⟩
      cases e1
      cases e2
      have s3 : Same H2 H' := Same.made nx nd' fun b o e n => kp b o n e
      exact ⟨rfl, q c H' x _ (sm.trans s3) (none_back sm nx) pa (pd.same (sm.trans s3))⟩
end
end FS

set_option Elab.async false
set_option linter.all false
set_option maxRecDepth 100000
set_option maxHeartbeats 4000000
namespace FS
open PySem PySem.Spec PyProof.Rows L2
section
variable {P : Program} {w : World} {K : PySem.W.Frag} {mg : Str → Option Value} {base : Heap}
abbrev NProgramwithout : List Str := ["self", "name", "left", "own"]
theorem scProgramwithout : FnScope NProgramwithout ["self", "name"] (defScope sProgramwithout) := ⟨rfl, rfl, rfl, by decide +kernel, rfl, by decide +kernel, by decide +kernel⟩
theorem ok_Programwithout {f : Addr} {fd : FuncData} (F : Fun K "without" "Program.without" sProgramwithout f fd) (T : Nm K mg) {CP C CI CO fI : Addr} (BO : BadO K mg CI CO) (PC : PgC K mg CP) (G : PrG P w K mg base C) (Rnamed : PrP P w K mg base C "named" "_named") (Ccan_make_program : Cal P w K mg base 9 "can_make_program" ["modes", "procedures"] (spCanG K C)) (MI : Mk K CP fI) (FI : FnR P w K mg base (L2.CX P w) 10 fI (spPgInitG K CP C CI)) : FnOk P w K mg base (L2.CX P w) 12 f fd ["self", "name"] (spWithout K CP C CO) := by
  have nd := scProgramwithout.nd
  refine F.okX scProgramwithout (fun vs H Q E h => ?_) (fun cdv A outer s H vs Q E hr h => ?_)
  · obtain ⟨L, a, m, us, xs, nm, rfl, pt, ps, hin, q, qe⟩ := h
    rfl
  · obtain ⟨L, a, m, us, xs, nm, rfl, pt, ps, hin, q, qe⟩ := h
    skip
    refine ⟨_, (pss_cons (ps_if (pt_cmpR op_notIn_seq (pv 1) (pe_fld (pv 0) rfl) (by rfl))
  (pss_one ps_never)
  pss_nil)
  (pss_cons (ps_set (i := 2) nd rfl (Or.inl rfl) (pe_callTy call_tuple_of (by rfl) T.b_tuple (by decide +kernel) (pa_cons (pe_lc (own := [("own", 3)]) (g := gName 3) rfl nd (pi_tup (pe_fld (pv 0) rfl)) (blkOk_by (own := [("own", 3)]) (N := NProgramwithout) (sc := defScope sProgramwithout) (by decide +kernel)) (fun _ _ _ _ _ => (pg_name (i := 3) nd rfl (Or.inl rfl))) (fun _ _ _ _ _ => pts_one (pt_cmpR op_ne (pe_prK Rnamed rfl rfl rfl rfl rfl G.c.cl (hr.mono (by decide)) (pv 3) rfl) (pv 1) (nomark _))) (fun _ _ _ _ _ => (pv 3))) pa_nil)))
  (pss_cons (ps_if (pt_not (pt_val (pe_own Ccan_make_program (hr.mono (by decide)) (by rfl) (pa_cons (pe_fld (pv 0) rfl) (pa_cons (pv 2) pa_nil)))))
  (pss_one (ps_raise rfl (takes_of rfl rfl rfl rfl) (pmk_own PySem.F.excBase_ValueError BO.xO BO.gO BO.kO (raises_own BO.bO BO.tO) rfl)))
  pss_nil)
  (pss_one (ps_ret (pe_makeV (k := 10) (E := E) MI FI (hr.mono (by decide)) (passes_call (takes_of rfl rfl rfl rfl) (fun _ _ _ _ h => h)) (pe_glob (v := .ref CP) (by rfl) PC.gC rfl) (pa_cons (pe_fld (pv 0) rfl) (StX.pa_star (pv 2) pa_nil)))))))), ?_⟩

    obtain ⟨dx, pv', dv, nv, wv, kvs, ns, ws, h1, h2, h3, few, h5, h6, h7, h8, -⟩ := id pt
    obtain ⟨aw, zs, ez, sz, rz⟩ := Dp.tup_inv (show Dp K H (.ref nv) (.tuple (ns.map PyData.str)) from h7)
    cases ez
    have e := strs_inv ns rz
    subst e
    have lx := h3.len
    refine ⟨_, rfl, _, rfl, a, CP, dx, _, _, rfl, h1, PC.cl, PC.a4, gl4, nv, _, rfl, .inr sz, rfl, flat_strs _, _, rfl, ?_⟩
    rw [inV_strs, h8.dec, decide_eq_true hin]
    refine iteF ?_
    refine ⟨_, rfl, a, CP, dx, _, _, rfl, h1, PC.cl, PC.a2, gl2, pv', rfl, ⟨xs, h2⟩, fun D nD => ?_⟩
    refine lc_tup (xs := xs) (fun i H' => Same H H' ∧ ∃ vs, H' D = some (.lst vs) ∧ PsAtD K C H L vs (outU (us.take i) nm) ∧ vs.length ≤ i) ⟨same_upd nD, [], upd_same, .nil, Nat.zero_le _⟩ (fun i H' hi h => Same.sqT h.1 h2) (fun i y H2 hy h => ?_) (fun H2 h => ?_)
    · obtain ⟨sm, vs, eD, pd, lv⟩ := h
      obtain ⟨a', v, rfl, hv, pv⟩ := ps.get hy
      have li := (List.getElem?_eq_some_iff.mp hv).1
      obtain ⟨⟨dxq, pv3, bv3, pa3, ka3, wa3, ua3, ys3, ws3, us3, k1, -⟩, -⟩ := id pv.pat
      have k1 := sm _ _ k1
      refine ⟨rfl, _, rfl, a', dxq, _, rfl, k1, a', dxq, _, _, rfl, k1, lk1, _, rfl, rfl, _, rfl, ?_⟩
      rw [str_dec]
      by_cases en : v.1 = nm
      · rw [decide_eq_true en]
        refine iteF ⟨sm, vs, eD, ?_, by omega⟩
        rw [out_more hv, if_pos en, List.append_nil]
        exact pd
      · rw [decide_eq_false en]
        refine iteT ⟨_, rfl, vs, eD, small1000 (by omega), Same.set sm nD, vs ++ [.ref a'], upd_same, ?_, by rw [List.length_append]; show vs.length + 1 ≤ _; omega⟩
        rw [out_more hv, if_neg en]
        exact pd.app pv
    obtain ⟨sm, vs, eD, pd, lv⟩ := h
    rw [lx, List.take_length] at pd
    refine ⟨D, vs, rfl, .inl ⟨.inl (.inl eD), fun ta nta => ?_⟩⟩
    have st := sm.trans (same_upd (o := .tup vs) nta)
    have eT : upd H2 ta (.tup vs) ta = some (.tup vs) := upd_same
    generalize upd H2 ta (.tup vs) = H3 at st eT ⊢
    have h1 := st _ _ h1
    refine ⟨_, rfl, a, CP, dx, _, _, rfl, h1, PC.cl, PC.a1, gl1, _, rfl, ?_⟩
    have psT : PsAt K C H3 vs (outU us nm) := (pd.same st).ps
    refine ⟨ta, 0, .int m, some m, vs, some (outU us nm), rfl, .int m, .inl (.inl eT), .ps psT, by omega, fun H4 s4 => ⟨_, rfl, ?_⟩⟩
    have s04 := st.trans s4
    cases hc : canB (some m) (some (outU us nm)) with
    | false => exact iteT (qe hc _ s04)
    | true =>
      refine iteF ?_
      have h1 := s4 _ _ h1
      refine ⟨rfl, _, rfl, a, CP, dx, _, _, rfl, h1, PC.cl, PC.a1, gl1, _, rfl, ta, vs, rfl, .inl (.inl (.inl (s4 _ _ eT))), ?_⟩
      intro x dx2 nx nd' ne
      have s2 := made_same (C := CP) nx nd'
      refine ⟨x, dx2, 0, .int m, some m, vs, some (outU us nm), by rw [List.append_nil], upd_same, .int m, .ps ((psT.same s4).same s2), by omega, fun i us' e1 e2 c H' pa kp => ?_, fun c => absurd hc (by rw [c]; exact Bool.false_ne_true)⟩
      cases e1
      cases e2
      have s3 : Same H4 H' := Same.made nx nd' fun b o e n => kp b o n e
      exact ⟨rfl, q hc H' x _ (s04.trans s3) (none_back s04 nx) pa (pd.same (s04.trans s3))⟩
end
end FS

set_option Elab.async false
set_option linter.all false
set_option maxRecDepth 100000
set_option maxHeartbeats 4000000
namespace FS
open PySem PySem.Spec PyProof.Rows L2
section
variable {P : Program} {w : World} {K : PySem.W.Frag} {mg : Str → Option Value} {base : Heap}
abbrev N_law_is_program : List Str := ["_law_modes", "_law_rows", "_law_table", "_law_row", "_law_piece", "_law_far", "_law_kinds", "_law_name", "_law_kind", "_law_one"]
theorem sc_law_is_program : FnScope N_law_is_program ["_law_modes", "_law_rows"] (defScope s_law_is_program) := ⟨rfl, rfl, rfl, by decide +kernel, rfl, by decide +kernel, by decide +kernel⟩
theorem ok_l_is_program {f : Addr} {fd : FuncData} (F : Fun K "_law_is_program" "_law_is_program" s_law_is_program f fd) (T : Nm K mg) (bdict : mg "dict" = none) (Cl_is_number : Cal P w K mg base 2 "_law_is_number" ["_law_value", "_law_low", "_law_high"] spIntInG) (Cl_all_in : Cal P w K mg base 7 "_law_all_in" ["_law_piece"] (spAll K 6)) : FnOk P w K mg base CX0 8 f fd ["_law_modes", "_law_rows"] (spIsProg K) := by
  have nd := sc_law_is_program.nd
  refine F.ok sc_law_is_program (fun vs H Q E h => ?_) (fun cdv A outer s H vs Q E hr h => ?_)
  · obtain ⟨v, m, rl, rs, us, rfl, mv, sl, ra, l30, q⟩ := h
    rfl
  · obtain ⟨v, m, rl, rs, us, rfl, mv, sl, ra, l30, q⟩ := h
    skip
    refine ⟨_, (pss_cons (ps_if (PW.pt (pw_or (pt_not (pt_val (pe_own Cl_is_number (hr.mono (by decide)) (by rfl) (pa_cons (pv 0) (pa_cons pe_int (pa_cons pe_int pa_nil)))))) (pw_or1 (pt_not (pt_chain op_le op_le pe_int (pe_callB call_len (by rfl) T.b_len PySem.boot_len (pa_cons (pv 1) pa_nil)) pe_int)))))
  (pss_one (ps_ret pe_bl))
  pss_nil)
  (pss_cons (ps_set (i := 2) nd rfl (Or.inr rfl) (pe_callTy (call_dictP rfl) (by rfl) bdict (by decide +kernel) (pa_cons (pe_lc (own := [("_law_row", 3)]) (g := gName 3) (tt := tYes) rfl nd (pi_list (pv 1)) (blkOk_by (own := [("_law_row", 3)]) (N := N_law_is_program) (sc := defScope s_law_is_program) (by decide +kernel)) (fun _ _ _ _ _ => (pg_name (i := 3) nd rfl (Or.inl rfl))) (fun _ _ _ _ _ => pts_nil) (fun _ _ _ _ _ => (pe_tup (pa_cons (pe_ix (ix_listK (K := K) rfl) (pv 3) pe_int (fun _ _ => rfl)) (pa_cons (pe_lc (own := [("_law_name", 7), ("_law_kind", 8)]) (g := gTup K 2 (gCons (gName 7) (gCons (gName 8) gNil))) (tt := tYes) rfl nd (pi_tupK (K := K) rfl (pe_ix (ix_listK (K := K) rfl) (pv 3) pe_int (fun _ _ => rfl))) (blkOk_by (own := [("_law_name", 7), ("_law_kind", 8)]) (N := N_law_is_program) (sc := { kind := .function, names := [(".0", .local), ("_law_row", .local)], isGenerator := false, isCoroutine := false }) (by decide +kernel)) (fun _ _ _ _ _ => (pg_tup rfl (pgs_cons (pg_name (i := 7) nd rfl (Or.inl rfl)) (pgs_cons (pg_name (i := 8) nd rfl (Or.inl rfl)) pgs_nil)))) (fun _ _ _ _ _ => pts_nil) (fun _ _ _ _ _ => (pv 8))) pa_nil))))) pa_nil)))
  (pss_cons (ps_if (PW.pt (pw_or (pt_cmpR op_ne (pe_callB call_lenD (by rfl) T.b_len PySem.boot_len (pa_cons (pv 2) pa_nil)) (pe_callB call_len (by rfl) T.b_len PySem.boot_len (pa_cons (pv 1) pa_nil)) (nomark _)) (pw_or1 (pt_cmpR (op_neD hr.units) (pe_dget1 (u1 hr) (pv 2) pe_str ⟨rfl, by rfl, rfl, rfl⟩) (pe_lst pa_nil) (nomark _)))))
  (pss_one (ps_ret pe_bl))
  pss_nil)
  (pss_cons (ps_if (PW.pt (pw_and (pt_cmpR op_eq (pv 0) pe_int (nomark _)) (pw_and1 (pt_cmpR (op_neD hr.units) (pe_lc (own := [("_law_row", 3)]) (g := gName 3) rfl nd (pi_list (pv 1)) (blkOk_by (own := [("_law_row", 3)]) (N := N_law_is_program) (sc := defScope s_law_is_program) (by decide +kernel)) (fun _ _ _ _ _ => (pg_name (i := 3) nd rfl (Or.inl rfl))) (fun _ _ _ _ _ => pts_one (pt_cmpR (op_inK (K := K) rfl) pe_str (pe_dget (u1 hr) (pv 2) (pe_ix (ix_listK (K := K) rfl) (pv 3) pe_int (fun _ _ => rfl)) (fun _ _ => rfl)) (by rfl))) (fun _ _ _ _ _ => (pv 3))) (pe_lst pa_nil) (nomark _)))))
  (pss_one (ps_ret pe_bl))
  pss_nil)
  (pss_cons (ps_for PassesOwn.never rfl (pi_list (pv 1)) (pg_name (i := 3) nd rfl (Or.inl rfl))
  (pss_one (ps_for PassesOwn.never rfl (pi_list (pe_own Cl_all_in (hr.mono (by decide)) (by rfl) (pa_cons (pe_ix ix_list (pv 3) pe_int (fun _ _ => rfl)) pa_nil))) (pg_name (i := 4) nd rfl (Or.inl rfl))
  (pss_cons (ps_if (pt_cmpR op_eq (pe_ix ix_tup (pv 4) pe_int (fun _ _ => rfl)) pe_str (nomark _))
  (pss_cons (ps_setLc (i := 5) (own := [("_law_one", 9)]) (g := gName 9) rfl nd rfl rfl (sw_true rfl rfl rfl (by decide +kernel)) (pi_tup (pe_ix ix_tup (pv 4) pe_int (fun _ _ => rfl))) (blkOk_by (own := [("_law_one", 9)]) (N := N_law_is_program) (sc := defScope s_law_is_program) (by decide +kernel)) (fun _ _ _ _ _ => (pg_name (i := 9) nd rfl (Or.inl rfl))) (fun _ _ _ _ _ => pts_one (PW.pt (pw_and (pt_cmpR op_notN (pv 9) pe_non (nomark _)) (pw_and1 (pt_cmpR op_ge (pv 9) (pv 0) (nomark _)))))) (fun _ _ _ _ _ => (pv 9)))
  (pss_one (ps_if (PW.pt (pw_or (pt_cmpR (op_neD hr.units) (pv 5) (pe_lst pa_nil) (nomark _)) (pw_or1 (pt_cmpR op_ne (pe_callB call_len (by rfl) T.b_len PySem.boot_len (pa_cons (pe_ix ix_tup (pv 4) pe_int (fun _ _ => rfl)) pa_nil)) (pv 0) (nomark _)))))
  (pss_one (ps_ret pe_bl))
  pss_nil)))
  pss_nil)
  (pss_one (ps_if (pt_cmpR op_in_seq (pe_ix ix_tup (pv 4) pe_int (fun _ _ => rfl)) (pe_tup (pa_cons pe_str (pa_cons pe_str pa_nil))) (by rfl))
  (pss_cons (ps_setLc (i := 6) (own := [("_law_one", 9)]) (g := gName 9) (tt := tYes) rfl nd rfl rfl (sw_true rfl rfl rfl (by decide +kernel)) (pi_tup (pe_slice sl_tupA (pv 4) (po_some pe_int) po_none)) (blkOk_by (own := [("_law_one", 9)]) (N := N_law_is_program) (sc := defScope s_law_is_program) (by decide +kernel)) (fun _ _ _ _ _ => (pg_name (i := 9) nd rfl (Or.inl rfl))) (fun _ _ _ _ _ => pts_nil) (fun _ _ _ _ _ => (pe_ifExp (pt_cmpR (op_inK (K := K) rfl) (pe_ix (ix_tupK (K := K) rfl) (pv 9) pe_int (fun _ _ => rfl)) (pe_tup (pa_cons pe_str (pa_cons pe_str pa_nil))) (by rfl)) pe_str pe_str)))
  (pss_one (ps_if (pt_cmpR (op_neD hr.units) (pe_dget1 (u1 hr) (pv 2) (pe_ix ix_tup (pv 4) pe_int (fun _ _ => rfl)) ⟨rfl, by rfl, rfl, rfl⟩) (pe_op op_cat (pv 6) (pe_op op_rep (pe_lst (pa_cons pe_str pa_nil)) (pe_callTy call_int1 (by rfl) T.b_int (by decide +kernel) (pa_cons (pe_cmpR op_eq (pe_ix ix_tup (pv 4) pe_int (fun _ _ => rfl)) pe_str (nomark _)) pa_nil)))) (nomark _))
  (pss_one (ps_ret pe_bl))
  pss_nil)))
  pss_nil))))))
  (pss_one (ps_ret pe_bl))))))), ?_⟩

    have lx := ra.len
    refine ⟨_, rfl, v, m, 1, 3, rfl, mv, ?_⟩
    by_cases hm : modB m 1 3 = true
    case neg =>
      have hm := Bool.not_eq_true _ |>.mp hm
      rw [canB_mod _ hm] at q
      rw [hm]
      exact ⟨_, rfl, iteT (q H (.refl H))⟩
    obtain ⟨i, rfl⟩ : ∃ i, m = some i := by
      cases m with
      | none => cases hm
      | some i => exact ⟨i, rfl⟩
    rw [hm]
    cases mv
    have m12 : 1 ≤ i ∧ i ≤ 3 := by
      obtain ⟨h1, h2⟩ := Bool.and_eq_true_iff.mp (show (decide (1 ≤ i) && decide (i ≤ 3)) = true from hm)
      exact ⟨of_decide_eq_true h1, of_decide_eq_true h2⟩
    refine ⟨_, rfl, iteF ?_⟩
    have ln : (rs.map V.ref).length = us.length := by rw [List.length_map, lx]
    refine ⟨_, rfl, _, _, rfl, .inl ⟨_, sl, rfl⟩, _, _, rfl, rfl, _, rfl, ite2 (fun e1 => ?_) (fun e1 => ?b)⟩
    case b =>
      have n1 : ¬ 1 ≤ us.length := by
        have := of_decide_eq_false (Bool.not_eq_true _ |>.mp e1)
        omega
      rw [canB_are i (are_none n1)] at q
      exact ⟨_, rfl, iteT (q H (.refl H))⟩
    refine ⟨_, _, rfl, rfl, _, rfl, ite2 (fun e2 => ?a) (fun e2 => ?_)⟩
    case a =>
      have n1 : ¬ us.length ≤ 8 := by
        have e3 := (Bool.not_eq_true' _).mp e2
        have := of_decide_eq_false e3
        omega
      rw [canB_are i (are_long n1)] at q
      exact q H (.refl H)
    have few : us.length ≤ 8 := by
      have e3 := Bool.not_eq_false _ |>.mp (fun z => e2 ((Bool.not_eq_true' _).mpr z))
      have := of_decide_eq_true e3
      omega
    clear e1 e2
    refine ⟨_, rfl, rl, rfl, ⟨_, sl⟩, fun D nD => ?_⟩
    refine lc_list (xs := rs.map V.ref) (fun j H' => Same H H' ∧ ∃ (ps : List Addr) (kvs : List (Key × V)), H' D = some (.lst (ps.map V.ref)) ∧ ps.length = j ∧ Paired (fun p kv => SqT K H' p [kV kv.1, kv.2]) ps kvs ∧ LV H' kvs (us.take j) ∧ ∀ kv ∈ kvs, kv.2 ≠ V.ref D) ⟨same_upd nD, [], [], upd_same, rfl, .nil, .nil, fun _ z => nomatch z⟩ (fun j H' hj h => sqL_sm h.1 sl) (fun j x H1 hx h => ?_) (fun H1 h => ?_)
    · obtain ⟨sm, ps, kvs, eD, lj, pr, lv, nk⟩ := h
      obtain ⟨r, u, rfl, hu, rg⟩ := (ra.same sm).get hx
      have li := (List.getElem?_eq_some_iff.mp hx).1
      have po := rg.po
      obtain ⟨⟨ov, bv, h1, h2, h3⟩, -⟩ := rg
      obtain ⟨oa, os, rfl, so, ro⟩ := Dp.tup_inv (show Dp K H1 ov (.tuple (u.2.1.map parD)) from h2)
      have lo : os.length = u.2.1.length := by rw [DpAll.len ro, List.length_map]
      refine ⟨rfl, _, rfl, r, _, 0, _, rfl, rfl, .inl (.inl h1), at0, ?_⟩
      refine ⟨_, rfl, r, _, 1, _, rfl, rfl, .inl (.inl h1), at1, oa, rfl, ⟨_, so⟩, fun D2 nD2 => ?_⟩
      have nDD : D2 ≠ D := fun z => by
        rw [z, eD] at nD2
        cases nD2
      refine lc_tup (xs := os) (fun k H' => Same H1 H' ∧ H' D2 = some (.lst (((u.2.1.take k).map fun p => kd p.2).map V.str))) ⟨same_upd nD2, upd_same⟩ (fun k H' hk h => Same.sqT h.1 so) (fun k y H2 hy h => ?_) (fun H2 h => ?_)
      · obtain ⟨s2, e2⟩ := h
        obtain ⟨d, hd, dy⟩ := DpAll.get (DpAll.stay (.of s2) (pars_noL u.2.1) ro) hy
        rw [List.getElem?_map] at hd
        obtain ⟨z, hz, rfl⟩ := Option.map_eq_some_iff.mp hd
        have lk := (List.getElem?_eq_some_iff.mp hz).1
        obtain ⟨b, ys, rfl, sb, rb⟩ := Dp.tup_inv (show Dp K H2 y (.tuple [.str z.1, .str (kd z.2)]) from dy)
        cases rb with
        | cons y1 rb => cases rb with
          | cons y2 rb =>
          cases rb
          cases Dp.str_inv y1
          cases Dp.str_inv y2
          refine ⟨b, _, rfl, sb, rfl, _, _, rfl, _, _, rfl, rfl, ?_⟩
          refine ⟨rfl, _, rfl, _, e2, ?_, Same.set s2 nD2, ?_⟩
          · rw [List.length_map, List.length_map, List.length_take]
            exact small1000 (by have := po.few; omega)
          · rw [upd_same, take_more hz, List.map_append, List.map_append]
            rfl
      · obtain ⟨s2, e2⟩ := h
        rw [lo, List.take_length] at e2
        refine ⟨by show 2 ≤ sizeLine; decide, fun p np => ?_⟩
        have sp := same_upd (o := .tup [V.str u.1, V.ref D2]) np
        have ep : upd H2 p (.tup [V.str u.1, V.ref D2]) p = some (.tup [V.str u.1, V.ref D2]) := upd_same
        generalize upd H2 p (.tup [V.str u.1, V.ref D2]) = H3 at sp ep ⊢
        have s3 := s2.trans sp
        have eD3 := s3 _ _ eD
        have tk : TK H3 (upd H3 D (.lst (ps.map V.ref ++ [V.ref p]))) := TK.set eD3 rfl
        refine ⟨_, eD3, ?_, Same.set (sm.trans s3) nD, ps ++ [p], kvs ++ [(Sum.inr u.1, V.ref D2)], ?_, ?_, ?_, ?_, ?_⟩
        · rw [List.length_map]
          exact small1000 (by omega)
        · rw [upd_same, List.map_append]
          rfl
        · rw [List.length_append, lj]
          rfl
        · exact Paired.snoc (L2.Paired.mapP pr fun a b h => tk.sqT (Same.sqT s3 h)) (tk.sqT (.inl (.inl ep)))
        · rw [take_more hu]
          refine LV.upd ((lv.same s3).app (u := u) (sp _ _ e2)) fun kv hk => ?_
          rcases List.mem_append.mp hk with z | z
          · exact nk kv z
          · rw [List.mem_singleton.mp z]
            exact fun q => nDD (V.ref.inj q)
        · intro kv hk
          rcases List.mem_append.mp hk with z | z
          · exact nk kv z
          · rw [List.mem_singleton.mp z]
            exact fun q => nDD (V.ref.inj q)
    · obtain ⟨s1, ps, kvs, eD, lj, pr, lv, nk⟩ := h
      rw [ln, List.take_length] at lv
      refine ⟨D, ps, kvs, rfl, .inl (.inl eD), pr, fun tb nt => ?_⟩
      have s2 := s1.trans (same_upd (o := .dK (mergeK [] kvs)) nt)
      have et : upd H1 tb (.dK (mergeK [] kvs)) tb = some (.dK (mergeK [] kvs)) := upd_same
      have lv2 := lv.same (same_upd (o := .dK (mergeK [] kvs)) nt)
      have ni : NamesIn (mergeK [] kvs) us := lv.names .nil
      generalize upd H1 tb (.dK (mergeK [] kvs)) = H2 at s2 et lv2 ⊢
      have ra2 := ra.same s2
      have sl2 := sqL_sm s2 sl
      clear s1 eD pr lv nk nt
      refine ⟨_, rfl, tb, _, rfl, et, _, rfl, _, _, rfl, .inl ⟨_, sl2, rfl⟩, rfl, _, rfl, ?_⟩
      rw [int_dec, ln]
      by_cases nu : (us.map (·.1)).Nodup
      case neg =>
        have l := ni.lt nu
        rw [canB_are i (are_twice nu)] at q
        rw [decide_eq_false (show ¬ ((mergeK [] kvs).length : Int) = (us.length : Int) by omega)]
        exact iteT (q _ s2)
      have lm : LV H2 (mergeK [] kvs) us := lv2.merged .nil nu
      rw [decide_eq_true (show ((mergeK [] kvs).length : Int) = (us.length : Int) by rw [lm.len])]
      refine iteF ?_
      clear lv2 ni
      generalize mergeK [] kvs = kvt at et lm ⊢
      obtain ⟨g, hv, dv⟩ := lm.look (K := K) "main"
      refine ⟨_, rfl, tb, rfl, (.inl ⟨_, .inl et⟩), g, hv ▸ DGet.k (k := Sum.inr "main") et, Nat.zero_le _, fun p5 n5 => ?_⟩
      have s5 := same_upd (o := .lst []) n5
      refine ⟨_, .list [], dp_sm s5 dv, .lst (.inl (.inl upd_same)) .nil, lookL_shaped us _, rfl, ?_⟩
      rw [lookL_main]
      generalize upd H2 p5 (.lst []) = H3 at s5 ⊢
      have s3 := s2.trans s5
      by_cases mm : (tbOf us).lookup ("main" : Str) = some []
      case neg =>
        rw [canB_are i (are_main mm)] at q
        rw [decide_eq_false mm]
        exact ⟨_, rfl, iteT (q _ s3)⟩
      rw [decide_eq_true mm]
      refine ⟨_, rfl, iteF ?_⟩
      have ar := are_right few nu mm
      have et := s5 _ _ et
      have lm := lm.same s5
      have ra3 := ra2.same s5
      have sl3 := sqL_sm s5 sl2
      clear ra2 sl2 s2 s5 n5 hv dv
      refine ⟨_, rfl, rfl, _, rfl, ?_⟩
      rw [int_dec]
      by_cases i3 : i = 3
      case' pos =>
        rw [decide_eq_true i3]
        refine iteT ?_
        refine ⟨_, rfl, rl, rfl, ⟨_, sl3⟩, fun D3 nD3 => ?_⟩
        refine lc_list (xs := rs.map V.ref) (fun j H' => Same H3 H' ∧ ∃ ys, H' D3 = some (.lst ys) ∧ ys.length ≤ j ∧ DpAll K H3 ys (((us.take j).filter hasW).map rowD)) ⟨same_upd nD3, [], upd_same, Nat.zero_le _, .nil⟩ (fun j H' hj h => sqL_sm h.1 sl3) (fun j x H4 hx h => ?_) (fun H4 h => ?_)
        · obtain ⟨s4, ys, e4, ly, dy⟩ := h
          obtain ⟨r, u, rfl, hu, rg⟩ := ra3.get hx
          have li := (List.getElem?_eq_some_iff.mp hx).1
          have dr := rg.dp
          obtain ⟨⟨ov, bv, h1, h2, h3⟩, -⟩ := rg
          have lk : (tbOf us).lookup u.1 = some u.2.1 := look_rowG nu (List.mem_of_getElem? hu)
          obtain ⟨l, hl, el⟩ := lm.get lk
          refine ⟨rfl, _, rfl, _, rfl, r, _, 0, _, rfl, rfl, .inl (.inl (s4 _ _ h1)), at0, tb, .ref l, rfl, hl ▸ DGet.k (k := Sum.inr u.1) (s4 _ _ et), l, _, rfl, .inl (.inl (.inl (s4 _ _ el))), rfl, flat_strs _, _, rfl, ?_⟩
          rw [inV_strs, wrap_in]
          have e3 : ((us.take (j + 1)).filter hasW).map rowD = ((us.take j).filter hasW).map rowD ++ (if hasW u then [rowD u] else []) := by
            rw [take_more hu, List.filter_append, List.map_append, List.filter_cons]
            cases hasW u <;> rfl
          by_cases hw : u.2.1.any (·.2) = true
          · rw [hw]
            rw [show hasW u = true from hw] at e3
            refine iteT ?_
            refine ⟨_, rfl, ys, e4, small1000 (by omega), Same.set s4 nD3, ys ++ [.ref r], upd_same, ?_, ?_⟩
            · rw [List.length_append]
              show _ + 1 ≤ _
              omega
            · rw [e3]
              exact DpAll.app dy (.cons dr .nil)
          · have hw := Bool.not_eq_true _ |>.mp hw
            rw [hw]
            rw [show hasW u = false from hw] at e3
            refine iteF ⟨s4, ys, e4, by omega, ?_⟩
            rw [e3, show (if false = true then [rowD u] else []) = ([] : List PyData) from rfl, List.append_nil]
            exact dy
        obtain ⟨s4, ys, e4, ly, dy⟩ := h
        rw [ln, List.take_length] at dy
        refine ⟨Nat.zero_le _, fun p6 n6 => ?_⟩
        have s6 := same_upd (o := .lst []) n6
        refine ⟨_, .list [], .lst (.inl (.inl (s6 _ _ e4))) (dpAll_sm (s4.trans s6) dy), .lst (.inl (.inl upd_same)) .nil, rowsD_shaped fun u hu => ra3.r u (List.mem_filter.mp hu).1, rfl, ?_⟩
        rw [rowsD_none, hasW_none, Bool.not_not]
        have s7 := s4.trans s6
        generalize upd H4 p6 (.lst []) = H5 at s7 ⊢
        refine ⟨_, rfl, ?_⟩
        by_cases hw : wrapsIn us = true
        case pos =>
          rw [canB_wr us (by omega) hw] at q
          rw [hw]
          exact iteT (q _ (s3.trans s7))
        have hw := Bool.not_eq_true _ |>.mp hw
        rw [hw]
        refine iteF ?_
        have nw : (decide (2 < i) && wrapsIn us) = false := by rw [hw, Bool.and_false]
        have sH := s7
        clear hw s7 s6 s4 n6 e4 dy
      case' neg =>
        rw [decide_eq_false i3]
        have nw : (decide (2 < i) && wrapsIn us) = false := by
          rw [decide_eq_false (show ¬ 2 < i by omega), Bool.false_and]
        have sH := Same.refl H3
        refine iteF (iteF ?_)
      all_goals
        rw [canB_fit hm ar nw] at q
        clear nw
        refine ⟨_, rfl, rl, rfl, ⟨_, sqL_sm sH sl3⟩, for_list (xs := rs.map V.ref) (fun j σ H' => (∃ y3 y4 y5 y6 : Option V, σ = [some (.int i), some (.ref rl), some (.ref tb), y3, y4, y5, y6, none, none, none]) ∧ Same H3 H' ∧ (partsIn (us.take j)).all (fitT i us) = true) ⟨⟨_, _, _, _, rfl⟩, sH, rfl⟩ (fun j σ H' hj h => sqL_sm h.2.1 sl3) (fun j x σ H6 hx h => ?_) (fun σ H6 h => ?_)⟩
        · obtain ⟨⟨y3, y4, y5, y6, rfl⟩, s6, al⟩ := h
          obtain ⟨r, u, rfl, hu, rg⟩ := (ra3.same s6).get hx
          have li := (List.getElem?_eq_some_iff.mp hx).1
          obtain ⟨⟨ov, bv, h1, h2, h3⟩, po, wd, gd, nw, few', low⟩ := rg
          refine ⟨_, rfl, r, _, 2, _, rfl, rfl, .inl (.inl h1), at2, u.2.1, bv, u.2.2, rfl, h3, gd, low, by omega, fun H7 pp xs s7 np7 ep7 ry => ?_⟩
          have lxs : xs.length = u.2.2.all.length := by rw [DpAll.len ry, datas_len]
          refine ⟨pp, rfl, ⟨_, .inl (.inl ep7)⟩, for_list (xs := xs) (fun k σ H' => (∃ y4 y5 y6 : Option V, σ = [some (.int i), some (.ref rl), some (.ref tb), some (.ref r), y4, y5, y6, none, none, none]) ∧ Same H7 H' ∧ (u.2.2.all.take k).all (fitT i us) = true) ⟨⟨_, _, _, rfl⟩, .refl H7, rfl⟩ (fun k σ H' hk h => .inl (.inl (h.2.1 _ _ ep7))) (fun k y σ H8 hy h => ?_) (fun σ H8 h => ?_)⟩
          · obtain ⟨⟨y4', y5', y6', rfl⟩, s8, al8⟩ := h
            obtain ⟨t, ht, dt⟩ := datas_at (DpAll.tk (.of s8) (noL_datas _) ry) hy
            have mt : t ∈ u.2.2.all := List.mem_of_getElem? ht
            have gt := all_good gd t mt
            have inP : t ∈ partsIn us := parts_in (List.mem_of_getElem? hu) mt
            have s38 := s6.trans (s7.trans s8)
            have bad : fitT i us t = false → ∀ H', Same H8 H' → Q (.bl false) H' := fun f H' s => by
              have := q H' (s3.trans (s38.trans s))
              rw [parts_bad inP f] at this
              exact this
            have good : fitT i us t = true → (u.2.2.all.take (k + 1)).all (fitT i us) = true := fun f => by
              rw [take_more ht, List.all_append, al8, List.all_cons, f]
              rfl
            have et8 := s38 _ _ et
            have lm8 := lm.same s38
            have l40 : t.kids.length ≤ 40 := by
              have := (all_le u.2.2 t mt).2
              have e := count_eq t
              have f := kids_few t.kids
              omega
            clear al al8 s6 s7 ry hy ht
            obtain ⟨h, ks⟩ := t
            obtain ⟨a, rs', kv, rfl, sq, r1, r2⟩ := tm_open dt
            refine ⟨_, rfl, a, _, 0, _, rfl, rfl, sq, at0, rfl, _, rfl, ?_⟩
            rw [tag_dec h (j := 0)]
            refine ite2 (fun e0 => ?_) (fun e0 => ?_)
            · have hw : ∃ w t, h = .deed w t := by
                have e6 := of_decide_eq_true e0
                cases h <;> first | exact ⟨_, _, rfl⟩ | (simp [Hd.num] at e6)
              obtain ⟨w', t, rfl⟩ := hw
              have lt3 : t.length ≤ 3 := by
                cases gt with
                | mk ok _ _ =>
                  have h1 := (Bool.and_eq_true_iff.mp (Bool.and_eq_true_iff.mp (Bool.and_eq_true_iff.mp ok).1).1).2
                  exact (of_decide_eq_true h1).2
              have fitE : fitT i us (.mk (.deed w' t) ks) = (decide ((t.length : Int) = i) && (fars i t).isEmpty) := by
                rw [fars_fit]
                rfl
              cases r1 with
              | cons x1 r1 => cases r1 with
                | cons x2 r1 =>
                cases r1
                cases Dp.str_inv x1
                obtain ⟨b, es, rfl, sb, rb⟩ := Dp.tup_inv (show Dp K H8 _ (.tuple (t.map entryD)) from x2)
                have le : es.length = t.length := by rw [DpAll.len rb, List.length_map]
                refine ⟨_, rfl, a, _, 2, _, rfl, rfl, sq, at2, b, rfl, ⟨es, sb⟩, fun D9 n9 => ?_⟩
                refine lc_tup (xs := es) (fun k H' => Same H8 H' ∧ ∃ ys, H' D9 = some (.lst ys) ∧ ys.length ≤ k ∧ DpAll K H8 ys (fars i (t.take k))) ⟨same_upd n9, [], upd_same, Nat.zero_le _, .nil⟩ (fun k H' hk h => Same.sqT h.1 sb) (fun k z H9 hz h => ?_) (fun H9 h => ?_)
                · obtain ⟨s9, ys, e9, ly, dy⟩ := h
                  obtain ⟨d, hd, dz⟩ := DpAll.get rb hz
                  rw [List.getElem?_map] at hd
                  obtain ⟨e, he, rfl⟩ := Option.map_eq_some_iff.mp hd
                  have lk := (List.getElem?_eq_some_iff.mp he).1
                  have em := fars_more i he
                  cases e with
                  | none =>
                    cases dz
                    refine ⟨rfl, _, rfl, rfl, _, rfl, ?_⟩
                    refine iteF ⟨s9, ys, e9, by omega, ?_⟩
                    rw [em, List.append_nil]
                    exact dy
                  | some n =>
                    cases dz
                    refine ⟨rfl, _, rfl, rfl, _, rfl, iteT ?_⟩
                    refine ⟨_, rfl, _, rfl, _, _, rfl, rfl, _, rfl, ite2 (fun z1 => ?_) (fun z1 => ?_)⟩
                    · have z1 := of_decide_eq_true z1
                      refine ⟨_, rfl, ys, e9, small1000 (by omega), Same.set s9 n9, ys ++ [.int (n : Int)], upd_same, ?_, ?_⟩
                      · rw [List.length_append]
                        show _ + 1 ≤ _
                        omega
                      · rw [em]
                        show DpAll K H8 _ (_ ++ (if i ≤ (n : Int) then [.int (n : Int)] else []))
                        rw [if_pos z1]
                        exact DpAll.app dy (.cons (.int _) .nil)
                    · have z1 := of_decide_eq_false (Bool.not_eq_true _ |>.mp z1)
                      refine ⟨s9, ys, e9, by omega, ?_⟩
                      rw [em]
                      show DpAll K H8 _ (_ ++ (if i ≤ (n : Int) then [.int (n : Int)] else []))
                      rw [if_neg z1, List.append_nil]
                      exact dy
                · obtain ⟨s9, ys, e9, ly, dy⟩ := h
                  rw [le, List.take_length] at dy
                  refine ⟨_, rfl, Nat.zero_le _, fun p6 n6 => ?_⟩
                  have s6 := same_upd (o := .lst []) n6
                  refine ⟨_, .list [], .lst (.inl (.inl (s6 _ _ e9))) (dpAll_sm (s9.trans s6) dy), .lst (.inl (.inl upd_same)) .nil, ints_shaped (fars_ints i t), rfl, ?_⟩
                  rw [eqv_none]
                  have s8c := s9.trans s6
                  generalize upd H9 p6 (.lst []) = H10 at s8c ⊢
                  refine ⟨_, rfl, ?_⟩
                  by_cases fe : (fars i t).isEmpty = true
                  case neg =>
                    have fe := Bool.not_eq_true _ |>.mp fe
                    rw [fe]
                    exact iteT (bad (by rw [fitE, fe, Bool.and_false]) _ s8c)
                  rw [fe]
                  refine iteF ?_
                  have sb2 := Same.sqT s8c sb
                  have sq2 := Same.sqT s8c sq
                  refine ⟨_, rfl, a, _, 2, _, rfl, rfl, sq2, at2, _, _, rfl, .inr ⟨_, sb2, rfl⟩, _, rfl, rfl, _, rfl, ?_⟩
                  rw [int_dec, le]
                  by_cases lm2 : (t.length : Int) = i
                  case neg =>
                    rw [decide_eq_false lm2]
                    exact iteT (bad (by rw [fitE, decide_eq_false lm2]; rfl) _ s8c)
                  rw [decide_eq_true lm2]
                  refine iteF ?_
                  refine ⟨_, rfl, a, _, 0, _, rfl, rfl, sq2, at0, by show 2 ≤ sizeLine; decide, fun p7 n7 => ?_⟩
                  have s7c := s8c.trans (same_upd (o := .tup [V.str "call", V.str "with"]) n7)
                  refine ⟨p7, _, rfl, .inr (.inl (.inl upd_same)), rfl, rfl, _, rfl, ?_⟩
                  refine iteF ⟨⟨_, _, _, rfl⟩, s8.trans s7c, good (by rw [fitE, fe, decide_eq_true lm2]; rfl)⟩
            · refine ⟨_, rfl, a, _, 0, _, rfl, rfl, sq, at0, by show 2 ≤ sizeLine; decide, fun p7 n7 => ?_⟩
              have s7c := same_upd (o := .tup [V.str "call", V.str "with"]) n7
              refine ⟨p7, _, rfl, .inr (.inl (.inl upd_same)), rfl, rfl, _, rfl, ?_⟩
              generalize upd H8 p7 (.tup [V.str "call", V.str "with"]) = H9 at s7c ⊢
              have sq9 := Same.sqT s7c sq
              have kv9 := DpAll.tk (.of s7c) (noL_datas _) r2
              have gk : ∀ u ∈ ks, Good _ u := fun u hu => gt.kid hu
              have l40 : ks.length ≤ 40 := l40
              rcases tag_calls i us h ks e0 with ⟨n, rfl⟩ | ⟨n, rfl⟩ | ⟨hn, f⟩
              case inr.inr =>
                rw [hn]
                exact iteF ⟨⟨_, _, _, rfl⟩, s8.trans s7c, good f⟩
              all_goals
                have er := strs_inv [n] (show DpAll K H8 rs' ([n].map PyData.str) from r1)
                subst er
                refine iteT ?_
                refine ⟨_, rfl, _, rfl, ?_⟩
                dsimp only [tNoPart]
                refine cut_kids sq9 fun H10 p2 s10 sq10 => ?_
                have kv10 := DpAll.tk (.of s10) (noL_datas _) kv9
                have lkv : kv.length = ks.length := by rw [DpAll.len kv9, datas_len]
                refine ⟨p2, rfl, ⟨_, sq10⟩, fun D9 n9 => ?_⟩
                refine lc_tup (xs := kv) (fun k H' => Same H10 H' ∧ H' D9 = some (.lst (((ks.take k).map Tm.isW).map fun b => V.str (kd b)))) ⟨same_upd n9, upd_same⟩ (fun k H' hk h => Same.sqT h.1 sq10) (fun k z H11 hz h => ?_) (fun H11 h => ?_)
                · obtain ⟨s11, e11⟩ := h
                  obtain ⟨u1, hu1, du⟩ := datas_at (DpAll.tk (.of s11) (noL_datas _) kv10) hz
                  have lk1 := (List.getElem?_eq_some_iff.mp hu1).1
                  obtain ⟨h1', ks1⟩ := u1
                  obtain ⟨b1, rs1, kv1, rfl, sq1, -, -⟩ := tm_open du
                  refine ⟨rfl, _, rfl, b1, _, 0, _, rfl, rfl, sq1, at0, by show 2 ≤ sizeLine; decide, fun p8 n8 => ?_⟩
                  have s8c := same_upd (o := .tup [V.str "own", V.str "with"]) n8
                  refine ⟨p8, _, rfl, .inr (.inl (.inl upd_same)), rfl, rfl, _, rfl, ?_⟩
                  rw [tag_isW]
                  generalize upd H11 p8 (.tup [V.str "own", V.str "with"]) = H12 at s8c ⊢
                  have fin : ∀ bb : Bool, bb = h1'.isW → ∃ acc, H12 D9 = some (.lst acc) ∧ acc.length < sizeLine ∧ Same H10 (upd H12 D9 (.lst (acc ++ [V.str (kd bb)]))) ∧ (upd H12 D9 (.lst (acc ++ [V.str (kd bb)]))) D9 = some (.lst (((ks.take (k + 1)).map Tm.isW).map fun b => V.str (kd b))) := fun bb hb => by
                    refine ⟨_, s8c _ _ e11, ?_, Same.set (s11.trans s8c) n9, ?_⟩
                    · rw [List.length_map, List.length_map, List.length_take]
                      exact small1000 (by omega)
                    · rw [upd_same, take_more hu1, List.map_append, List.map_append, hb]
                      rfl
                  by_cases hw : h1'.isW = true
                  · rw [hw]
                    exact iteT (fin true hw.symm)
                  · have hw := Bool.not_eq_true _ |>.mp hw
                    rw [hw]
                    exact iteF (fin false hw.symm)
                obtain ⟨s11, e11⟩ := h
                rw [lkv, List.take_length] at e11
                have et11 := s11 _ _ (s10 _ _ (s7c _ _ et8))
                have lm11 := ((lm8.same s7c).same s10).same s11
                have sq11 := Same.sqT s11 (Same.sqT s10 sq9)
                obtain ⟨g, hv, dv⟩ := lm11.look (K := K) n
                refine ⟨_, rfl, tb, rfl, (.inl ⟨_, .inl et11⟩), _, rfl, a, _, 1, _, rfl, rfl, sq11, at1, g, hv ▸ DGet.k (k := Sum.inr n) et11, ?_⟩
                refine ⟨_, rfl, by show 1 ≤ sizeLine; decide, fun pB nB => ?_⟩
                have sB := same_upd (o := .lst [V.str "block"]) nB
                have eB : upd H11 pB (.lst [V.str "block"]) pB = some (.lst [V.str "block"]) := upd_same
                generalize upd H11 pB (.lst [V.str "block"]) = H12 at sB eB ⊢
                refine ⟨_, rfl, a, _, 0, _, rfl, rfl, Same.sqT sB sq11, at0, rfl, ?_⟩
                refine .inr ⟨_, rfl, ?_⟩
                first
                  | (obtain ⟨w0, hw0, hf⟩ := call_ex i us n ks; rw [hw0]; obtain ⟨bb, hbb⟩ : ∃ bb, fitT i us (.mk (.call n) ks) = bb := ⟨_, rfl⟩; rw [hbb] at hf bad good)
                  | (obtain ⟨w0, hw0, hf⟩ := wth_ex i us n ks; rw [hw0]; obtain ⟨bb, hbb⟩ : ∃ bb, fitT i us (.mk (.wth n) ks) = bb := ⟨_, rfl⟩; rw [hbb] at hf bad good)
                refine ⟨pB, _, _, rfl, rfl, eB, by cases w0 <;> decide, by cases w0 <;> decide, by cases w0 <;> decide, fun pC nC => ?_⟩
                have sC := same_upd (o := .lst (List.replicate ((if w0 = true then 1 else 0 : Int)).toNat [V.str "block"]).flatten) nC
                have eC : upd H12 pC (.lst (List.replicate ((if w0 = true then 1 else 0 : Int)).toNat [V.str "block"]).flatten) pC = some (.lst ((moreB w0).map fun b => V.str (kd b))) := by
                  rw [upd_same]
                  cases w0 <;> rfl
                generalize upd H12 pC (.lst (List.replicate ((if w0 = true then 1 else 0 : Int)).toNat [V.str "block"]).flatten) = H13 at sC eC ⊢
                have sBC := sB.trans sC
                refine ⟨D9, pC, _, _, rfl, rfl, sBC _ _ e11, eC, ?_, fun pE nE => ?_⟩
                · have l1 : (moreB w0).length ≤ 1 := by cases w0 <;> decide
                  rw [List.length_map, List.length_map, List.length_map]
                  exact Nat.le_of_lt (small16 (by omega))
                have sE := same_upd (o := .lst (((ks.map Tm.isW).map fun b => V.str (kd b)) ++ ((moreB w0).map fun b => V.str (kd b)))) nE
                refine ⟨_, kindsL (ks.map Tm.isW ++ moreB w0), dp_sm (sBC.trans sE) dv, dp_kindsL (.inl (.inl ?_)), lookL_shaped us n, kindsL_shaped _, ?_⟩
                · rw [upd_same, List.map_append]
                rw [lookL_eqv, ← hf]
                have sAll := s7c.trans (s10.trans (s11.trans (sBC.trans sE)))
                generalize upd H13 pE _ = H14 at sE sAll ⊢
                refine ⟨_, rfl, ?_⟩
                cases bb with
                | true => exact iteF ⟨⟨_, _, _, rfl⟩, s8.trans sAll, good rfl⟩
                | false => exact iteT (bad rfl _ sAll)
          · obtain ⟨⟨y4', y5', y6', rfl⟩, s8, al8⟩ := h
            rw [lxs, List.take_length] at al8
            refine ⟨⟨_, _, _, _, rfl⟩, s6.trans (s7.trans s8), ?_⟩
            rw [parts_more hu, List.all_append, al, al8]
            rfl
        · obtain ⟨⟨y3, y4, y5, y6, rfl⟩, s6, al⟩ := h
          rw [ln, List.take_length] at al
          rw [show partsFit i us = true from al] at q
          exact q _ (s3.trans s6)
end
end FS

set_option Elab.async false
set_option linter.all false
set_option maxRecDepth 100000
set_option maxHeartbeats 4000000
namespace FS
open PySem PySem.Spec PyProof.Rows L2
section
variable {P : Program} {w : World} {K : PySem.W.Frag} {mg : Str → Option Value} {base : Heap}
abbrev NProgram__eq__ : List Str := ["self", "other"]
theorem scProgram__eq__ : FnScope NProgram__eq__ ["self", "other"] (defScope sProgram__eq__) := ⟨rfl, rfl, rfl, by decide +kernel, rfl, by decide +kernel, by decide +kernel⟩
theorem ok_Program__eq__ {f : Addr} {fd : FuncData} (F : Fun K "__eq__" "Program.__eq__" sProgram__eq__ f fd) (T : Nm K mg) {CP C : Addr} (PC : PgC K mg CP) (G : PrG P w K mg base C) : FnOk P w K mg base CX0 3 f fd ["self", "other"] (spPgEq K CP C) := by
  have nd := scProgram__eq__.nd
  refine F.ok scProgram__eq__ (fun vs H Q E h => ?_) (fun cdv A outer s H vs Q E hr h => ?_)
  · obtain ⟨a, y, m, us, xs, rfl, pt, q⟩ := h
    rfl
  · obtain ⟨a, y, m, us, xs, rfl, pt, q⟩ := h
    skip
    refine ⟨_, (pss_one (ps_ret (pe_and (pe_callB call_isi (by rfl) T.b_isinstance (by decide +kernel) (pa_cons (pv 1) (pa_cons (pe_glob (v := .ref CP) (by rfl) PC.gC rfl) pa_nil))) (pe_and (pe_cmpR op_eq (pe_fld (pv 0) rfl) (pe_fld (pv 1) rfl) (nomark _)) (pe_one (pe_cmpR (op_eqT G (hr.mono (by decide))) (pe_fld (pv 0) rfl) (pe_fld (pv 1) rfl) (nomark _))))))), ?_⟩

    obtain ⟨dx, pv', dv, nv, wv, kvs, ns, ws, h1, h2, h3, -⟩ := pt
    rcases q with ⟨ty, ht, hk, q⟩ | ⟨b, m', vs', ys, rfl, ⟨dx', pv2, dv', nv', wv', kvs', ns', ws', h1', h2', h3', -⟩, ap, q⟩
    · exact ⟨_, rfl, _, _, _, _, false, rfl, .own CP, ht, hk, false, rfl, q⟩
    · have ty : TyX K H (.ref b) (.ref CP) := .base (.ins h1' PC.cl PC.ha PC.hn PC.htk PC.hm)
      refine ⟨_, rfl, _, _, _, _, true, rfl, .own CP, ty, PC.self, true, rfl, iteT ?_⟩
      refine ⟨_, rfl, a, CP, dx, _, _, rfl, h1, PC.cl, PC.a1, lkH, _, rfl, b, CP, dx', _, _, rfl, h1', PC.cl, PC.a1, lkH, rfl, _, rfl, ?_⟩
      rw [int_dec]
      by_cases e : m = m'
      · rw [decide_eq_true e, Bool.true_and] at q
        rw [decide_eq_true e]
        refine iteT ?_
        exact ⟨_, rfl, a, CP, dx, _, _, rfl, h1, PC.cl, PC.a2, gl2, _, rfl, b, CP, dx', _, _, rfl, h1', PC.cl, PC.a2, gl2, pv', pv2, xs, ys, us, vs', rfl, rfl, h2, h2', h3, h3', ap, q⟩
      · rw [decide_eq_false e, Bool.false_and] at q
        rw [decide_eq_false e]
        exact q
end
end FS

set_option Elab.async false
set_option linter.all false
set_option maxRecDepth 100000
set_option maxHeartbeats 4000000
namespace FS
open PySem PySem.Spec PyProof.Rows L2
section
variable {P : Program} {w : World} {K : PySem.W.Frag} {mg : Str → Option Value} {base : Heap}
abbrev N_law_is_number : List Str := ["_law_value", "_law_low", "_law_high"]
theorem sc_law_is_number : FnScope N_law_is_number ["_law_value", "_law_low", "_law_high"] (defScope s_law_is_number) := ⟨rfl, rfl, rfl, by decide +kernel, rfl, by decide +kernel, by decide +kernel⟩
theorem ok_l_is_number {f : Addr} {fd : FuncData} (F : Fun K "_law_is_number" "_law_is_number" s_law_is_number f fd) (T : Nm K mg) : FnOk P w K mg base CX0 2 f fd ["_law_value", "_law_low", "_law_high"] (spIntInG) := by
  have nd := sc_law_is_number.nd
  refine F.ok sc_law_is_number (fun vs H Q E h => ?_) (fun cdv A outer s H vs Q E hr h => ?_)
  · obtain ⟨v, o, a, b, rfl, mv, q⟩ := h
    rfl
  · obtain ⟨v, o, a, b, rfl, mv, q⟩ := h
    skip
    refine ⟨_, (pss_one (ps_ret (pe_and (pe_callB call_isi (by rfl) T.b_isinstance (by decide +kernel) (pa_cons (pv 0) (pa_cons (pe_bltn (v := .ty "int") (by rfl) T.b_int (by decide +kernel) rfl) pa_nil))) (pe_and (pe_not (pe_callB call_isi (by rfl) T.b_isinstance (by decide +kernel) (pa_cons (pv 0) (pa_cons (pe_bltn (v := .ty "bool") (by rfl) T.b_bool (by decide +kernel) rfl) pa_nil)))) (pe_one (pe_chain op_le op_le (pv 1) (pv 0) (pv 2))))))), ?_⟩

    cases mv with
    | int i =>
      have q : Q (.bl (decide (a ≤ i) && decide (i ≤ b))) H := q
      refine ⟨_, rfl, _, _, _, _, true, rfl, .ty "int", .base (.int i), kit_ty (show kitB "int" "int" = some true by decide +kernel), true, rfl, ?_⟩
      refine ⟨_, rfl, _, _, _, _, false, rfl, .ty "bool", .base (.int i), kit_ty (show kitB "int" "bool" = some false by decide +kernel), false, rfl, ?_⟩
      refine ⟨true, rfl, ?_⟩
      refine iteT ?_
      refine ⟨_, rfl, _, rfl, _, _, rfl, rfl, _, rfl, ite2 (fun e1 => ?_) (fun e1 => ?_)⟩
      · refine ⟨_, rfl, _, _, rfl, rfl, ?_⟩
        rw [e1, Bool.true_and] at q
        exact q
      · rw [Bool.not_eq_true _ |>.mp e1, Bool.false_and] at q
        exact q
    | bl x =>
      refine ⟨_, rfl, _, _, _, _, true, rfl, .ty "int", .base (.bl x), kit_ty (show kitB "bool" "int" = some true by decide +kernel), true, rfl, ?_⟩
      refine ⟨_, rfl, _, _, _, _, true, rfl, .ty "bool", .base (.bl x), kit_ty (show kitB "bool" "bool" = some true by decide +kernel), true, rfl, ?_⟩
      exact ⟨false, rfl, q⟩
    | non =>
      exact ⟨_, rfl, _, _, _, _, false, rfl, .ty "int", .base .non, kit_ty (show kitB "NoneType" "int" = some false by decide +kernel), false, rfl, q⟩
end
end FS

set_option Elab.async false
set_option linter.all false
set_option maxRecDepth 100000
set_option maxHeartbeats 4000000
namespace FS
open PySem PySem.Spec PyProof.Rows L2
section
variable {P : Program} {w : World} {K : PySem.W.Frag} {mg : Str → Option Value} {base : Heap}
abbrev NProgram__init__ : List Str := ["self", "modes", "procedures", "procedure", "word"]
theorem scProgram__init__ : FnScope NProgram__init__ (([("self" : Str), ("modes" : Str)]) ++ [("procedures" : Str)]) (defScope sProgram__init__) := ⟨rfl, rfl, rfl, by decide +kernel, rfl, by decide +kernel, by decide +kernel⟩
theorem ok_Program__init__G {f : Addr} {fd : FuncData} (F : Fun K "__init__" "Program.__init__" sProgram__init__ f fd) (T : Nm K mg) {CP C CI : Addr} (B : Bad K mg CI) (ne : CP ≠ C) (PC : PgC K mg CP) (G : PrG P w K mg base C) (Rnamed : PrP P w K mg base C "named" "_named") (Rwords : PrP P w K mg base C "words" "_words")
    (Ccan_make_program : Cal P w K mg base 9 "can_make_program" ["modes", "procedures"] (spCanG K C)) (Chave_wraps : Cal P w K mg base 3 "have_wraps" ["procedures"] (spHave K C)) : FnR P w K mg base (L2.CX P w) 10 f (spPgInitG K CP C CI) := by
  have nd := scProgram__init__.nd
  refine (okStarX (k := 9) (ps := [("self" : Str), ("modes" : Str)]) (pv := ("procedures" : Str)) (sp := spPgInG K CP C CI) F scProgram__init__ (fun kV doc pm an cdv ct => StX.bind_star2 (B := fun a => bindArgs (PySem.W.fnOf "__init__" "Program.__init__" (defArgs sProgram__init__) (defBody sProgram__init__) (defScope sProgram__init__) .none kV doc pm an cdv ct) ⟨a, []⟩) (fun _ _ => rfl) (fun _ _ _ _ => rfl)) fun cdv A outer s H vs Q E hr h => ?_).imp fun vs H Q E h => init_inG h
  obtain ⟨x, dx, D, v, mo, p, xs, o, rfl, hx, hp, mv, gv, l100, q, qe⟩ := h
  refine ⟨_, (pss_cons (ps_if (pt_not (pt_val (pe_own Ccan_make_program (hr.mono (by decide)) (by rfl) (pa_cons (pv 1) (pa_cons (pv 2) pa_nil)))))
  (pss_one (ps_raise rfl (takes_of rfl rfl rfl rfl) (pmk_own PySem.F.excBase_ValueError B.xI B.gI B.kI (raises_own B.bI B.tI) rfl)))
  pss_nil)
  (PSs.nox (pss_cons (ps_fld (pv 0) (pv 1) rfl)
  (pss_cons (ps_fld (pv 0) (pv 2) rfl)
  (pss_cons (ps_fld (pv 0) (pe_dc (own := [("procedure", 3)]) (g := gName 3) (tt := tYes) rfl nd (pi_tup (pv 2)) (blkOk_by (own := [("procedure", 3)]) (N := NProgram__init__) (sc := defScope sProgram__init__) (by decide +kernel)) (fun _ _ _ _ _ => (pg_name (i := 3) nd rfl (Or.inl rfl))) (fun _ _ _ _ _ => pts_nil) (fun _ _ _ _ _ => (pe_prK Rnamed rfl rfl rfl rfl rfl G.c.cl (hr.mono (by decide)) (pv 3) rfl)) (fun _ _ _ _ _ => (pv 3))) rfl)
  (pss_cons (ps_fld (pv 0) (pe_callTy call_tuple_of (by rfl) T.b_tuple (by decide +kernel) (pa_cons (pe_callB (call_sortedD rfl) (by rfl) T.b_sorted (by decide +kernel) (pa_cons (pe_fld (pv 0) rfl) pa_nil)) pa_nil)) rfl)
  (pss_cons (ps_fld (pv 0) (pe_callTy call_tuple_of (by rfl) T.b_tuple (by decide +kernel) (pa_cons (pe_callB (cr_ranked rfl) (by rfl) T.b_sorted (by decide +kernel) (pa_cons (pe_set2 (own := [("procedure", 3), ("word", 4)]) (vs1 := [4]) (g := gName 3) (g1 := gName 4) (tt := tYes) (tt1 := tYes) rfl nd (pi_tup (pv 2)) (blkOk_by (own := [("procedure", 3), ("word", 4)]) (N := NProgram__init__) (sc := defScope sProgram__init__) (by decide +kernel)) (by decide) (fun _ _ _ _ _ => (pg_name (i := 3) nd rfl (Or.inl rfl))) (fun _ _ _ _ _ => pts_nil) (fun _ _ _ _ _ => (pi_tupK (K := K) rfl (pe_prK Rwords rfl rfl rfl rfl rfl G.c.cl (hr.mono (by decide)) (pv 3) rfl))) (fun _ _ _ _ _ => (pg_name (i := 4) nd rfl (Or.inl rfl))) (fun _ _ _ _ _ => pts_nil) (fun _ _ _ _ _ => (pv 4))) pa_nil)) pa_nil)) rfl)
  (pss_one (ps_fld (pv 0) (pe_own Chave_wraps (hr.mono (by decide)) (by rfl) (pa_cons (pv 2) pa_nil)) rfl))))))))), ?_⟩
  refine ⟨_, rfl, _, rfl, p, D, v, mo, xs, o, rfl, mv, .inl (.inl hp), gv, l100, fun H1 s1 => ?_⟩
  by_cases hc : canB mo o = true
  case neg =>
    have hc := Bool.not_eq_true _ |>.mp hc
    rw [hc]
    exact ⟨_, rfl, iteT (qe hc _ s1)⟩
  obtain ⟨m, us, rfl, rfl, m1, m3, few, nuN⟩ := canB_true hc
  have q := q m us rfl rfl hc
  rw [hc]
  cases mv
  have ps : PsAt K C H xs us := by
    cases gv with
    | ps h => exact h
  clear qe gv hc
  have lx := ps.len
  have fin : ∀ {H' H'' : Hp} {fs : List (Str × V)} {y : V} {g : Str}, Kp x H H' → H' x = some (.ins CP dx fs) → upd H' x (.ins CP dx (putF g y fs)) = H'' → Kp x H H'' ∧ H'' x = some (.ins CP dx (putF g y fs)) ∧ TK H' H'' ∧ Kp x H' H'' := fun k e h => by
    subst h
    exact ⟨k.trans .set, upd_same, TK.set e rfl, .set⟩
  have pss : ∀ {H' H'' : Hp} {fs : List (Str × V)}, PsAt K C H' xs us → Kp x H' H'' → H' x = some (.ins CP dx fs) → PsAt K C H'' xs us := fun a k e => a.kp k e rfl (fun _ z => by cases z) (fun _ _ _ z => by cases z; exact ne)
  refine ⟨_, rfl, iteF ?_⟩
  have k1 : Kp x H H1 := .of s1
  have hx1 := s1 _ _ hx
  have hp1 := s1 _ _ hp
  have ps1 := ps.same s1
  have npx : p ≠ x := fun z => by
    rw [z, hx] at hp
    cases hp
  clear s1 hx hp ps
  refine ⟨_, rfl, _, rfl, x, CP, dx, [], rfl, hx1, PC.cl, PC.a1, by show 0 < 1000; decide, ?_⟩
  generalize hh : upd H1 x _ = H2
  obtain ⟨k2, hx2, t2, j2⟩ := fin k1 hx1 hh
  have hp2 := j2 _ _ npx hp1
  have ps2 := pss ps1 j2 hx1
  clear hh t2 j2 hx1 hp1 ps1 k1
  refine ⟨_, rfl, _, rfl, x, CP, dx, _, rfl, hx2, PC.cl, PC.a2, by show 1 < 1000; decide, ?_⟩
  generalize hh : upd H2 x _ = H3
  rw [show putF "_modes" (V.int m) [] = [(("_modes" : Str), V.int m)] from rfl] at hx2 hh
  obtain ⟨k3, hx3, t3, j3⟩ := fin k2 hx2 hh
  rw [qf2] at hx3
  have hp3 := j3 _ _ npx hp2
  have ps3 := pss ps2 j3 hx2
  clear hh t3 j3 hx2 hp2 ps2 k2
  -- the dict
  refine ⟨_, rfl, p, rfl, ⟨xs, .inl (.inl hp3)⟩, fun D nD => ?_⟩
  refine dc_tup (xs := xs) (fun i H' => Same H3 H' ∧ ∃ kvs, H' D = some (.dK kvs) ∧ ByV kvs (xs.take i) (us.take i)) ⟨same_upd nD, [], upd_same, .nil⟩ (fun i H' hi h => .inl (.inl (h.1 _ _ hp3))) (fun i y H4 hy h => ?_) (fun H4 h => ?_)
  · obtain ⟨sm, kvs, eD, kv⟩ := h
    obtain ⟨a, u, rfl, hu, pa⟩ := (ps3.same sm).get hy
    have li := (List.getElem?_eq_some_iff.mp hy).1
    obtain ⟨⟨dx', pv', bv, pb, ka, wa, ua, ys, ws, vs, h1, -⟩, -⟩ := pa
    have lk := kv.len
    rw [List.length_take] at lk
    refine ⟨rfl, _, rfl, a, dx', _, rfl, h1, a, dx', _, _, rfl, h1, lk1, _, rfl, kvs, Sum.inr u.1, rfl, eD, small1000 (by omega), Same.set sm nD, _, upd_same, ?_⟩
    rw [take_more hu, take_more hy]
    exact kv.put (fresh_u nuN hu)
  · obtain ⟨sm, kvs, eD, kv⟩ := h
    rw [List.take_length, lx, List.take_length] at kv
    have hx4 := sm _ _ hx3
    have hp4 := sm _ _ hp3
    have k4 := k3.trans (.of sm)
    have ps4 := ps3.same sm
    have nDx : D ≠ x := fun z => by
      rw [z, hx3] at nD
      cases nD
    clear sm nD hx3 hp3 k3 ps3
    refine ⟨_, rfl, x, CP, dx, _, rfl, hx4, PC.cl, PC.a3, by show 2 < 1000; decide, ?_⟩
    generalize hh : upd H4 x _ = H5
    obtain ⟨k5, hx5, t5, j5⟩ := fin k4 hx4 hh
    rw [qf3] at hx5
    have hp5 := j5 _ _ npx hp4
    have ps5 := pss ps4 j5 hx4
    have hd5 := j5 _ _ nDx eD
    clear hh t5 j5 hx4 hp4 ps4 k4 eD
    -- the names
    have kk : kvs.length = us.length := kv.len
    refine ⟨_, rfl, x, CP, dx, _, _, rfl, hx5, PC.cl, PC.a3, qlk3, D, kvs, us.map (·.1), rfl, .inl hd5, kv.keys, ?_, fun ns q1 pm so nq => ?_⟩
    · rw [List.length_map]
      omega
    have s2 := same_upd (o := .lst (ns.map V.str)) nq
    have e2 : upd H5 q1 (.lst (ns.map V.str)) q1 = some (.lst (ns.map V.str)) := upd_same
    generalize upd H5 q1 (.lst (ns.map V.str)) = H6 at s2 e2 ⊢
    refine ⟨q1, _, rfl, .inl ⟨.inl (.inl e2), fun na nn => ?_⟩⟩
    have s3 := s2.trans (same_upd (o := .tup (ns.map V.str)) nn)
    have e3 : upd H6 na (.tup (ns.map V.str)) na = some (.tup (ns.map V.str)) := upd_same
    generalize upd H6 na (.tup (ns.map V.str)) = H7 at s3 e3 ⊢
    have dns7 : Dp K H7 (.ref na) (strsD ns) := .tup (.inl (.inl e3)) (dp_strs ns)
    have rns : Ranks (us.map (·.1)) ns := ranks_nd nuN pm so
    have hx7 := s3 _ _ hx5
    have hp7 := s3 _ _ hp5
    have ps7 := ps5.same s3
    have hd7 := s3 _ _ hd5
    have k7 := k5.trans (.of s3)
    clear pm so nq s2 e2 nn s3 e3 hx5 hp5 ps5 hd5 k5
    refine ⟨_, rfl, x, CP, dx, _, rfl, hx7, PC.cl, PC.a4, by show 3 < 1000; decide, ?_⟩
    generalize hh : upd H7 x _ = H8
    obtain ⟨k8, hx8, t8, j8⟩ := fin k7 hx7 hh
    rw [qf4] at hx8
    have hp8 := j8 _ _ npx hp7
    have ps8 := pss ps7 j8 hx7
    have hd8 := j8 _ _ nDx hd7
    have dns8 := Dp.tk t8 (strs_noL ns) dns7
    clear hh t8 j8 hx7 hp7 ps7 hd7 dns7 k7
    -- the words
    refine ⟨_, rfl, p, rfl, ⟨xs, .inl (.inl hp8)⟩, fun D2 nD2 => ?_⟩
    refine wk_tup (xs := xs) (fun i H' => Same H8 H' ∧ ∃ ls, H' D2 = some (SO w D2 (uniq ls)) ∧ ls.length ≤ 40 * i ∧ ∀ z, z ∈ ls ↔ z ∈ wordsOf (us.take i)) ⟨same_upd nD2, [], upd_same, Nat.zero_le _, fun z => Iff.rfl⟩ (fun i H' hi h => .inl (.inl (h.1 _ _ hp8))) (fun i y H9 hy h => ?_) (fun H9 h => ?_)
    · obtain ⟨sm, ls, eD, ll, lm⟩ := h
      obtain ⟨a, u, rfl, hu, pa⟩ := (ps8.same sm).get hy
      have li := (List.getElem?_eq_some_iff.mp hy).1
      obtain ⟨⟨dx', pv', bv, pb, ka, wa, ua, ys, ws, vs, h1, h2, h3, h4, h5, h6, h7, h8, h9, h10⟩, wd, po, gd, nw, few', low⟩ := pa
      have lw : ws.length ≤ 40 := by
        have := h9.few
        have := List.length_filterMap_le wordOf u.2.2.all
        have e : u.2.2.all.length = u.2.2.count := rfl
        omega
      obtain ⟨aw, zs, ez, sz, rz⟩ := Dp.tup_inv (show Dp K H9 (.ref wa) (.tuple (ws.map PyData.str)) from h7)
      cases ez
      have ez3 := strs_inv ws rz
      subst ez3
      refine ⟨rfl, _, rfl, a, dx', _, rfl, h1, a, dx', _, _, rfl, h1, lk6, wa, rfl, ⟨_, sz⟩, ?_⟩
      refine wk_tup (xs := ws.map V.str) (fun j H' => Same H8 H' ∧ TK H9 H' ∧ ∃ ls', H' D2 = some (SO w D2 (uniq ls')) ∧ ls'.length ≤ 40 * i + j ∧ ∀ z, z ∈ ls' ↔ z ∈ wordsOf (us.take i) ∨ z ∈ ws.take j) ⟨sm, .refl _, ls, eD, by omega, fun z => by rw [lm, List.take_zero]; simp⟩ (fun j H' hj h => h.2.1.sqT sz) (fun j y H10 hy' h => ?_) (fun H10 h => ?_)
      · obtain ⟨s10, t10, ls', e10, l10, m10⟩ := h
        rw [List.getElem?_map] at hy'
        obtain ⟨z, hz, rfl⟩ := Option.map_eq_some_iff.mp hy'
        have lj := (List.getElem?_eq_some_iff.mp hz).1
        refine ⟨rfl, _, rfl, z, _, rfl, e10, ?_, Same.set s10 nD2, t10.trans (TK.set e10 rfl), ls' ++ [z], ?_, ?_, ?_⟩
        · have := uniq_len ls'
          have e : scanBound = 4096 := rfl
          omega
        · rw [upd_same, uniq_put]; rfl
        · rw [List.length_append]
          show _ + 1 ≤ _
          omega
        · intro z'
          rw [List.mem_append, m10, take_more hz, List.mem_append, or_assoc]
      · obtain ⟨s10, t10, ls', e10, l10, m10⟩ := h
        rw [List.length_map] at l10 m10
        refine ⟨s10, ls', e10, by omega, fun z => ?_⟩
        rw [m10, words_more hu, List.take_length, h9.miff]
    · obtain ⟨s9, ls, eD, ll, lm⟩ := h
      rw [lx, List.take_length] at lm
      refine ⟨D2, _, rfl, eD, by have := uniq_len ls; omega, fun ws q1 pm so nq => ?_⟩
      have s2 := s9.trans (same_upd (o := .lst (ws.map V.str)) nq)
      have e2 : upd H9 q1 (.lst (ws.map V.str)) q1 = some (.lst (ws.map V.str)) := upd_same
      generalize upd H9 q1 (.lst (ws.map V.str)) = G2 at s2 e2 ⊢
      refine ⟨q1, _, rfl, .inl ⟨.inl (.inl e2), fun wa nw' => ?_⟩⟩
      have s3 := s2.trans (same_upd (o := .tup (ws.map V.str)) nw')
      have e3 : upd G2 wa (.tup (ws.map V.str)) wa = some (.tup (ws.map V.str)) := upd_same
      generalize upd G2 wa (.tup (ws.map V.str)) = G3 at s3 e3 ⊢
      have dws3 : Dp K G3 (.ref wa) (strsD ws) := .tup (.inl (.inl e3)) (dp_strs ws)
      have rws : Ranks (wordsOf us) ws := ranks_of pm so lm
      have hx9 := s3 _ _ hx8
      have hp9 := s3 _ _ hp8
      have ps9 := ps8.same s3
      have hd9 := s3 _ _ hd8
      have dns9 := Dp.tk (.of s3) (strs_noL ns) dns8
      have k9 := k8.trans (.of s3)
      clear s9 eD ll lm pm so nq s2 e2 nw' s3 e3 hx8 hp8 ps8 hd8 dns8 k8 nD2
      refine ⟨_, rfl, x, CP, dx, _, rfl, hx9, PC.cl, PC.a5, by show 4 < 1000; decide, ?_⟩
      generalize hh : upd G3 x _ = G4
      obtain ⟨k4, hx4, t4, j4⟩ := fin k9 hx9 hh
      rw [qf5] at hx4
      have hp4 := j4 _ _ npx hp9
      have ps4 := pss ps9 j4 hx9
      have hd4 := j4 _ _ nDx hd9
      have dns4 := Dp.tk t4 (strs_noL ns) dns9
      have dws4 := Dp.tk t4 (strs_noL ws) dws3
      clear hh t4 j4 hx9 hp9 ps9 hd9 dns9 k9 dws3
      refine ⟨_, rfl, p, xs, us, rfl, .inl (.inl hp4), ps4, few, fun G5 s5 => ?_⟩
      have hx5 := s5 _ _ hx4
      refine ⟨_, rfl, x, CP, dx, _, rfl, hx5, PC.cl, PC.a6, by show 5 < 1000; decide, ?_⟩
      generalize hh : upd G5 x _ = G6
      obtain ⟨k6, hx6, t6, j6⟩ := fin (k4.trans (.of s5)) hx5 hh
      rw [qf6] at hx6
      have tt := (TK.of s5).trans t6
      exact q G6 ⟨dx, p, D, na, wa, kvs, ns, ws, hx6, .inl (.inl (j6 _ _ npx (s5 _ _ hp4))), pss (ps4.same s5) j6 hx5, few, j6 _ _ nDx (s5 _ _ hd4), kv, Dp.tk tt (strs_noL ns) dns4, rns, Dp.tk tt (strs_noL ws) dws4, rws, m1, m3⟩ k6
end
end FS

set_option Elab.async false
set_option linter.all false
set_option maxRecDepth 100000
set_option maxHeartbeats 4000000
namespace FS
open PySem PySem.Spec PyProof.Rows L2
section
variable {P : Program} {w : World} {K : PySem.W.Frag} {mg : Str → Option Value} {base : Heap}
abbrev NProgramof : List Str := ["cls", "modes", "procedures"]
theorem scProgramof : FnScope NProgramof ["cls", "modes", "procedures"] (defScope sProgramof) := ⟨rfl, rfl, rfl, by decide +kernel, rfl, by decide +kernel, by decide +kernel⟩
theorem ok_Programof_G {f : Addr} {fd : FuncData} (F : Fun K "of" "Program.of" sProgramof f fd) (T : Nm K mg) {CP C CI fI : Addr} (B : Bad K mg CI) (PC : PgC K mg CP) (MI : Mk K CP fI) (FI : FnR P w K mg base (L2.CX P w) 10 fI (spPgInitG K CP C CI)) : FnOk P w K mg base (L2.CX P w) 12 f fd ["cls", "modes", "procedures"] (spPgOfG K CP C CI) := by
  have nd := scProgramof.nd
  refine F.okX scProgramof (fun vs H Q E h => ?_) (fun cdv A outer s H vs Q E hr h => ?_)
  · obtain ⟨v, pv', m, rfl, mv, q⟩ := h
    rfl
  · obtain ⟨v, pv', m, rfl, mv, q⟩ := h
    skip
    refine ⟨_, (pss_cons (ps_if (pt_not (pt_val (pe_callB call_isi (by rfl) T.b_isinstance (by decide +kernel) (pa_cons (pv 2) (pa_cons (pe_bltn (v := .ty "tuple") (by rfl) T.b_tuple (by decide +kernel) rfl) pa_nil)))))
  (pss_one (ps_raise rfl (takes_of rfl rfl rfl rfl) (pmk_own PySem.F.excBase_ValueError B.xI B.gI B.kI (raises_own B.bI B.tI) rfl)))
  pss_nil)
  (pss_one (ps_ret (pe_makeV (k := 10) (E := E) MI FI (hr.mono (by decide)) (passes_call (takes_of rfl rfl rfl rfl) (fun _ _ _ _ h => h)) (pv 0) (pa_cons (pv 1) (StX.pa_star (pv 2) pa_nil)))))), ?_⟩

    rcases q with ⟨p, D, xs, o, rfl, sq, gv, l100, q, qe⟩ | ⟨⟨t, ty, kt⟩, qe⟩
    · refine ⟨_, rfl, _, _, _, _, true, rfl, .ty "tuple", ty_tup sq, kit_ty (by decide +kernel), true, rfl, iteF ?_⟩
      refine ⟨_, rfl, rfl, _, rfl, _, rfl, p, xs, rfl, .inl sq, ?_⟩
      intro x dx nx nd ne
      have s1 : Same H (upd (upd H dx (.own x)) x (.ins CP dx [])) := fun b o e => by
        rw [upd_ne (ne_of_none e nx), upd_ne (ne_of_none e nd)]
        exact e
      refine ⟨x, dx, D, v, m, xs, o, by rw [List.append_nil], upd_same, mv, gv.same s1, l100, fun i us e1 e2 c H2 pa kp => ⟨rfl, q i us e1 e2 c H2 x (Same.made nx nd fun b o e n => kp b o n e) nx pa⟩, fun c H2 s2 => qe c H2 (s1.trans s2)⟩
    · exact ⟨_, rfl, _, _, _, _, false, rfl, .ty "tuple", ty, kt, false, rfl, iteT qe⟩
end
end FS

set_option Elab.async false
set_option linter.all false
set_option maxRecDepth 100000
set_option maxHeartbeats 4000000
namespace FS
open PySem PySem.Spec PyProof.Rows L2
section
variable {P : Program} {w : World} {K : PySem.W.Frag} {mg : Str → Option Value} {base : Heap}
abbrev NGis_integer_in : List Str := ["value", "least", "greatest"]
theorem scGis_integer_in : FnScope NGis_integer_in ["value", "least", "greatest"] (defScope sis_integer_in) := ⟨rfl, rfl, rfl, by decide +kernel, rfl, by decide +kernel, by decide +kernel⟩
theorem okG_is_integer_in {f : Addr} {fd : FuncData} (F : Fun K "is_integer_in" "is_integer_in" sis_integer_in f fd) (T : Nm K mg) : FnOk P w K mg base CX0 2 f fd ["value", "least", "greatest"] (spIntInG) := by
  have nd := scGis_integer_in.nd
  refine F.ok scGis_integer_in (fun vs H Q E h => ?_) (fun cdv A outer s H vs Q E hr h => ?_)
  · obtain ⟨v, o, a, b, rfl, mv, q⟩ := h
    rfl
  · obtain ⟨v, o, a, b, rfl, mv, q⟩ := h
    skip
    refine ⟨_, (pss_one (ps_ret (pe_and (pe_callB call_isi (by rfl) T.b_isinstance (by decide +kernel) (pa_cons (pv 0) (pa_cons (pe_bltn (v := .ty "int") (by rfl) T.b_int (by decide +kernel) rfl) pa_nil))) (pe_and (pe_not (pe_callB call_isi (by rfl) T.b_isinstance (by decide +kernel) (pa_cons (pv 0) (pa_cons (pe_bltn (v := .ty "bool") (by rfl) T.b_bool (by decide +kernel) rfl) pa_nil)))) (pe_one (pe_chain op_le op_le (pv 1) (pv 0) (pv 2))))))), ?_⟩

    cases mv with
    | int i =>
      have q : Q (.bl (decide (a ≤ i) && decide (i ≤ b))) H := q
      refine ⟨_, rfl, _, _, _, _, true, rfl, .ty "int", .base (.int i), kit_ty (show kitB "int" "int" = some true by decide +kernel), true, rfl, ?_⟩
      refine ⟨_, rfl, _, _, _, _, false, rfl, .ty "bool", .base (.int i), kit_ty (show kitB "int" "bool" = some false by decide +kernel), false, rfl, ?_⟩
      refine ⟨true, rfl, ?_⟩
      refine iteT ?_
      refine ⟨_, rfl, _, rfl, _, _, rfl, rfl, _, rfl, ite2 (fun e1 => ?_) (fun e1 => ?_)⟩
      · refine ⟨_, rfl, _, _, rfl, rfl, ?_⟩
        rw [e1, Bool.true_and] at q
        exact q
      · rw [Bool.not_eq_true _ |>.mp e1, Bool.false_and] at q
        exact q
    | bl x =>
      refine ⟨_, rfl, _, _, _, _, true, rfl, .ty "int", .base (.bl x), kit_ty (show kitB "bool" "int" = some true by decide +kernel), true, rfl, ?_⟩
      refine ⟨_, rfl, _, _, _, _, true, rfl, .ty "bool", .base (.bl x), kit_ty (show kitB "bool" "bool" = some true by decide +kernel), true, rfl, ?_⟩
      exact ⟨false, rfl, q⟩
    | non =>
      exact ⟨_, rfl, _, _, _, _, false, rfl, .ty "int", .base .non, kit_ty (show kitB "NoneType" "int" = some false by decide +kernel), false, rfl, q⟩
end
end FS

set_option Elab.async false
set_option linter.all false
set_option maxRecDepth 100000
set_option maxHeartbeats 4000000
namespace FS
open PySem PySem.Spec PyProof.Rows L2
section
variable {P : Program} {w : World} {K : PySem.W.Frag} {mg : Str → Option Value} {base : Heap}
abbrev Nkinds_by_name : List Str := ["procedures", "procedure"]
theorem sckinds_by_name : FnScope Nkinds_by_name ["procedures"] (defScope skinds_by_name) := ⟨rfl, rfl, rfl, by decide +kernel, rfl, by decide +kernel, by decide +kernel⟩
theorem ok_kinds_by_name {f : Addr} {fd : FuncData} (F : Fun K "kinds_by_name" "kinds_by_name" skinds_by_name f fd) (T : Nm K mg) {C : Addr} (TP : NmP mg) (G : PrG P w K mg base C) (Rkinds : PrP P w K mg base C "kinds" "_kinds") (Rnamed : PrP P w K mg base C "named" "_named") : FnOk P w K mg base CX0 3 f fd ["procedures"] (spByNameG K C) := by
  have nd := sckinds_by_name.nd
  refine F.ok sckinds_by_name (fun vs H Q E h => ?_) (fun cdv A outer s H vs Q E hr h => ?_)
  · obtain ⟨p, xs, us, rfl, sq, ps, l8, q⟩ := h
    rfl
  · obtain ⟨p, xs, us, rfl, sq, ps, l8, q⟩ := h
    skip
    refine ⟨_, (pss_one (ps_ret (pe_dc (own := [("procedure", 1)]) (g := gName 1) (tt := tYes) rfl nd (pi_tup (pv 0)) (blkOk_by (own := [("procedure", 1)]) (N := Nkinds_by_name) (sc := defScope skinds_by_name) (by decide +kernel)) (fun _ _ _ _ _ => (pg_name (i := 1) nd rfl (Or.inl rfl))) (fun _ _ _ _ _ => pts_nil) (fun _ _ _ _ _ => (pe_prK Rnamed rfl rfl rfl rfl rfl G.c.cl (hr.mono (by decide)) (pv 1) rfl)) (fun _ _ _ _ _ => (pe_prK Rkinds rfl rfl rfl rfl rfl G.c.cl (hr.mono (by decide)) (pv 1) rfl))))), ?_⟩

    have lx := ps.len
    refine ⟨_, rfl, p, rfl, ⟨xs, sq⟩, fun D nD => ?_⟩
    refine dc_tup (xs := xs) (fun i H' => Same H H' ∧ ∃ kvs, H' D = some (.dK kvs) ∧ NamesIn kvs (us.take i) ∧ (((us.take i).map (·.1)).Nodup → KV K H' kvs (us.take i))) ⟨same_upd nD, [], upd_same, .nil, fun _ => .nil⟩ (fun i H' hi h => Same.sqT h.1 sq) (fun i x H2 hx h => ?_) (fun H' h => ?_)
    · obtain ⟨sm, kvs, eD, ni, kv⟩ := h
      obtain ⟨a, u, rfl, hu, pa⟩ := (ps.same sm).get hx
      have li := (List.getElem?_eq_some_iff.mp hx).1
      obtain ⟨⟨dx, pv', bv, pb, ka, wa, ua, ys, ws, vs, h1, h2, h3, h4, h5, h6, -⟩, -⟩ := pa
      have lk := ni.le
      rw [List.length_take] at lk
      have tk : TK H2 (upd H2 D (.dK (putK kvs (Sum.inr u.1) (.ref ka)))) := TK.set eD rfl
      refine ⟨rfl, _, rfl, a, dx, _, rfl, h1, a, dx, _, _, rfl, h1, lk1, _, rfl, a, dx, _, rfl, h1, a, dx, _, _, rfl, h1, lk5, kvs, Sum.inr u.1, rfl, eD, small1000 (by omega), Same.set sm nD, _, upd_same, ?_⟩
      rw [take_more hu]
      refine ⟨ni.put, fun nn => ?_⟩
      rw [List.map_append] at nn
      obtain ⟨n1, -, n2⟩ := List.nodup_append.mp nn
      exact ((kv n1).put h6 (fun z => n2 _ z _ List.mem_cons_self rfl)).tk tk
    · obtain ⟨sm, kvs, eD, ni, kv⟩ := h
      rw [lx, List.take_length] at kv ni
      exact q H' D kvs sm eD kv (fun n => ni.lt n)
end
end FS

set_option Elab.async false
set_option linter.all false
set_option maxRecDepth 100000
set_option maxHeartbeats 4000000
namespace FS
open PySem PySem.Spec PyProof.Rows L2
section
variable {P : Program} {w : World} {K : PySem.W.Frag} {mg : Str → Option Value} {base : Heap}
abbrev Nare_procedures : List Str := ["values", "kinds", "value"]
theorem scare_procedures : FnScope Nare_procedures ["values"] (defScope sare_procedures) := ⟨rfl, rfl, rfl, by decide +kernel, rfl, by decide +kernel, by decide +kernel⟩
theorem ok_are_procedures {f : Addr} {fd : FuncData} (F : Fun K "are_procedures" "are_procedures" sare_procedures f fd) (T : Nm K mg) {C : Addr} (TP : NmP mg) (G : PrG P w K mg base C) (NP : NoP K C) (Ckinds_by_name : Cal P w K mg base 3 "kinds_by_name" ["procedures"] (spByNameG K C)) : FnOk P w K mg base CX0 4 f fd ["values"] (spArePsG K C) := by
  have nd := scare_procedures.nd
  refine F.ok scare_procedures (fun vs H Q E h => ?_) (fun cdv A outer s H vs Q E hr h => ?_)
  · obtain ⟨p, D, xs, o, rfl, sq, gv, l100, q⟩ := h
    rfl
  · obtain ⟨p, D, xs, o, rfl, sq, gv, l100, q⟩ := h
    obtain ⟨tP, gP⟩ := TP.g_MAX_PROCEDURES
    refine ⟨_, (pss_cons (ps_if (PW.pt (pw_or (pt_cmpR op_gt (pe_callB call_len (by rfl) T.b_len PySem.boot_len (pa_cons (pv 0) pa_nil)) (pe_glob (v := .int 8) (by rfl) gP ⟨_, rfl⟩) (nomark _)) (pw_or1 (pt_not (pt_val (pe_callB (cr_all rfl) (by rfl) T.b_all (by decide +kernel) (pa_cons (pe_lc (own := [("value", 2)]) (g := gName 2) (tt := tYes) rfl nd (pi_tup (pv 0)) (blkOk_by (own := [("value", 2)]) (N := Nare_procedures) (sc := defScope sare_procedures) (by decide +kernel)) (fun _ _ _ _ _ => (pg_name (i := 2) nd rfl (Or.inl rfl))) (fun _ _ _ _ _ => pts_nil) (fun _ _ _ _ _ => (pe_callB (call_isiK (K := K) rfl) (by rfl) T.b_isinstance (by decide +kernel) (pa_cons (pv 2) (pa_cons (pe_glob (v := .ref C) (by rfl) G.c.gC rfl) pa_nil))))) pa_nil)))))))
  (pss_one (ps_ret pe_bl))
  pss_nil)
  (pss_cons (ps_set (i := 1) nd rfl (Or.inl rfl) (pe_own Ckinds_by_name (hr.mono (by decide)) (by rfl) (pa_cons (pv 0) pa_nil)))
  (pss_one (ps_ret (pe_and (pe_cmpR op_eq (pe_callB call_lenD (by rfl) T.b_len PySem.boot_len (pa_cons (pv 1) pa_nil)) (pe_callB call_len (by rfl) T.b_len PySem.boot_len (pa_cons (pv 0) pa_nil)) (nomark _)) (pe_one (pe_cmpR (op_eqD hr.units) (pe_dget1 (u1 hr) (pv 1) pe_str ⟨rfl, by rfl, rfl, rfl⟩) (pe_tup pa_nil) (nomark _)))))))), ?_⟩

    refine ⟨_, rfl, _, _, rfl, .inr ⟨_, sq, rfl⟩, _, _, rfl, rfl, _, rfl, ite2 (fun e => ?_) (fun e => ?_)⟩
    · have z : areB o = false := by
        cases gv with
        | odd _ => rfl
        | @ps us ps =>
          have h1 := ps.len
          have h2 := of_decide_eq_true e
          show (decide (us.length ≤ 8) && _ && _) = false
          rw [decide_eq_false (show ¬ us.length ≤ 8 by omega)]
          rfl
      rw [z] at q
      exact q H (Same.refl H)
    · have l8 : xs.length ≤ 8 := by
        have h2 := of_decide_eq_false (Bool.not_eq_true _ |>.mp e)
        omega
      obtain ⟨b, mx, hb⟩ : ∃ b, Mixed K C D H xs b ∧ b = o.isSome := by
        cases gv with
        | odd h => exact ⟨_, h, rfl⟩
        | ps h => exact ⟨_, h.mixed, rfl⟩
      obtain ⟨fs, f1, f2, f3⟩ := mx.flags
      refine ⟨_, rfl, p, rfl, ⟨xs, sq⟩, fun D2 nD => ?_⟩
      refine lc_tup (xs := xs) (fun i H' => Same H H' ∧ H' D2 = some (.lst ((fs.take i).map V.bl))) ⟨same_upd nD, upd_same⟩ (fun i H' hi h => Same.sqT h.1 sq) (fun i x H2 hx h => ?_) (fun H1 h => ?_)
      · obtain ⟨sm, eD⟩ := h
        have li := (List.getElem?_eq_some_iff.mp hx).1
        have hf : fs[i]? = some (fs[i]'(by omega)) := List.getElem?_eq_getElem (by omega)
        have fin : ∀ f : Bool, fs[i]? = some f → ∃ acc, H2 D2 = some (.lst acc) ∧ acc.length < sizeLine ∧ Same H (upd H2 D2 (.lst (acc ++ [V.bl f]))) ∧ (upd H2 D2 (.lst (acc ++ [V.bl f]))) D2 = some (.lst ((fs.take (i + 1)).map V.bl)) := fun f hf => by
          refine ⟨_, eD, ?_, Same.set sm nD, ?_⟩
          · rw [List.length_map, List.length_take]
            exact small1000 (by omega)
          · rw [upd_same, take_one V.bl hf]
        rcases f3 i x _ hx hf with ⟨ef, a, nm, own, t, rfl, pa⟩ | ⟨ef, kn⟩
        · obtain ⟨⟨dx, pv', bv, pb, ka, wa, ua, ys, ws, vs, h1, -⟩, -⟩ := pa.same sm
          rw [ef] at hf
          exact ⟨rfl, _, rfl, _, _, _, _, true, rfl, .own C, .base (.ins h1 G.c.cl G.c.ha G.c.hn G.c.htk G.c.hm), G.c.self, fin true hf⟩
        · obtain ⟨t, ty, kt, -⟩ := (kn.sm sm).nop NP
          rw [ef] at hf
          exact ⟨rfl, _, rfl, _, _, _, _, false, rfl, .own C, ty, kt, fin false hf⟩
      · obtain ⟨s1, eD⟩ := h
        refine ⟨D2, _, rfl, .inl (.inl eD), ?_⟩
        rw [← f1, List.take_length, f2, hb]
        cases gv with
        | odd _ => exact ⟨_, rfl, iteT (q _ s1)⟩
        | @ps us ps =>
          have lx := ps.len
          refine ⟨_, rfl, iteF ?_⟩
          refine ⟨_, rfl, p, xs, us, rfl, Same.sqT s1 sq, ps.same s1, by omega, fun H2 qd kvs s2 ek kv lt => ?_⟩
          have s12 := s1.trans s2
          have q : ∀ H', Same H H' → Q (.bl (decide (us.length ≤ 8) && decide ((us.map (·.1)).Nodup) && decide ((tbOf us).lookup ("main" : Str) = some []))) H' := q
          refine ⟨_, rfl, qd, kvs, rfl, ek, _, rfl, _, _, rfl, .inr ⟨_, Same.sqT s12 sq, rfl⟩, rfl, _, rfl, ?_⟩
          rw [int_dec]
          rw [decide_eq_true (show us.length ≤ 8 by omega), Bool.true_and] at q
          by_cases nd' : (us.map (·.1)).Nodup
          · have kv := kv nd'
            rw [decide_eq_true nd', Bool.true_and] at q
            rw [show decide ((kvs.length : Int) = (xs.length : Int)) = true by rw [kv.len, lx]; exact decide_eq_true rfl]
            refine iteT ?_
            obtain ⟨g, hv, dv⟩ := kv.look "main"
            refine ⟨_, rfl, qd, rfl, (.inl ⟨_, .inl ek⟩), g, hv ▸ DGet.k (k := Sum.inr "main") ek, Nat.zero_le _, fun p5 n5 => ?_⟩
            have s5 := same_upd (o := .tup []) n5
            refine ⟨_, .tuple [], Dp.tk (.of s5) (lookD_noL us _) dv, .tup (.inl (.inl upd_same)) .nil, lookD_shaped us _, rfl, ?_⟩
            rw [look_main]
            exact q _ (s12.trans s5)
          · have l := lt nd'
            rw [decide_eq_false nd', Bool.false_and] at q
            rw [show decide ((kvs.length : Int) = (xs.length : Int)) = false from decide_eq_false (by omega)]
            exact q _ s12
end
end FS

set_option Elab.async false
set_option linter.all false
set_option maxRecDepth 100000
set_option maxHeartbeats 4000000
namespace FS
open PySem PySem.Spec PyProof.Rows L2
section
variable {P : Program} {w : World} {K : PySem.W.Frag} {mg : Str → Option Value} {base : Heap}
abbrev Nfits : List Str := ["part", "modes", "kinds", "entry"]
theorem scfits : FnScope Nfits ["part", "modes", "kinds"] (defScope sfits) := ⟨rfl, rfl, rfl, by decide +kernel, rfl, by decide +kernel, by decide +kernel⟩
theorem ok_fits {f : Addr} {fd : FuncData} (F : Fun K "fits" "fits" sfits f fd) (T : Nm K mg) (Ckinds_of : Cal P w K mg base 2 "kinds_of" ["arguments"] (spKindsOf K)) : FnOk P w K mg base CX0 3 f fd ["part", "modes", "kinds"] (spFitsG K) := by
  have nd := scfits.nd
  refine F.ok scfits (fun vs H Q E h => ?_) (fun cdv A outer s H vs Q E hr h => ?_)
  · obtain ⟨own, v, t, m, ka, kvs, us, rfl, dp, gd, po, l6, l40, m1, m3, ek, kv0, q⟩ := h
    rfl
  · obtain ⟨own, v, t, m, ka, kvs, us, rfl, dp, gd, po, l6, l40, m1, m3, ek, kv0, q⟩ := h
    skip
    refine ⟨_, (pss_cons (ps_if (pt_cmpR op_eq (pe_ix ix_tup (pv 0) pe_int (fun _ _ => rfl)) pe_str (nomark _))
  (pss_one (ps_ret (pe_and (pe_cmpR op_eq (pe_callB call_len (by rfl) T.b_len PySem.boot_len (pa_cons (pe_ix ix_tup (pv 0) pe_int (fun _ _ => rfl)) pa_nil)) (pv 1) (nomark _)) (pe_one (pe_callB (cr_all rfl) (by rfl) T.b_all (by decide +kernel) (pa_cons (pe_lc (own := [("entry", 3)]) (g := gName 3) (tt := tYes) rfl nd (pi_tup (pe_ix ix_tup (pv 0) pe_int (fun _ _ => rfl))) (blkOk_by (own := [("entry", 3)]) (N := Nfits) (sc := defScope sfits) (by decide +kernel)) (fun _ _ _ _ _ => (pg_name (i := 3) nd rfl (Or.inl rfl))) (fun _ _ _ _ _ => pts_nil) (fun _ _ _ _ _ => (pe_or (pe_cmpR op_isN (pv 3) pe_non (nomark _)) (pe_one (pe_cmpR op_lt (pv 3) (pv 1) (nomark _)))))) pa_nil))))))
  pss_nil)
  (pss_cons (ps_if (pt_cmpR op_eq (pe_ix ix_tup (pv 0) pe_int (fun _ _ => rfl)) pe_str (nomark _))
  (pss_one (ps_ret (pe_cmpR (op_eqD hr.units) (pe_dget1 (u1 hr) (pv 2) (pe_ix ix_tup (pv 0) pe_int (fun _ _ => rfl)) ⟨rfl, by rfl, rfl, rfl⟩) (pe_own Ckinds_of (hr.mono (by decide)) (by rfl) (pa_cons (pe_slice sl_tupA (pv 0) (po_some pe_int) po_none) pa_nil)) (nomark _))))
  pss_nil)
  (pss_cons (ps_if (pt_cmpR op_eq (pe_ix ix_tup (pv 0) pe_int (fun _ _ => rfl)) pe_str (nomark _))
  (pss_one (ps_ret (pe_cmpR (op_eqD hr.units) (pe_dget1 (u1 hr) (pv 2) (pe_ix ix_tup (pv 0) pe_int (fun _ _ => rfl)) ⟨rfl, by rfl, rfl, rfl⟩) (pe_op op_catA (pe_own Ckinds_of (hr.mono (by decide)) (by rfl) (pa_cons (pe_slice sl_tupA (pv 0) (po_some pe_int) po_none) pa_nil)) (pe_tup (pa_cons pe_str pa_nil))) (nomark _))))
  pss_nil)
  (pss_one (ps_ret pe_bl))))), ?_⟩

    obtain ⟨h, ks⟩ := t
    obtain ⟨a, rs, kv, rfl, sq, r1, r2⟩ := tm_open dp
    have l40 : ks.length ≤ 40 := l40
    have cutk : ∀ {n : Str} {H1 : Hp} {Q : VK}, SqT K H1 a (V.str h.tag :: ([V.str n] ++ kv)) → (∀ H2 p, Same H1 H2 → SqT K H2 p kv → Q (.ref p) H2) → rSlA K (.ref a) (some ((2 : Nat) : Int)) none H1 Q := fun {n H1 Q} sq1 q1 => by
      refine ⟨a, _, rfl, sq1, fun z => absurd z.1 (cut_ne (k := 2) (by decide) (List.cons_ne_nil _ _)), fun _ p2 np2 => ?_⟩
      refine q1 _ _ (same_upd np2) (.inl (.inl ?_))
      rw [upd_same]
      show some (HO.tup (cutV (V.str h.tag :: ([V.str n] ++ kv)) (some ((2 : Nat) : Int)) none)) = some (HO.tup kv)
      rw [cut_from]
      rfl
    refine ⟨_, rfl, a, _, 0, _, rfl, rfl, sq, at0, rfl, _, rfl, ?_⟩
    rw [tag_dec h (j := 0)]
    refine ite2 (fun e0 => ?_) (fun e0 => ?_)
    · have hw : ∃ w t, h = .deed w t := by
        have e6 := of_decide_eq_true e0
        cases h <;> first | exact ⟨_, _, rfl⟩ | (simp [Hd.num] at e6)
      obtain ⟨w, t, rfl⟩ := hw
      cases r1 with
      | cons x1 r => cases r with
        | cons x2 r =>
        cases r
        cases Dp.str_inv x1
        obtain ⟨b, es, rfl, sb, rb⟩ := Dp.tup_inv x2
        have le : es.length = t.length := by rw [DpAll.len rb, List.length_map]
        have q : ∀ H', Same H H' → Q (.bl (decide ((t.length : Int) = m) && t.all (fun e => match e with | none => true | some n => decide ((n : Int) < m)))) H' := q
        refine ⟨_, rfl, a, _, 2, _, rfl, rfl, sq, at2, _, _, rfl, .inr ⟨_, sb, rfl⟩, _, rfl, rfl, _, rfl, ?_⟩
        rw [int_dec, le]
        by_cases lm : (t.length : Int) = m
        case neg =>
          rw [decide_eq_false lm] at q ⊢
          exact q H (Same.refl H)
        rw [decide_eq_true lm] at q ⊢
        refine iteT ?_
        refine ⟨_, rfl, a, _, 2, _, rfl, rfl, sq, at2, b, rfl, ⟨es, sb⟩, fun D nD => ?_⟩
        let eb : Option Nat → Bool := fun e => match e with | none => true | some n => decide ((n : Int) < m)
        refine lc_tup (xs := es) (fun i H' => Same H H' ∧ H' D = some (.lst (((t.take i).map eb).map V.bl))) ⟨same_upd nD, upd_same⟩ (fun i H' hi hp => Same.sqT hp.1 sb) (fun i x H2 hx hp => ?_) (fun H' hp => ?_)
        · obtain ⟨sm, eD⟩ := hp
          obtain ⟨d, hd, dx⟩ := DpAll.get rb hx
          rw [List.getElem?_map] at hd
          obtain ⟨e, he, rfl⟩ := Option.map_eq_some_iff.mp hd
          have li := (List.getElem?_eq_some_iff.mp hx).1
          refine ⟨rfl, ?_⟩
          have fin : ∀ b : Bool, b = eb e → ∃ acc, H2 D = some (.lst acc) ∧ acc.length < sizeLine ∧ Same H (upd H2 D (.lst (acc ++ [V.bl b]))) ∧ (upd H2 D (.lst (acc ++ [V.bl b]))) D = some (.lst (((t.take (i + 1)).map eb).map V.bl)) := fun b hb => by
            refine ⟨_, eD, ?_, Same.set sm nD, ?_⟩
            · rw [List.length_map, List.length_map, List.length_take]
              exact Nat.lt_of_le_of_lt (Nat.min_le_right _ _) (small1000 (by omega))
            · rw [upd_same, take_one eb he, List.map_append, hb]
              rfl
          cases e with
          | none =>
            cases dx
            refine ⟨_, rfl, ?_⟩
            exact ⟨rfl, _, rfl, iteT (fin true rfl)⟩
          | some n =>
            cases dx
            refine ⟨_, rfl, ?_⟩
            refine ⟨rfl, _, rfl, iteF ?_⟩
            exact ⟨_, rfl, _, rfl, _, _, rfl, rfl, fin _ rfl⟩
        · obtain ⟨sm, eD⟩ := hp
          refine ⟨D, _, rfl, .inl (.inl eD), ?_⟩
          rw [le, List.take_length]
          have e4 : (t.map eb).all id = t.all eb := by
            rw [List.all_map]
            rfl
          rw [e4]
          exact q H' sm
    · refine ⟨_, rfl, a, _, 0, _, rfl, rfl, sq, at0, rfl, _, rfl, ?_⟩
      rw [tag_dec h (j := 4)]
      have gk : ∀ u ∈ ks, Good own u ∧ u.deep ≤ 6 := fun u hu => ⟨gd.kid hu, by have := deep_kid (t := Tm.mk h ks) hu; omega⟩
      refine ite2 (fun e4 => ?_) (fun e4 => ?_)
      · have hw : ∃ n, h = .call n := by
          have e6 := of_decide_eq_true e4
          cases h <;> first | exact ⟨_, rfl⟩ | (simp [Hd.num] at e6)
        obtain ⟨n, rfl⟩ := hw
        cases r1 with
        | cons x1 r =>
          cases r
          cases Dp.str_inv x1
          have q : ∀ H', Same H H' → Q (.bl (decide (((tbOf us).lookup n).map (fun o => o.map (·.2)) = some (ks.map Tm.isW)))) H' := q
          obtain ⟨g, hv, dv⟩ := kv0.look n
          refine ⟨_, rfl, ka, rfl, (.inl ⟨_, .inl ek⟩), _, rfl, a, _, 1, _, rfl, rfl, sq, at1, g, hv ▸ DGet.k (k := Sum.inr n) ek, ?_⟩
          refine ⟨_, rfl, _, rfl, ?_⟩
          dsimp only [tNoPart]
          refine cutk sq fun H2 p2 s2 sq2 => ?_
          refine ⟨p2, kv, ks, own, rfl, sq2, DpAll.tk (.of s2) (noL_datas _) r2, gk, po, by omega, fun H3 p3 s3 e3 => ?_⟩
          have s23 := s2.trans s3
          refine ⟨_, _, Dp.tk (.of s23) (lookD_noL us n) dv, dp_kinds e3, lookD_shaped us n, kinds_shaped _, ?_⟩
          rw [look_eqv]
          exact q _ s23
      · refine ⟨_, rfl, a, _, 0, _, rfl, rfl, sq, at0, rfl, _, rfl, ?_⟩
        rw [tag_dec h (j := 7)]
        refine ite2 (fun e7 => ?_) (fun e7 => ?_)
        · have hw : ∃ n, h = .wth n := by
            have e6 := of_decide_eq_true e7
            cases h <;> first | exact ⟨_, rfl⟩ | (simp [Hd.num] at e6)
          obtain ⟨n, rfl⟩ := hw
          cases r1 with
          | cons x1 r =>
            cases r
            cases Dp.str_inv x1
            have q : ∀ H', Same H H' → Q (.bl (decide (((tbOf us).lookup n).map (fun o => o.map (·.2)) = some (ks.map Tm.isW ++ [false])))) H' := q
            obtain ⟨g, hv, dv⟩ := kv0.look n
            refine ⟨_, rfl, ka, rfl, (.inl ⟨_, .inl ek⟩), _, rfl, a, _, 1, _, rfl, rfl, sq, at1, g, hv ▸ DGet.k (k := Sum.inr n) ek, ?_⟩
            refine ⟨_, rfl, _, rfl, ?_⟩
            dsimp only [tNoPart]
            refine cutk sq fun H2 p2 s2 sq2 => ?_
            refine ⟨p2, kv, ks, own, rfl, sq2, DpAll.tk (.of s2) (noL_datas _) r2, gk, po, by omega, fun H3 p3 s3 e3 => ?_⟩
            have s23 := s2.trans s3
            refine ⟨by show 1 ≤ sizeLine; decide, fun p4 n4 => ?_⟩
            have s4 := same_upd (o := .tup [V.str "block"]) n4
            have sq3 : SqT K (upd H3 p4 (.tup [V.str "block"])) p3 ((ks.map Tm.isW).map fun b => V.str (kd b)) := .inl (.inl (s4 _ _ e3))
            have sq4 : SqT K (upd H3 p4 (.tup [V.str "block"])) p4 [V.str "block"] := .inl (.inl upd_same)
            have fin : ∀ {G : Hp} {p : Addr}, Same H G → SqT K G p ((ks.map Tm.isW ++ [false]).map fun b => V.str (kd b)) → rEqD K (g.getD .non) (.ref p) G Q := fun {G p} sg sp => by
              refine ⟨_, _, Dp.tk (.of sg) (lookD_noL us n) dv, dp_kindsT sp, lookD_shaped us n, kinds_shaped _, ?_⟩
              rw [look_eqv]
              exact q _ sg
            generalize upd H3 p4 (.tup [V.str "block"]) = H4 at s4 sq3 sq4 ⊢
            have sg := s23.trans s4
            refine ⟨p3, p4, _, _, rfl, rfl, sq3, sq4, ?_, fun z => ?_, (fun _ e => absurd e (List.cons_ne_nil _ _)), fun _ _ p5 n5 => ?_⟩
            · rw [List.length_map, List.length_map]
              exact Nat.le_of_lt (small16 (by show ks.length + 1 < 16000; omega))
            · have z0 : ks = [] := by
                cases ks with
                | nil => rfl
                | cons _ _ => cases z
              subst z0
              exact fin sg sq4
            · refine fin (sg.trans (same_upd n5)) (.inl (.inl ?_))
              rw [upd_same, List.map_append]
              rfl
        · have z : fitH m (tbOf us) h (ks.map Tm.isW) = true := by
            cases h <;> first | rfl | exact absurd (by rfl) e0 | exact absurd (by rfl) e4 | exact absurd (by rfl) e7
          have q : ∀ H', Same H H' → Q (.bl (fitH m (tbOf us) h (ks.map Tm.isW))) H' := q
          rw [z] at q
          exact q H (.refl H)
end
end FS

set_option Elab.async false
set_option linter.all false
set_option maxRecDepth 100000
set_option maxHeartbeats 4000000
namespace FS
open PySem PySem.Spec PyProof.Rows L2
section
variable {P : Program} {w : World} {K : PySem.W.Frag} {mg : Str → Option Value} {base : Heap}
abbrev Ncan_make_program : List Str := ["modes", "procedures", "kinds", "parts", "procedure", "part"]
theorem sccan_make_program : FnScope Ncan_make_program ["modes", "procedures"] (defScope scan_make_program) := ⟨rfl, rfl, rfl, by decide +kernel, rfl, by decide +kernel, by decide +kernel⟩
theorem ok_can_make_program {f : Addr} {fd : FuncData} (F : Fun K "can_make_program" "can_make_program" scan_make_program f fd) (T : Nm K mg) {C : Addr} (TP : NmP mg) (G : PrG P w K mg base C) (Rbody : PrP P w K mg base C "body" "_body") (Cis_integer_in : Cal P w K mg base 2 "is_integer_in" ["value", "least", "greatest"] spIntInG) (Care_procedures : Cal P w K mg base 4 "are_procedures" ["values"] (spArePsG K C)) (Chave_wraps : Cal P w K mg base 3 "have_wraps" ["procedures"] (spHave K C)) (Ckinds_by_name : Cal P w K mg base 3 "kinds_by_name" ["procedures"] (spByNameG K C)) (Call_parts : Cal P w K mg base 8 "all_parts" ["part"] (spAll K 7)) (Cfits : Cal P w K mg base 3 "fits" ["part", "modes", "kinds"] (spFitsG K)) : FnOk P w K mg base CX0 9 f fd ["modes", "procedures"] (spCanG K C) := by
  have nd := sccan_make_program.nd
  refine F.ok sccan_make_program (fun vs H Q E h => ?_) (fun cdv A outer s H vs Q E hr h => ?_)
  · obtain ⟨p, D, v, m, xs, o, rfl, mv, sq, gv, l100, q⟩ := h
    rfl
  · obtain ⟨p, D, v, m, xs, o, rfl, mv, sq, gv, l100, q⟩ := h
    obtain ⟨⟨t3, g3⟩, ⟨tW, gW⟩⟩ := And.intro T.g_MAX_MODES TP.g_MAX_MODES_WITH_WRAPS
    refine ⟨_, (pss_cons (ps_if (PW.pt (pw_or (pt_not (pt_val (pe_own Cis_integer_in (hr.mono (by decide)) (by rfl) (pa_cons (pv 0) (pa_cons pe_int (pa_cons (pe_glob (v := .int 3) (by rfl) g3 ⟨_, rfl⟩) pa_nil)))))) (pw_or1 (pt_not (pt_val (pe_own Care_procedures (hr.mono (by decide)) (by rfl) (pa_cons (pv 1) pa_nil)))))))
  (pss_one (ps_ret pe_bl))
  pss_nil)
  (pss_cons (ps_if (PW.pt (pw_and (pt_cmpR op_gt (pv 0) (pe_glob (v := .int 2) (by rfl) gW ⟨_, rfl⟩) (nomark _)) (pw_and1 (pt_val (pe_own Chave_wraps (hr.mono (by decide)) (by rfl) (pa_cons (pv 1) pa_nil))))))
  (pss_one (ps_ret pe_bl))
  pss_nil)
  (pss_cons (ps_set (i := 2) nd rfl (Or.inr rfl) (pe_own Ckinds_by_name (hr.mono (by decide)) (by rfl) (pa_cons (pv 1) pa_nil)))
  (pss_cons (ps_setLc2 (i := 3) (own := [("procedure", 4), ("part", 5)]) (vs1 := [5]) (g := gName 4) (g1 := gName 5) (tt := tYes) (tt1 := tYes) rfl nd rfl rfl (sw_true rfl rfl rfl (by decide +kernel)) (pi_tup (pv 1)) (blkOk_by (own := [("procedure", 4), ("part", 5)]) (N := Ncan_make_program) (sc := defScope scan_make_program) (by decide +kernel)) (by decide) (fun _ _ _ _ _ => (pg_name (i := 4) nd rfl (Or.inl rfl))) (fun _ _ _ _ _ => pts_nil) (fun _ _ _ _ _ => (pi_listK (K := K) rfl (pe_own Call_parts (hr.mono (by decide)) (by rfl) (pa_cons (pe_prK Rbody rfl rfl rfl rfl rfl G.c.cl (hr.mono (by decide)) (pv 4) rfl) pa_nil)))) (fun _ _ _ _ _ => (pg_name (i := 5) nd rfl (Or.inl rfl))) (fun _ _ _ _ _ => pts_nil) (fun _ _ _ _ _ => (pv 5)))
  (pss_one (ps_ret (pe_callB (cr_all rfl) (by rfl) T.b_all (by decide +kernel) (pa_cons (pe_lc (own := [("part", 5)]) (g := gName 5) (tt := tYes) rfl nd (pi_list (pv 3)) (blkOk_by (own := [("part", 5)]) (N := Ncan_make_program) (sc := defScope scan_make_program) (by decide +kernel)) (fun _ _ _ _ _ => (pg_name (i := 5) nd rfl (Or.inl rfl))) (fun _ _ _ _ _ => pts_nil) (fun _ _ _ _ _ => (pe_own Cfits (hr.mono (by decide)) (by rfl) (pa_cons (pv 5) (pa_cons (pv 0) (pa_cons (pv 2) pa_nil)))))) pa_nil)))))))), ?_⟩

    refine ⟨_, rfl, v, m, 1, 3, rfl, mv, ?_⟩
    by_cases hm : modB m 1 3 = true
    case neg =>
      have hm := Bool.not_eq_true _ |>.mp hm
      rw [canB_mod o hm] at q
      rw [hm]
      exact ⟨_, rfl, iteT (q H (.refl H))⟩
    obtain ⟨i, rfl⟩ : ∃ i, m = some i := by
      cases m with
      | none => cases hm
      | some i => exact ⟨i, rfl⟩
    rw [hm]
    cases mv
    have m12 : 1 ≤ i ∧ i ≤ 3 := by
      obtain ⟨h1, h2⟩ := Bool.and_eq_true_iff.mp (show (decide (1 ≤ i) && decide (i ≤ 3)) = true from hm)
      exact ⟨of_decide_eq_true h1, of_decide_eq_true h2⟩
    refine ⟨_, rfl, iteF ?_⟩
    refine ⟨_, rfl, p, D, xs, o, rfl, sq, gv, l100, fun H1 s1 => ?_⟩
    by_cases ha : areB o = true
    case neg =>
      have ha := Bool.not_eq_true _ |>.mp ha
      rw [canB_are i ha] at q
      rw [ha]
      exact ⟨_, rfl, iteT (q H1 s1)⟩
    rw [ha]
    obtain ⟨us, rfl⟩ : ∃ us, o = some us := by
      cases o with
      | none => cases ha
      | some us => exact ⟨us, rfl⟩
    have ps : PsAt K C H xs us := by
      cases gv with
      | ps h => exact h
    have lx := ps.len
    obtain ⟨few, nd', -⟩ := areB_parts ha
    refine ⟨_, rfl, iteF ?_⟩
    refine ⟨_, rfl, _, _, rfl, rfl, _, rfl, ite2 (fun e2 => ?A) (fun e2 => ?B)⟩
    case' A =>
      have m2 := of_decide_eq_true e2
      refine ⟨_, rfl, p, xs, us, rfl, Same.sqT s1 sq, ps.same s1, few, fun HH sh => ?_⟩
      by_cases hw : wrapsIn us = true
      case pos =>
        rw [canB_wr us (by omega) hw] at q
        rw [hw]
        exact ⟨_, rfl, iteT (q _ (s1.trans sh))⟩
      have hw := Bool.not_eq_true _ |>.mp hw
      rw [hw]
      refine ⟨_, rfl, iteF ?_⟩
      have sH := s1.trans sh
      have nw : (decide (2 < i) && wrapsIn us) = false := by rw [hw, Bool.and_false]
      clear sh e2 hw m2
    case' B =>
      have sH := s1
      have nw : (decide (2 < i) && wrapsIn us) = false := by
        rw [decide_eq_false (show ¬ 2 < i by
          have := of_decide_eq_false (Bool.not_eq_true _ |>.mp e2)
          omega), Bool.false_and]
      clear e2
    all_goals
      clear s1
      rw [canB_fit hm ha nw] at q
      clear gv
      refine ⟨_, rfl, p, xs, us, rfl, Same.sqT sH sq, ps.same sH, few, fun H3 ka kvs s3 ek kv _ => ?_⟩
      have kv := kv nd'
      have sq3 := Same.sqT (sH.trans s3) sq
      have ps3 := ps.same (sH.trans s3)
      have s03 := sH.trans s3
      clear sH s3
      refine ⟨_, rfl, p, rfl, ⟨xs, sq3⟩, fun D nD => ?_⟩
      refine wk_tup (xs := xs) (fun i H' => Same H3 H' ∧ ∃ vs ts, H' D = some (.lst vs) ∧ DpAll K H' vs (datas ts) ∧ ts.length ≤ 40 * i ∧ ts = partsIn (us.take i) ∧ ∀ t ∈ ts, PTG t) ⟨same_upd nD, [], [], upd_same, .nil, Nat.zero_le _, rfl, fun _ h => nomatch h⟩ (fun i H' hi h => Same.sqT h.1 sq3) (fun i x H4 hx h => ?_) (fun H4 h => ?_)
      · obtain ⟨sm, vs, ts, eD, rv, lt, et, pt⟩ := h
        obtain ⟨a, u, rfl, hu, pa⟩ := (ps3.same sm).get hx
        have li := (List.getElem?_eq_some_iff.mp hx).1
        obtain ⟨⟨dx, pv', bv, pb, kb, wa, ua, zs, ws, us', h1, h2, h3, -⟩, wd, po, gd, nw, few', low⟩ := pa
        refine ⟨rfl, _, rfl, a, dx, _, rfl, h1, a, dx, _, _, rfl, h1, lk3, u.2.1, bv, u.2.2, rfl, h3, gd, by omega, by omega, fun H5 pp ys s5 np5 ep5 ry => ?_⟩
        have nDp : pp ≠ D := fun z => by
          rw [z, eD] at np5
          cases np5
        have ly : ys.length ≤ 40 := by
          rw [DpAll.len ry, datas_len]
          exact few'
        have ly2 : ys.length = u.2.2.all.length := by rw [DpAll.len ry, datas_len]
        refine ⟨pp, rfl, ⟨_, .inl (.inl ep5)⟩, ?_⟩
        refine wk_list (xs := ys) (fun j H' => Same H3 H' ∧ H' pp = some (.lst ys) ∧ TK H5 H' ∧ ∃ vs ts, H' D = some (.lst vs) ∧ DpAll K H' vs (datas ts) ∧ ts.length ≤ 40 * i + j ∧ ts = partsIn (us.take i) ++ u.2.2.all.take j ∧ ∀ t ∈ ts, PTG t) ⟨sm.trans s5, ep5, .refl _, vs, ts, s5 _ _ eD, DpAll.tk (.of s5) (noL_datas _) rv, by omega, by rw [et, List.take_zero, List.append_nil], pt⟩ (fun j H' hj h => .inl (.inl h.2.1)) (fun j x H6 hx6 h => ?_) (fun H6 h => ?_)
        · obtain ⟨s6, e6, k6, vs6, ts6, eD6, rv6, lt6, et6, pt6⟩ := h
          obtain ⟨w', hw, dw⟩ := datas_at (DpAll.tk k6 (noL_datas _) ry) hx6
          have lj := (List.getElem?_eq_some_iff.mp hx6).1
          have kk : TK H6 (upd H6 D (.lst (vs6 ++ [x]))) := TK.set eD6 rfl
          have lv : vs6.length = ts6.length := by rw [DpAll.len rv6, datas_len]
          refine ⟨rfl, _, rfl, vs6, eD6, small1000 (by omega), Same.set s6 nD, ?_, k6.trans kk, vs6 ++ [x], ts6 ++ [w'], upd_same, ?_, ?_, ?_, ?_⟩
          · rw [upd_ne nDp]
            exact e6
          · rw [datas_app]
            exact DpAll.app (DpAll.tk kk (noL_datas _) rv6) (.cons (Dp.tk kk w'.noL dw) .nil)
          · rw [List.length_append]
            show _ + 1 ≤ _
            omega
          · rw [take_more hw, et6, List.append_assoc]
          · intro t ht
            rcases List.mem_append.mp ht with h | h
            · exact pt6 t h
            · rw [List.mem_singleton.mp h]
              exact ptg_all gd po low few' w' (List.mem_of_getElem? hw)
        · obtain ⟨s6, e6, k6, vs6, ts6, eD6, rv6, lt6, et6, pt6⟩ := h
          refine ⟨s6, vs6, ts6, eD6, rv6, by omega, ?_, pt6⟩
          rw [parts_more hu, et6, ly2, List.take_length]
      · obtain ⟨sm, vs, ts, eD, rv, lt, et, pt⟩ := h
        have lv : vs.length = ts.length := by rw [DpAll.len rv, datas_len]
        rw [lx, List.take_length] at et
        refine ⟨_, rfl, D, rfl, ⟨_, .inl (.inl eD)⟩, fun D2 nD2 => ?_⟩
        refine lc_list (xs := vs) (fun j H' => Same H4 H' ∧ H' D2 = some (.lst (((ts.take j).map (fitT i us)).map V.bl))) ⟨same_upd nD2, upd_same⟩ (fun i H' hi h => .inl (.inl (h.1 _ _ eD))) (fun j x H5 hx h => ?_) (fun H5 h => ?_)
        · obtain ⟨s5, e5⟩ := h
          obtain ⟨t, ht, dt⟩ := datas_at (DpAll.tk (.of s5) (noL_datas _) rv) hx
          have li := (List.getElem?_eq_some_iff.mp hx).1
          obtain ⟨own, gd, po, d6, l40⟩ := pt t (List.mem_of_getElem? ht)
          refine ⟨rfl, _, rfl, _, rfl, _, rfl, own, x, t, i, ka, kvs, us, rfl, dt, gd, po, d6, l40, m12.1, m12.2, s5 _ _ (sm _ _ ek), kv.tk (.of (sm.trans s5)), fun H6 s6 => ?_⟩
          refine ⟨_, s6 _ _ e5, ?_, Same.set (s5.trans s6) nD2, ?_⟩
          · rw [List.length_map, List.length_map, List.length_take]
            exact small1000 (by omega)
          · rw [upd_same, take_one (fitT i us) ht, List.map_append]
            rfl
        · obtain ⟨s5, e5⟩ := h
          refine ⟨D2, _, rfl, .inl (.inl e5), ?_⟩
          have e4 : ((ts.take vs.length).map (fitT i us)).all id = partsFit i us := by
            rw [lv, List.take_length, List.all_map, et]
            rfl
          rw [e4]
          exact q _ (s03.trans (sm.trans s5))
end
end FS

set_option Elab.async false
set_option linter.all false
set_option maxRecDepth 100000
set_option maxHeartbeats 4000000
namespace FS
open PySem PySem.Spec PyProof.Rows L2
section
variable {P : Program} {w : World} {K : PySem.W.Frag} {mg : Str → Option Value} {base : Heap}
abbrev Nkinds_of : List Str := ["arguments", "argument"]
theorem sckinds_of : FnScope Nkinds_of ["arguments"] (defScope skinds_of) := ⟨rfl, rfl, rfl, by decide +kernel, rfl, by decide +kernel, by decide +kernel⟩
theorem ok_kinds_of {f : Addr} {fd : FuncData} (F : Fun K "kinds_of" "kinds_of" skinds_of f fd) (T : Nm K mg) (Ckind_of : Cal P w K mg base 1 "kind_of" ["value"] (spKind K)) : FnOk P w K mg base CX0 2 f fd ["arguments"] (spKindsOf K) := by
  have nd := sckinds_of.nd
  refine F.ok sckinds_of (fun vs H Q E h => ?_) (fun cdv A outer s H vs Q E hr h => ?_)
  · obtain ⟨p, xs, us, own, rfl, sq, dp, gd, po, l100, q⟩ := h
    rfl
  · obtain ⟨p, xs, us, own, rfl, sq, dp, gd, po, l100, q⟩ := h
    skip
    refine ⟨_, (pss_one (ps_ret (pe_callTy call_tuple_of (by rfl) T.b_tuple (by decide +kernel) (pa_cons (pe_lc (own := [("argument", 1)]) (g := gName 1) (tt := tYes) rfl nd (pi_tup (pv 0)) (blkOk_by (own := [("argument", 1)]) (N := Nkinds_of) (sc := defScope skinds_of) (by decide +kernel)) (fun _ _ _ _ _ => (pg_name (i := 1) nd rfl (Or.inl rfl))) (fun _ _ _ _ _ => pts_nil) (fun _ _ _ _ _ => (pe_own Ckind_of (hr.mono (by decide)) (by rfl) (pa_cons (pv 1) pa_nil)))) pa_nil)))), ?_⟩

    refine ⟨_, rfl, p, rfl, ⟨xs, sq⟩, fun D nD => ?_⟩
    have lx : xs.length = us.length := by rw [DpAll.len dp, datas_len]
    refine lc_tup (xs := xs) (fun i H' => Same H H' ∧ H' D = some (.lst (((us.take i).map Tm.isW).map fun b => V.str (kd b)))) ⟨same_upd nD, upd_same⟩ (fun i H' hi h => Same.sqT h.1 sq) (fun i x H8 hx h => ?_) (fun H8 h => ?_)
    · obtain ⟨sm, eD⟩ := h
      obtain ⟨u, hu, du⟩ := datas_at (DpAll.tk (.of sm) (noL_datas _) dp) hx
      obtain ⟨g, lo⟩ := gd u (List.mem_of_getElem? hu)
      have li := (List.getElem?_eq_some_iff.mp hx).1
      refine ⟨rfl, _, rfl, own, x, u, rfl, ⟨du, g, po, by omega⟩, fun H9 s9 => ?_⟩
      refine ⟨_, s9 _ _ eD, ?_, Same.set (sm.trans s9) nD, ?_⟩
      · rw [List.length_map, List.length_map, List.length_take]
        exact Nat.lt_of_le_of_lt (Nat.min_le_right _ _) (small1000 (by omega))
      · rw [upd_same, take_more hu, List.map_append, List.map_append]
        rfl
    · obtain ⟨s8, eD⟩ := h
      rw [lx, List.take_length] at eD
      refine ⟨D, _, rfl, .inl ⟨.inl (.inl eD), fun q1 nq => ?_⟩⟩
      exact q _ q1 (s8.trans (same_upd nq)) upd_same
end
end FS

set_option Elab.async false
set_option linter.all false
set_option maxRecDepth 100000
set_option maxHeartbeats 4000000
namespace FS
open PySem PySem.Spec PyProof.Rows L2
section
variable {P : Program} {w : World} {K : PySem.W.Frag} {mg : Str → Option Value} {base : Heap}
abbrev Nhave_wraps : List Str := ["procedures", "procedure"]
theorem schave_wraps : FnScope Nhave_wraps ["procedures"] (defScope shave_wraps) := ⟨rfl, rfl, rfl, by decide +kernel, rfl, by decide +kernel, by decide +kernel⟩
theorem ok_have_wraps {f : Addr} {fd : FuncData} (F : Fun K "have_wraps" "have_wraps" shave_wraps f fd) (T : Nm K mg) {C : Addr} (TP : NmP mg) (G : PrG P w K mg base C) (Rkinds : PrP P w K mg base C "kinds" "_kinds") : FnOk P w K mg base CX0 3 f fd ["procedures"] (spHave K C) := by
  have nd := schave_wraps.nd
  refine F.ok schave_wraps (fun vs H Q E h => ?_) (fun cdv A outer s H vs Q E hr h => ?_)
  · obtain ⟨p, xs, us, rfl, sq, ps, l8, q⟩ := h
    rfl
  · obtain ⟨p, xs, us, rfl, sq, ps, l8, q⟩ := h
    skip
    refine ⟨_, (pss_one (ps_ret (pe_callB (cr_any rfl) (by rfl) TP.b_any (by decide +kernel) (pa_cons (pe_lc (own := [("procedure", 1)]) (g := gName 1) (tt := tYes) rfl nd (pi_tup (pv 0)) (blkOk_by (own := [("procedure", 1)]) (N := Nhave_wraps) (sc := defScope shave_wraps) (by decide +kernel)) (fun _ _ _ _ _ => (pg_name (i := 1) nd rfl (Or.inl rfl))) (fun _ _ _ _ _ => pts_nil) (fun _ _ _ _ _ => (pe_cmpR (op_inK (K := K) rfl) pe_str (pe_prK Rkinds rfl rfl rfl rfl rfl G.c.cl (hr.mono (by decide)) (pv 1) rfl) (by rfl)))) pa_nil)))), ?_⟩

    have lx := ps.len
    refine ⟨_, rfl, p, rfl, ⟨xs, sq⟩, fun D nD => ?_⟩
    refine lc_tup (xs := xs) (fun i H' => Same H H' ∧ H' D = some (.lst (((us.take i).map fun u => u.2.1.any (·.2)).map V.bl))) ⟨same_upd nD, upd_same⟩ (fun i H' hi h => Same.sqT h.1 sq) (fun i x H2 hx h => ?_) (fun H' h => ?_)
    · obtain ⟨sm, eD⟩ := h
      obtain ⟨a, u, rfl, hu, pa⟩ := (ps.same sm).get hx
      have li := (List.getElem?_eq_some_iff.mp hx).1
      obtain ⟨⟨dx, pv', bv, pb, ka, wa, ua, ys, ws, vs, h1, h2, h3, h4, h5, h6, -⟩, -⟩ := pa
      obtain ⟨aw, zs, ez, sz, rz⟩ := Dp.tup_inv (show Dp K H2 (.ref ka) (.tuple (u.2.1.map fun p => .str (kd p.2))) from h6)
      cases ez
      have ez2 : ∀ l : List (Str × Bool), ∀ {zs : List V}, DpAll K H2 zs (l.map fun p => PyData.str (kd p.2)) → zs = (l.map fun p => kd p.2).map V.str := fun l => by
        induction l with
        | nil => intro zs r; cases r; rfl
        | cons p l ih =>
          intro zs r
          cases r with
          | cons h r =>
            cases Dp.str_inv h
            rw [ih r]
            rfl
      have ez3 := ez2 _ rz
      subst ez3
      refine ⟨rfl, _, rfl, a, dx, _, rfl, h1, a, dx, _, _, rfl, h1, lk5, ?_⟩
      refine ⟨ka, _, rfl, .inr sz, rfl, flat_strs _, ?_⟩
      rw [inV_strs, wrap_in]
      refine ⟨_, eD, ?_, Same.set sm nD, ?_⟩
      · rw [List.length_map, List.length_map, List.length_take]
        exact Nat.lt_of_le_of_lt (Nat.min_le_right _ _) (small1000 (by omega))
      · rw [upd_same, take_one (fun u : RowU => u.2.1.any (·.2)) hu, List.map_append]
        rfl
    · obtain ⟨sm, eD⟩ := h
      rw [lx, List.take_length] at eD
      refine ⟨D, _, rfl, .inl (.inl eD), ?_⟩
      have e4 : (us.map fun u => u.2.1.any (·.2)).any id = wrapsIn us := by
        unfold wrapsIn
        rw [List.any_map]
        rfl
      rw [e4]
      exact q H' sm
end
end FS

set_option Elab.async false
set_option linter.all false
set_option maxRecDepth 100000
set_option maxHeartbeats 4000000
/-! the end's small facts -/
namespace FS
open PySem PySem.Spec PyProof.Rows L2
theorem exm_is {K : PySem.W.Frag} {R S : Addr} {r : Bool} (b : PySem.W.subIn K (.ref S) (.type "BaseException") = some true) (i : PySem.W.isClsIn K S = true) (t : PySem.W.typeIn K (.ref S) = some (.type "type")) (s : PySem.W.subIn K (.ref R) (.ref S) = some r) : PySem.W.exmOne K (.ref R) (.ref S) = some r := by
  unfold PySem.W.exmOne
  rw [if_pos (by rw [b]; rfl)]
  have h2 : ((PySem.W.clsIn K S).isSome && PySem.W.typeIn K (.ref S) == some (.type "type")) = true := by
    rw [show (PySem.W.clsIn K S).isSome = true from i, t] <;> rfl
  show (if ((PySem.W.clsIn K S).isSome && PySem.W.typeIn K (.ref S) == some (.type "type")) = true then PySem.W.subIn K (.ref R) (.ref S) else none) = some r
  rw [if_pos h2]
  exact s
theorem kit_no_str {K : PySem.W.Frag} {S : Addr} (s : PySem.W.subIn K (.ref S) (.type "str") = some false) : PySem.W.kitOne K (.ref S) (.type "str") = some false := by
  unfold PySem.W.kitOne
  rw [if_neg (by simp)]
  show (if PySem.W.kitMeta "str" = true then PySem.W.subIn K (.ref S) (.type "str") else none) = some false
  rw [if_pos (by decide +kernel)]
  exact s
end FS

set_option Elab.async false
set_option linter.all false
set_option maxRecDepth 100000
set_option maxHeartbeats 8000000
namespace FS
open PySem PySem.Spec PyProof.Rows L2 LamX
theorem all_mk {l : PySem.W.OpenLaw} {w : World} {K : PySem.W.Frag} {h : Heap} {mg : Str → Option Value} {fa C CP CI CO cR cL PR PL aK aT aW pOf f1 f2 f3 f4 f5 f6 f7 f8 f9 f10 f11 f12 f13 f14 f15 f16 f17 f18 f19 f20 f21 f22 f23 f24 f25 f26 f27 f28 f29 f30 f31 f32 f33 f34 f35 f36 f37 f38 f39 f40 f41 f42 f43 f44 f45 f46 f47 f48 f49 f50 p_Procedurenamed p_Procedureparameters p_Procedurebody p_Procedurekinds p_Procedurewords : Addr} (X : K.In h) (G : h.Ns mainGlobals mg) (hfa : mg "law" = some (.ref fa))
    {od1 an1 od2 an2 od3 an3 od4 an4 od5 an5 od6 an6 od7 an7 od8 an8 od9 an9 od10 an10 od11 an11 od12 an12 od13 an13 od14 an14 od15 an15 od16 an16 od17 an17 od18 an18 od19 an19 od20 an20 od21 an21 od22 an22 od23 an23 od24 an24 od25 an25 od26 an26 od27 an27 od28 an28 od29 an29 od30 an30 od31 an31 od32 an32 od33 an33 od34 an34 od35 an35 od36 an36 od37 an37 od38 an38 od39 an39 od40 an40 od41 an41 od42 an42 od43 an43 od44 an44 od45 an45 od46 an46 od47 an47 od48 an48 od49 an49 od50 an50 : Option Addr} {sl1 sl2 sl3 sl4 sl5 sl6 sl7 sl8 sl9 sl10 sl11 sl12 sl13 sl14 sl15 sl16 sl17 sl18 sl19 sl20 sl21 sl22 sl23 sl24 sl25 sl26 sl27 sl28 sl29 sl30 sl31 sl32 sl33 sl34 sl35 sl36 sl37 sl38 sl39 sl40 sl41 sl42 sl43 sl44 sl45 sl46 sl47 sl48 sl49 sl50 : Array (Option Value)} {oc1 kV1 dc1 pm1 cd1 ct1 oc2 kV2 dc2 pm2 cd2 ct2 oc3 kV3 dc3 pm3 cd3 ct3 oc4 kV4 dc4 pm4 cd4 ct4 oc5 kV5 dc5 pm5 cd5 ct5 oc6 kV6 dc6 pm6 cd6 ct6 oc7 kV7 dc7 pm7 cd7 ct7 oc8 kV8 dc8 pm8 cd8 ct8 oc9 kV9 dc9 pm9 cd9 ct9 oc10 kV10 dc10 pm10 cd10 ct10 oc11 kV11 dc11 pm11 cd11 ct11 oc12 kV12 dc12 pm12 cd12 ct12 oc13 kV13 dc13 pm13 cd13 ct13 oc14 kV14 dc14 pm14 cd14 ct14 oc15 kV15 dc15 pm15 cd15 ct15 oc16 kV16 dc16 pm16 cd16 ct16 oc17 kV17 dc17 pm17 cd17 ct17 oc18 kV18 dc18 pm18 cd18 ct18 oc19 kV19 dc19 pm19 cd19 ct19 oc20 kV20 dc20 pm20 cd20 ct20 oc21 kV21 dc21 pm21 cd21 ct21 oc22 kV22 dc22 pm22 cd22 ct22 oc23 kV23 dc23 pm23 cd23 ct23 oc24 kV24 dc24 pm24 cd24 ct24 oc25 kV25 dc25 pm25 cd25 ct25 oc26 kV26 dc26 pm26 cd26 ct26 oc27 kV27 dc27 pm27 cd27 ct27 oc28 kV28 dc28 pm28 cd28 ct28 oc29 kV29 dc29 pm29 cd29 ct29 oc30 kV30 dc30 pm30 cd30 ct30 oc31 kV31 dc31 pm31 cd31 ct31 oc32 kV32 dc32 pm32 cd32 ct32 oc33 kV33 dc33 pm33 cd33 ct33 oc34 kV34 dc34 pm34 ct34 oc35 kV35 dc35 pm35 cd35 ct35 oc36 kV36 dc36 pm36 ct36 oc37 kV37 dc37 pm37 cd37 ct37 oc38 kV38 dc38 pm38 cd38 ct38 oc39 kV39 dc39 pm39 cd39 ct39 oc40 kV40 dc40 pm40 cd40 ct40 oc41 kV41 dc41 pm41 cd41 ct41 oc42 kV42 dc42 pm42 cd42 ct42 oc43 kV43 dc43 pm43 cd43 ct43 oc44 kV44 dc44 pm44 cd44 ct44 oc45 kV45 dc45 pm45 cd45 ct45 oc46 kV46 dc46 pm46 cd46 ct46 oc47 kV47 dc47 pm47 cd47 ct47 oc48 kV48 dc48 pm48 cd48 ct48 oc49 kV49 dc49 pm49 cd49 ct49 oc50 kV50 dc50 pm50 cd50 ct50 : Value}
    {t_MAX_LETTERS t_MAX_MODES t_MAX_PARAMETERS t_MAX_DEPTH t_MAX_TERMS t_MAX_PROCEDURES t_MAX_MODES_WITH_WRAPS t_KINDS0 t_KINDS1 t_TERM_TAGS0 t_TERM_TAGS1 t_TERM_TAGS2 t_TERM_TAGS3 t_TERM_TAGS4 t_TERM_TAGS5 t_WRAP_TAGS0 t_WRAP_TAGS1 : Tok} {d_KINDS d_TERM_TAGS d_WRAP_TAGS : Option Addr} {n_KINDS n_TERM_TAGS n_WRAP_TAGS : Nat} {z_KINDS z_TERM_TAGS z_WRAP_TAGS : Array (Option Value)} {rp_Procedurenamed rp_Procedureparameters rp_Procedurebody rp_Procedurekinds rp_Procedurewords rOf : List Value}
    (a1 : PySem.W.nsIn K mainGlobals "is_integer_in" = some (some (.ref f1)))
    (l1 : K.lookup f1 = some ⟨oc1, od1, .func (PySem.W.fnOf "is_integer_in" "is_integer_in" (defArgs sis_integer_in) (defBody sis_integer_in) (defScope sis_integer_in) .none kV1 dc1 pm1 an1 cd1 ct1), sl1⟩)
    (c1 : PySem.W.codeIn K cd1 "is_integer_in" = true)
    (k1 : PySem.W.keepIn K (.ref f1) = true)
    (a2 : PySem.W.nsIn K mainGlobals "is_name" = some (some (.ref f2)))
    (l2 : K.lookup f2 = some ⟨oc2, od2, .func (PySem.W.fnOf "is_name" "is_name" (defArgs sis_name) (defBody sis_name) (defScope sis_name) .none kV2 dc2 pm2 an2 cd2 ct2), sl2⟩)
    (c2 : PySem.W.codeIn K cd2 "is_name" = true)
    (k2 : PySem.W.keepIn K (.ref f2) = true)
    (a3 : PySem.W.nsIn K mainGlobals "kind_of" = some (some (.ref f3)))
    (l3 : K.lookup f3 = some ⟨oc3, od3, .func (PySem.W.fnOf "kind_of" "kind_of" (defArgs skind_of) (defBody skind_of) (defScope skind_of) .none kV3 dc3 pm3 an3 cd3 ct3), sl3⟩)
    (c3 : PySem.W.codeIn K cd3 "kind_of" = true)
    (k3 : PySem.W.keepIn K (.ref f3) = true)
    (a4 : PySem.W.nsIn K mainGlobals "kinds_of" = some (some (.ref f4)))
    (l4 : K.lookup f4 = some ⟨oc4, od4, .func (PySem.W.fnOf "kinds_of" "kinds_of" (defArgs skinds_of) (defBody skinds_of) (defScope skinds_of) .none kV4 dc4 pm4 an4 cd4 ct4), sl4⟩)
    (c4 : PySem.W.codeIn K cd4 "kinds_of" = true)
    (k4 : PySem.W.keepIn K (.ref f4) = true)
    (a5 : PySem.W.nsIn K mainGlobals "parts_in" = some (some (.ref f5)))
    (l5 : K.lookup f5 = some ⟨oc5, od5, .func (PySem.W.fnOf "parts_in" "parts_in" (defArgs sparts_in) (defBody sparts_in) (defScope sparts_in) .none kV5 dc5 pm5 an5 cd5 ct5), sl5⟩)
    (c5 : PySem.W.codeIn K cd5 "parts_in" = true)
    (k5 : PySem.W.keepIn K (.ref f5) = true)
    (a6 : PySem.W.nsIn K mainGlobals "kinds_in" = some (some (.ref f6)))
    (l6 : K.lookup f6 = some ⟨oc6, od6, .func (PySem.W.fnOf "kinds_in" "kinds_in" (defArgs skinds_in) (defBody skinds_in) (defScope skinds_in) .none kV6 dc6 pm6 an6 cd6 ct6), sl6⟩)
    (c6 : PySem.W.codeIn K cd6 "kinds_in" = true)
    (k6 : PySem.W.keepIn K (.ref f6) = true)
    (a7 : PySem.W.nsIn K mainGlobals "all_parts" = some (some (.ref f7)))
    (l7 : K.lookup f7 = some ⟨oc7, od7, .func (PySem.W.fnOf "all_parts" "all_parts" (defArgs sall_parts) (defBody sall_parts) (defScope sall_parts) .none kV7 dc7 pm7 an7 cd7 ct7), sl7⟩)
    (c7 : PySem.W.codeIn K cd7 "all_parts" = true)
    (k7 : PySem.W.keepIn K (.ref f7) = true)
    (a8 : PySem.W.nsIn K mainGlobals "is_deed_table" = some (some (.ref f8)))
    (l8 : K.lookup f8 = some ⟨oc8, od8, .func (PySem.W.fnOf "is_deed_table" "is_deed_table" (defArgs sis_deed_table) (defBody sis_deed_table) (defScope sis_deed_table) .none kV8 dc8 pm8 an8 cd8 ct8), sl8⟩)
    (c8 : PySem.W.codeIn K cd8 "is_deed_table" = true)
    (k8 : PySem.W.keepIn K (.ref f8) = true)
    (a9 : PySem.W.nsIn K mainGlobals "has_form" = some (some (.ref f9)))
    (l9 : K.lookup f9 = some ⟨oc9, od9, .func (PySem.W.fnOf "has_form" "has_form" (defArgs shas_form) (defBody shas_form) (defScope shas_form) .none kV9 dc9 pm9 an9 cd9 ct9), sl9⟩)
    (c9 : PySem.W.codeIn K cd9 "has_form" = true)
    (k9 : PySem.W.keepIn K (.ref f9) = true)
    (a10 : PySem.W.nsIn K mainGlobals "is_parameter" = some (some (.ref f10)))
    (l10 : K.lookup f10 = some ⟨oc10, od10, .func (PySem.W.fnOf "is_parameter" "is_parameter" (defArgs sis_parameter) (defBody sis_parameter) (defScope sis_parameter) .none kV10 dc10 pm10 an10 cd10 ct10), sl10⟩)
    (c10 : PySem.W.codeIn K cd10 "is_parameter" = true)
    (k10 : PySem.W.keepIn K (.ref f10) = true)
    (a11 : PySem.W.nsIn K mainGlobals "are_parameters" = some (some (.ref f11)))
    (l11 : K.lookup f11 = some ⟨oc11, od11, .func (PySem.W.fnOf "are_parameters" "are_parameters" (defArgs sare_parameters) (defBody sare_parameters) (defScope sare_parameters) .none kV11 dc11 pm11 an11 cd11 ct11), sl11⟩)
    (c11 : PySem.W.codeIn K cd11 "are_parameters" = true)
    (k11 : PySem.W.keepIn K (.ref f11) = true)
    (a12 : PySem.W.nsIn K mainGlobals "is_term" = some (some (.ref f12)))
    (l12 : K.lookup f12 = some ⟨oc12, od12, .func (PySem.W.fnOf "is_term" "is_term" (defArgs sis_term) (defBody sis_term) (defScope sis_term) .none kV12 dc12 pm12 an12 cd12 ct12), sl12⟩)
    (c12 : PySem.W.codeIn K cd12 "is_term" = true)
    (k12 : PySem.W.keepIn K (.ref f12) = true)
    (a13 : PySem.W.nsIn K mainGlobals "kinds_by_name" = some (some (.ref f13)))
    (l13 : K.lookup f13 = some ⟨oc13, od13, .func (PySem.W.fnOf "kinds_by_name" "kinds_by_name" (defArgs skinds_by_name) (defBody skinds_by_name) (defScope skinds_by_name) .none kV13 dc13 pm13 an13 cd13 ct13), sl13⟩)
    (c13 : PySem.W.codeIn K cd13 "kinds_by_name" = true)
    (k13 : PySem.W.keepIn K (.ref f13) = true)
    (a14 : PySem.W.nsIn K mainGlobals "have_wraps" = some (some (.ref f14)))
    (l14 : K.lookup f14 = some ⟨oc14, od14, .func (PySem.W.fnOf "have_wraps" "have_wraps" (defArgs shave_wraps) (defBody shave_wraps) (defScope shave_wraps) .none kV14 dc14 pm14 an14 cd14 ct14), sl14⟩)
    (c14 : PySem.W.codeIn K cd14 "have_wraps" = true)
    (k14 : PySem.W.keepIn K (.ref f14) = true)
    (a15 : PySem.W.nsIn K mainGlobals "are_procedures" = some (some (.ref f15)))
    (l15 : K.lookup f15 = some ⟨oc15, od15, .func (PySem.W.fnOf "are_procedures" "are_procedures" (defArgs sare_procedures) (defBody sare_procedures) (defScope sare_procedures) .none kV15 dc15 pm15 an15 cd15 ct15), sl15⟩)
    (c15 : PySem.W.codeIn K cd15 "are_procedures" = true)
    (k15 : PySem.W.keepIn K (.ref f15) = true)
    (a16 : PySem.W.nsIn K mainGlobals "fits" = some (some (.ref f16)))
    (l16 : K.lookup f16 = some ⟨oc16, od16, .func (PySem.W.fnOf "fits" "fits" (defArgs sfits) (defBody sfits) (defScope sfits) .none kV16 dc16 pm16 an16 cd16 ct16), sl16⟩)
    (c16 : PySem.W.codeIn K cd16 "fits" = true)
    (k16 : PySem.W.keepIn K (.ref f16) = true)
    (a17 : PySem.W.nsIn K mainGlobals "can_make_program" = some (some (.ref f17)))
    (l17 : K.lookup f17 = some ⟨oc17, od17, .func (PySem.W.fnOf "can_make_program" "can_make_program" (defArgs scan_make_program) (defBody scan_make_program) (defScope scan_make_program) .none kV17 dc17 pm17 an17 cd17 ct17), sl17⟩)
    (c17 : PySem.W.codeIn K cd17 "can_make_program" = true)
    (k17 : PySem.W.keepIn K (.ref f17) = true)
    (a18 : PySem.W.nsIn K mainGlobals "_law_numbers" = some (some (.ref f18)))
    (l18 : K.lookup f18 = some ⟨oc18, od18, .func (PySem.W.fnOf "_law_numbers" "_law_numbers" (defArgs s_law_numbers) (defBody s_law_numbers) (defScope s_law_numbers) .none kV18 dc18 pm18 an18 cd18 ct18), sl18⟩)
    (c18 : PySem.W.codeIn K cd18 "_law_numbers" = true)
    (k18 : PySem.W.keepIn K (.ref f18) = true)
    (a19 : PySem.W.nsIn K mainGlobals "_law_cast" = some (some (.ref f19)))
    (l19 : K.lookup f19 = some ⟨oc19, od19, .func (PySem.W.fnOf "_law_cast" "_law_cast" (defArgs s_law_cast) (defBody s_law_cast) (defScope s_law_cast) .none kV19 dc19 pm19 an19 cd19 ct19), sl19⟩)
    (c19 : PySem.W.codeIn K cd19 "_law_cast" = true)
    (k19 : PySem.W.keepIn K (.ref f19) = true)
    (a20 : PySem.W.nsIn K mainGlobals "_law_pick" = some (some (.ref f20)))
    (l20 : K.lookup f20 = some ⟨oc20, od20, .func (PySem.W.fnOf "_law_pick" "_law_pick" (defArgs s_law_pick) (defBody s_law_pick) (defScope s_law_pick) .none kV20 dc20 pm20 an20 cd20 ct20), sl20⟩)
    (c20 : PySem.W.codeIn K cd20 "_law_pick" = true)
    (k20 : PySem.W.keepIn K (.ref f20) = true)
    (a21 : PySem.W.nsIn K mainGlobals "_law_shuffle" = some (some (.ref f21)))
    (l21 : K.lookup f21 = some ⟨oc21, od21, .func (PySem.W.fnOf "_law_shuffle" "_law_shuffle" (defArgs s_law_shuffle) (defBody s_law_shuffle) (defScope s_law_shuffle) .none kV21 dc21 pm21 an21 cd21 ct21), sl21⟩)
    (c21 : PySem.W.codeIn K cd21 "_law_shuffle" = true)
    (k21 : PySem.W.keepIn K (.ref f21) = true)
    (a22 : PySem.W.nsIn K mainGlobals "_law_is_number" = some (some (.ref f22)))
    (l22 : K.lookup f22 = some ⟨oc22, od22, .func (PySem.W.fnOf "_law_is_number" "_law_is_number" (defArgs s_law_is_number) (defBody s_law_is_number) (defScope s_law_is_number) .none kV22 dc22 pm22 an22 cd22 ct22), sl22⟩)
    (c22 : PySem.W.codeIn K cd22 "_law_is_number" = true)
    (k22 : PySem.W.keepIn K (.ref f22) = true)
    (a23 : PySem.W.nsIn K mainGlobals "_law_own_names" = some (some (.ref f23)))
    (l23 : K.lookup f23 = some ⟨oc23, od23, .func (PySem.W.fnOf "_law_own_names" "_law_own_names" (defArgs s_law_own_names) (defBody s_law_own_names) (defScope s_law_own_names) .none kV23 dc23 pm23 an23 cd23 ct23), sl23⟩)
    (c23 : PySem.W.codeIn K cd23 "_law_own_names" = true)
    (k23 : PySem.W.keepIn K (.ref f23) = true)
    (a24 : PySem.W.nsIn K mainGlobals "_law_all_in" = some (some (.ref f24)))
    (l24 : K.lookup f24 = some ⟨oc24, od24, .func (PySem.W.fnOf "_law_all_in" "_law_all_in" (defArgs s_law_all_in) (defBody s_law_all_in) (defScope s_law_all_in) .none kV24 dc24 pm24 an24 cd24 ct24), sl24⟩)
    (c24 : PySem.W.codeIn K cd24 "_law_all_in" = true)
    (k24 : PySem.W.keepIn K (.ref f24) = true)
    (a25 : PySem.W.nsIn K mainGlobals "_law_any_deed" = some (some (.ref f25)))
    (l25 : K.lookup f25 = some ⟨oc25, od25, .func (PySem.W.fnOf "_law_any_deed" "_law_any_deed" (defArgs s_law_any_deed) (defBody s_law_any_deed) (defScope s_law_any_deed) .none kV25 dc25 pm25 an25 cd25 ct25), sl25⟩)
    (c25 : PySem.W.codeIn K cd25 "_law_any_deed" = true)
    (k25 : PySem.W.keepIn K (.ref f25) = true)
    (a26 : PySem.W.nsIn K mainGlobals "_law_any_given" = some (some (.ref f26)))
    (l26 : K.lookup f26 = some ⟨oc26, od26, .func (PySem.W.fnOf "_law_any_given" "_law_any_given" (defArgs s_law_any_given) (defBody s_law_any_given) (defScope s_law_any_given) .none kV26 dc26 pm26 an26 cd26 ct26), sl26⟩)
    (c26 : PySem.W.codeIn K cd26 "_law_any_given" = true)
    (k26 : PySem.W.keepIn K (.ref f26) = true)
    (a27 : PySem.W.nsIn K mainGlobals "_law_any_wrap" = some (some (.ref f27)))
    (l27 : K.lookup f27 = some ⟨oc27, od27, .func (PySem.W.fnOf "_law_any_wrap" "_law_any_wrap" (defArgs s_law_any_wrap) (defBody s_law_any_wrap) (defScope s_law_any_wrap) .none kV27 dc27 pm27 an27 cd27 ct27), sl27⟩)
    (c27 : PySem.W.codeIn K cd27 "_law_any_wrap" = true)
    (k27 : PySem.W.keepIn K (.ref f27) = true)
    (a28 : PySem.W.nsIn K mainGlobals "_law_any_term" = some (some (.ref f28)))
    (l28 : K.lookup f28 = some ⟨oc28, od28, .func (PySem.W.fnOf "_law_any_term" "_law_any_term" (defArgs s_law_any_term) (defBody s_law_any_term) (defScope s_law_any_term) .none kV28 dc28 pm28 an28 cd28 ct28), sl28⟩)
    (c28 : PySem.W.codeIn K cd28 "_law_any_term" = true)
    (k28 : PySem.W.keepIn K (.ref f28) = true)
    (a29 : PySem.W.nsIn K mainGlobals "_law_any_body" = some (some (.ref f29)))
    (l29 : K.lookup f29 = some ⟨oc29, od29, .func (PySem.W.fnOf "_law_any_body" "_law_any_body" (defArgs s_law_any_body) (defBody s_law_any_body) (defScope s_law_any_body) .none kV29 dc29 pm29 an29 cd29 ct29), sl29⟩)
    (c29 : PySem.W.codeIn K cd29 "_law_any_body" = true)
    (k29 : PySem.W.keepIn K (.ref f29) = true)
    (a30 : PySem.W.nsIn K mainGlobals "_law_any_plain" = some (some (.ref f30)))
    (l30 : K.lookup f30 = some ⟨oc30, od30, .func (PySem.W.fnOf "_law_any_plain" "_law_any_plain" (defArgs s_law_any_plain) (defBody s_law_any_plain) (defScope s_law_any_plain) .none kV30 dc30 pm30 an30 cd30 ct30), sl30⟩)
    (c30 : PySem.W.codeIn K cd30 "_law_any_plain" = true)
    (k30 : PySem.W.keepIn K (.ref f30) = true)
    (a31 : PySem.W.nsIn K mainGlobals "_law_made" = some (some (.ref f31)))
    (l31 : K.lookup f31 = some ⟨oc31, od31, .func (PySem.W.fnOf "_law_made" "_law_made" (defArgs s_law_made) (defBody s_law_made) (defScope s_law_made) .none kV31 dc31 pm31 an31 cd31 ct31), sl31⟩)
    (c31 : PySem.W.codeIn K cd31 "_law_made" = true)
    (k31 : PySem.W.keepIn K (.ref f31) = true)
    (a32 : PySem.W.nsIn K mainGlobals "_law_is_program" = some (some (.ref f32)))
    (l32 : K.lookup f32 = some ⟨oc32, od32, .func (PySem.W.fnOf "_law_is_program" "_law_is_program" (defArgs s_law_is_program) (defBody s_law_is_program) (defScope s_law_is_program) .none kV32 dc32 pm32 an32 cd32 ct32), sl32⟩)
    (c32 : PySem.W.codeIn K cd32 "_law_is_program" = true)
    (k32 : PySem.W.keepIn K (.ref f32) = true)
    (a33 : PySem.W.nsIn K mainGlobals "_law_met" = some (some (.ref f33)))
    (l33 : K.lookup f33 = some ⟨oc33, od33, .func (PySem.W.fnOf "_law_met" "_law_met" (defArgs s_law_met) (defBody s_law_met) (defScope s_law_met) .none kV33 dc33 pm33 an33 cd33 ct33), sl33⟩)
    (c33 : PySem.W.codeIn K cd33 "_law_met" = true)
    (k33 : PySem.W.keepIn K (.ref f33) = true)
    (a34 : PySem.W.nsIn K mainGlobals "_law_changed" = some (some (.ref f34)))
    (l34 : K.lookup f34 = some ⟨oc34, od34, .func (PySem.W.fnOf "_law_changed" "_law_changed" (defArgs s_law_changed) (defBody s_law_changed) (defScope s_law_changed) .none kV34 dc34 pm34 an34 (.ref cR) ct34), sl34⟩)
    (c34 : PySem.W.codeIn K (.ref cR) "_law_changed" = true)
    (k34 : PySem.W.keepIn K (.ref f34) = true)
    (a35 : PySem.W.nsIn K mainGlobals "_law_right" = some (some (.ref f35)))
    (l35 : K.lookup f35 = some ⟨oc35, od35, .func (PySem.W.fnOf "_law_right" "_law_right" (defArgs s_law_right) (defBody s_law_right) (defScope s_law_right) .none kV35 dc35 pm35 an35 cd35 ct35), sl35⟩)
    (c35 : PySem.W.codeIn K cd35 "_law_right" = true)
    (k35 : PySem.W.keepIn K (.ref f35) = true)
    (a36 : PySem.W.nsIn K mainGlobals "law" = some (some (.ref f36)))
    (l36 : K.lookup f36 = some ⟨oc36, od36, .func (PySem.W.fnOf "law" "law" (defArgs slaw) (defBody slaw) (defScope slaw) .none kV36 dc36 pm36 an36 (.ref cL) ct36), sl36⟩)
    (c36 : PySem.W.codeIn K (.ref cL) "law" = true)
    (k36 : PySem.W.keepIn K (.ref f36) = true)
    (a37 : PySem.W.findIn K (.ref C) "__init__" = some (some (.ref f37)))
    (i37 : PySem.W.isFn K (.ref f37) = true)
    (l37 : K.lookup f37 = some ⟨oc37, od37, .func (PySem.W.fnOf "__init__" "Procedure.__init__" (defArgs sProcedure__init__) (defBody sProcedure__init__) (defScope sProcedure__init__) .none kV37 dc37 pm37 an37 cd37 ct37), sl37⟩)
    (c37 : PySem.W.codeIn K cd37 "Procedure.__init__" = true)
    (k37 : PySem.W.keepIn K (.ref f37) = true)
    (pa38 : PySem.W.findIn K (.ref C) "named" = some (some (.ref p_Procedurenamed)))
    (pg38 : PySem.W.specialIn K (.ref p_Procedurenamed) "__get__" = some (some (.builtin "property.__get__")))
    (pt38 : PySem.W.takesIn K (.ref p_Procedurenamed) = some true)
    (pr38 : PySem.W.recIn K p_Procedurenamed "property" = some (.ref f38 :: rp_Procedurenamed))
    (l38 : K.lookup f38 = some ⟨oc38, od38, .func (PySem.W.fnOf "named" "Procedure.named" (defArgs sProcedurenamed) (defBody sProcedurenamed) (defScope sProcedurenamed) .none kV38 dc38 pm38 an38 cd38 ct38), sl38⟩)
    (c38 : PySem.W.codeIn K cd38 "Procedure.named" = true)
    (k38 : PySem.W.keepIn K (.ref f38) = true)
    (pa39 : PySem.W.findIn K (.ref C) "parameters" = some (some (.ref p_Procedureparameters)))
    (pg39 : PySem.W.specialIn K (.ref p_Procedureparameters) "__get__" = some (some (.builtin "property.__get__")))
    (pt39 : PySem.W.takesIn K (.ref p_Procedureparameters) = some true)
    (pr39 : PySem.W.recIn K p_Procedureparameters "property" = some (.ref f39 :: rp_Procedureparameters))
    (l39 : K.lookup f39 = some ⟨oc39, od39, .func (PySem.W.fnOf "parameters" "Procedure.parameters" (defArgs sProcedureparameters) (defBody sProcedureparameters) (defScope sProcedureparameters) .none kV39 dc39 pm39 an39 cd39 ct39), sl39⟩)
    (c39 : PySem.W.codeIn K cd39 "Procedure.parameters" = true)
    (k39 : PySem.W.keepIn K (.ref f39) = true)
    (pa40 : PySem.W.findIn K (.ref C) "body" = some (some (.ref p_Procedurebody)))
    (pg40 : PySem.W.specialIn K (.ref p_Procedurebody) "__get__" = some (some (.builtin "property.__get__")))
    (pt40 : PySem.W.takesIn K (.ref p_Procedurebody) = some true)
    (pr40 : PySem.W.recIn K p_Procedurebody "property" = some (.ref f40 :: rp_Procedurebody))
    (l40 : K.lookup f40 = some ⟨oc40, od40, .func (PySem.W.fnOf "body" "Procedure.body" (defArgs sProcedurebody) (defBody sProcedurebody) (defScope sProcedurebody) .none kV40 dc40 pm40 an40 cd40 ct40), sl40⟩)
    (c40 : PySem.W.codeIn K cd40 "Procedure.body" = true)
    (k40 : PySem.W.keepIn K (.ref f40) = true)
    (pa41 : PySem.W.findIn K (.ref C) "kinds" = some (some (.ref p_Procedurekinds)))
    (pg41 : PySem.W.specialIn K (.ref p_Procedurekinds) "__get__" = some (some (.builtin "property.__get__")))
    (pt41 : PySem.W.takesIn K (.ref p_Procedurekinds) = some true)
    (pr41 : PySem.W.recIn K p_Procedurekinds "property" = some (.ref f41 :: rp_Procedurekinds))
    (l41 : K.lookup f41 = some ⟨oc41, od41, .func (PySem.W.fnOf "kinds" "Procedure.kinds" (defArgs sProcedurekinds) (defBody sProcedurekinds) (defScope sProcedurekinds) .none kV41 dc41 pm41 an41 cd41 ct41), sl41⟩)
    (c41 : PySem.W.codeIn K cd41 "Procedure.kinds" = true)
    (k41 : PySem.W.keepIn K (.ref f41) = true)
    (pa42 : PySem.W.findIn K (.ref C) "words" = some (some (.ref p_Procedurewords)))
    (pg42 : PySem.W.specialIn K (.ref p_Procedurewords) "__get__" = some (some (.builtin "property.__get__")))
    (pt42 : PySem.W.takesIn K (.ref p_Procedurewords) = some true)
    (pr42 : PySem.W.recIn K p_Procedurewords "property" = some (.ref f42 :: rp_Procedurewords))
    (l42 : K.lookup f42 = some ⟨oc42, od42, .func (PySem.W.fnOf "words" "Procedure.words" (defArgs sProcedurewords) (defBody sProcedurewords) (defScope sProcedurewords) .none kV42 dc42 pm42 an42 cd42 ct42), sl42⟩)
    (c42 : PySem.W.codeIn K cd42 "Procedure.words" = true)
    (k42 : PySem.W.keepIn K (.ref f42) = true)
    (a43 : PySem.W.findIn K (.ref C) "__len__" = some (some (.ref f43)))
    (i43 : PySem.W.isFn K (.ref f43) = true)
    (l43 : K.lookup f43 = some ⟨oc43, od43, .func (PySem.W.fnOf "__len__" "Procedure.__len__" (defArgs sProcedure__len__) (defBody sProcedure__len__) (defScope sProcedure__len__) .none kV43 dc43 pm43 an43 cd43 ct43), sl43⟩)
    (c43 : PySem.W.codeIn K cd43 "Procedure.__len__" = true)
    (k43 : PySem.W.keepIn K (.ref f43) = true)
    (a44 : PySem.W.findIn K (.ref C) "__eq__" = some (some (.ref f44)))
    (i44 : PySem.W.isFn K (.ref f44) = true)
    (l44 : K.lookup f44 = some ⟨oc44, od44, .func (PySem.W.fnOf "__eq__" "Procedure.__eq__" (defArgs sProcedure__eq__) (defBody sProcedure__eq__) (defScope sProcedure__eq__) .none kV44 dc44 pm44 an44 cd44 ct44), sl44⟩)
    (c44 : PySem.W.codeIn K cd44 "Procedure.__eq__" = true)
    (k44 : PySem.W.keepIn K (.ref f44) = true)
    (a45 : PySem.W.findIn K (.ref C) "__str__" = some (some (.ref f45)))
    (i45 : PySem.W.isFn K (.ref f45) = true)
    (l45 : K.lookup f45 = some ⟨oc45, od45, .func (PySem.W.fnOf "__str__" "Procedure.__str__" (defArgs sProcedure__str__) (defBody sProcedure__str__) (defScope sProcedure__str__) .none kV45 dc45 pm45 an45 cd45 ct45), sl45⟩)
    (c45 : PySem.W.codeIn K cd45 "Procedure.__str__" = true)
    (k45 : PySem.W.keepIn K (.ref f45) = true)
    (a46 : PySem.W.findIn K (.ref CP) "__init__" = some (some (.ref f46)))
    (i46 : PySem.W.isFn K (.ref f46) = true)
    (l46 : K.lookup f46 = some ⟨oc46, od46, .func (PySem.W.fnOf "__init__" "Program.__init__" (defArgs sProgram__init__) (defBody sProgram__init__) (defScope sProgram__init__) .none kV46 dc46 pm46 an46 cd46 ct46), sl46⟩)
    (c46 : PySem.W.codeIn K cd46 "Program.__init__" = true)
    (k46 : PySem.W.keepIn K (.ref f46) = true)
    (qof : PySem.W.findCls K (.ref CP) (.type "type") "of" = some (.get (.builtin "classmethod.__get__") (.ref pOf) .none (.ref CP)))
    (qor : PySem.W.recIn K pOf "classmethod" = some (.ref f47 :: rOf))
    (qoi : PySem.W.fnIn K f47 = true)
    (l47 : K.lookup f47 = some ⟨oc47, od47, .func (PySem.W.fnOf "of" "Program.of" (defArgs sProgramof) (defBody sProgramof) (defScope sProgramof) .none kV47 dc47 pm47 an47 cd47 ct47), sl47⟩)
    (c47 : PySem.W.codeIn K cd47 "Program.of" = true)
    (k47 : PySem.W.keepIn K (.ref f47) = true)
    (a48 : PySem.W.findIn K (.ref CP) "with_procedure" = some (some (.ref f48)))
    (i48 : PySem.W.isFn K (.ref f48) = true)
    (l48 : K.lookup f48 = some ⟨oc48, od48, .func (PySem.W.fnOf "with_procedure" "Program.with_procedure" (defArgs sProgramwith_procedure) (defBody sProgramwith_procedure) (defScope sProgramwith_procedure) .none kV48 dc48 pm48 an48 cd48 ct48), sl48⟩)
    (c48 : PySem.W.codeIn K cd48 "Program.with_procedure" = true)
    (k48 : PySem.W.keepIn K (.ref f48) = true)
    (a49 : PySem.W.findIn K (.ref CP) "without" = some (some (.ref f49)))
    (i49 : PySem.W.isFn K (.ref f49) = true)
    (l49 : K.lookup f49 = some ⟨oc49, od49, .func (PySem.W.fnOf "without" "Program.without" (defArgs sProgramwithout) (defBody sProgramwithout) (defScope sProgramwithout) .none kV49 dc49 pm49 an49 cd49 ct49), sl49⟩)
    (c49 : PySem.W.codeIn K cd49 "Program.without" = true)
    (k49 : PySem.W.keepIn K (.ref f49) = true)
    (a50 : PySem.W.findIn K (.ref CP) "__eq__" = some (some (.ref f50)))
    (i50 : PySem.W.isFn K (.ref f50) = true)
    (l50 : K.lookup f50 = some ⟨oc50, od50, .func (PySem.W.fnOf "__eq__" "Program.__eq__" (defArgs sProgram__eq__) (defBody sProgram__eq__) (defScope sProgram__eq__) .none kV50 dc50 pm50 an50 cd50 ct50), sl50⟩)
    (c50 : PySem.W.codeIn K cd50 "Program.__eq__" = true)
    (k50 : PySem.W.keepIn K (.ref f50) = true)
    (z_isinstance : PySem.W.nsIn K mainGlobals "isinstance" = some none)
    (z_str : PySem.W.nsIn K mainGlobals "str" = some none)
    (z_tuple : PySem.W.nsIn K mainGlobals "tuple" = some none)
    (z_list : PySem.W.nsIn K mainGlobals "list" = some none)
    (z_bool : PySem.W.nsIn K mainGlobals "bool" = some none)
    (z_len : PySem.W.nsIn K mainGlobals "len" = some none)
    (z_all : PySem.W.nsIn K mainGlobals "all" = some none)
    (z_int : PySem.W.nsIn K mainGlobals "int" = some none)
    (z_abs : PySem.W.nsIn K mainGlobals "abs" = some none)
    (z_max : PySem.W.nsIn K mainGlobals "max" = some none)
    (z_min : PySem.W.nsIn K mainGlobals "min" = some none)
    (z_range : PySem.W.nsIn K mainGlobals "range" = some none)
    (z_zip : PySem.W.nsIn K mainGlobals "zip" = some none)
    (z_sorted : PySem.W.nsIn K mainGlobals "sorted" = some none)
    (z_set : PySem.W.nsIn K mainGlobals "set" = some none)
    (z_any : PySem.W.nsIn K mainGlobals "any" = some none)
    (z_dict : PySem.W.nsIn K mainGlobals "dict" = some none)
    (y_MAX_LETTERS : PySem.W.nsIn K mainGlobals "MAX_LETTERS" = some (some (.int 8 t_MAX_LETTERS)))
    (y_MAX_MODES : PySem.W.nsIn K mainGlobals "MAX_MODES" = some (some (.int 3 t_MAX_MODES)))
    (y_MAX_PARAMETERS : PySem.W.nsIn K mainGlobals "MAX_PARAMETERS" = some (some (.int 3 t_MAX_PARAMETERS)))
    (y_MAX_DEPTH : PySem.W.nsIn K mainGlobals "MAX_DEPTH" = some (some (.int 6 t_MAX_DEPTH)))
    (y_MAX_TERMS : PySem.W.nsIn K mainGlobals "MAX_TERMS" = some (some (.int 40 t_MAX_TERMS)))
    (y_MAX_PROCEDURES : PySem.W.nsIn K mainGlobals "MAX_PROCEDURES" = some (some (.int 8 t_MAX_PROCEDURES)))
    (y_MAX_MODES_WITH_WRAPS : PySem.W.nsIn K mainGlobals "MAX_MODES_WITH_WRAPS" = some (some (.int 2 t_MAX_MODES_WITH_WRAPS)))
    (y_KINDS : PySem.W.nsIn K mainGlobals "KINDS" = some (some (.ref aK)))
    (x_KINDS : K.lookup aK = some ⟨.type "tuple", d_KINDS, .seq #[.str "block" t_KINDS0, .str "wrap" t_KINDS1] n_KINDS, z_KINDS⟩)
    (y_TERM_TAGS : PySem.W.nsIn K mainGlobals "TERM_TAGS" = some (some (.ref aT)))
    (x_TERM_TAGS : K.lookup aT = some ⟨.type "tuple", d_TERM_TAGS, .seq #[.str "do" t_TERM_TAGS0, .str "seq" t_TERM_TAGS1, .str "or" t_TERM_TAGS2, .str "run" t_TERM_TAGS3, .str "call" t_TERM_TAGS4, .str "wrap" t_TERM_TAGS5] n_TERM_TAGS, z_TERM_TAGS⟩)
    (y_WRAP_TAGS : PySem.W.nsIn K mainGlobals "WRAP_TAGS" = some (some (.ref aW)))
    (x_WRAP_TAGS : K.lookup aW = some ⟨.type "tuple", d_WRAP_TAGS, .seq #[.str "own" t_WRAP_TAGS0, .str "with" t_WRAP_TAGS1] n_WRAP_TAGS, z_WRAP_TAGS⟩)
    (aC : PySem.W.nsIn K mainGlobals "Procedure" = some (some (.ref C)))
    (qpgC : PySem.W.plainGet K C Str.empty = true)
    (qhdC : PySem.W.hasDictIn K C = true)
    (qpoC : PySem.W.plainOver K C = true)
    (qsaC : PySem.W.findIn K (.ref C) "__setattr__" = some (some (.builtin "object.__setattr__")))
    (qmkC : PySem.W.makesIn K C = true)
    (qkcC : PySem.W.keepIn K (.ref C) = true)
    (nC_named : PySem.W.findIn K (.ref C) "_named" = some none)
    (nC_parameters : PySem.W.findIn K (.ref C) "_parameters" = some none)
    (nC_body : PySem.W.findIn K (.ref C) "_body" = some none)
    (nC_parts : PySem.W.findIn K (.ref C) "_parts" = some none)
    (nC_kinds : PySem.W.findIn K (.ref C) "_kinds" = some none)
    (nC_words : PySem.W.findIn K (.ref C) "_words" = some none)
    (nC_uses : PySem.W.findIn K (.ref C) "_uses" = some none)
    (qhaC : PySem.W.findIn K (.ref C) "__class__" = some (some (.builtin "object.__class__")))
    (qhmC : PySem.W.mroIn K C (.type "object") = some true)
    (aCP : PySem.W.nsIn K mainGlobals "Program" = some (some (.ref CP)))
    (qpgCP : PySem.W.plainGet K CP Str.empty = true)
    (qhdCP : PySem.W.hasDictIn K CP = true)
    (qpoCP : PySem.W.plainOver K CP = true)
    (qsaCP : PySem.W.findIn K (.ref CP) "__setattr__" = some (some (.builtin "object.__setattr__")))
    (qmkCP : PySem.W.makesIn K CP = true)
    (qkcCP : PySem.W.keepIn K (.ref CP) = true)
    (nCP_modes : PySem.W.findIn K (.ref CP) "_modes" = some none)
    (nCP_procedures : PySem.W.findIn K (.ref CP) "_procedures" = some none)
    (nCP_by_name : PySem.W.findIn K (.ref CP) "_by_name" = some none)
    (nCP_names : PySem.W.findIn K (.ref CP) "_names" = some none)
    (nCP_words : PySem.W.findIn K (.ref CP) "_words" = some none)
    (nCP_has_wraps : PySem.W.findIn K (.ref CP) "_has_wraps" = some none)
    (qhaCP : PySem.W.findIn K (.ref CP) "__class__" = some (some (.builtin "object.__class__")))
    (qhmCP : PySem.W.mroIn K CP (.type "object") = some true)
    (qhn : PySem.W.specialIn K (.builtin "object.__class__") "__get__" = some (some (.builtin "getset_descriptor.__get__")))
    (qht : PySem.W.takesIn K (.builtin "object.__class__") = some true)
    (qis : PySem.W.isClsIn K C = true)
    (qty : PySem.W.typeIn K (.ref C) = some (.type "type"))
    (u_NoneType : PySem.W.subIn K (.type "NoneType") (.ref C) = some false)
    (u_bool : PySem.W.subIn K (.type "bool") (.ref C) = some false)
    (u_int : PySem.W.subIn K (.type "int") (.ref C) = some false)
    (u_str : PySem.W.subIn K (.type "str") (.ref C) = some false)
    (u_tuple : PySem.W.subIn K (.type "tuple") (.ref C) = some false)
    (u_list : PySem.W.subIn K (.type "list") (.ref C) = some false)
    (u_dict : PySem.W.subIn K (.type "dict") (.ref C) = some false)
    (v_NoneType : PySem.W.notFirst K C (.type "NoneType") = true)
    (v_bool : PySem.W.notFirst K C (.type "bool") = true)
    (v_int : PySem.W.notFirst K C (.type "int") = true)
    (v_str : PySem.W.notFirst K C (.type "str") = true)
    (v_tuple : PySem.W.notFirst K C (.type "tuple") = true)
    (v_list : PySem.W.notFirst K C (.type "list") = true)
    (v_dict : PySem.W.notFirst K C (.type "dict") = true)
    (isP : PySem.W.isClsIn K CP = true)
    (tyP : PySem.W.typeIn K (.ref CP) = some (.type "type"))
    (up_NoneType : PySem.W.subIn K (.type "NoneType") (.ref CP) = some false)
    (up_bool : PySem.W.subIn K (.type "bool") (.ref CP) = some false)
    (up_int : PySem.W.subIn K (.type "int") (.ref CP) = some false)
    (up_str : PySem.W.subIn K (.type "str") (.ref CP) = some false)
    (up_tuple : PySem.W.subIn K (.type "tuple") (.ref CP) = some false)
    (up_list : PySem.W.subIn K (.type "list") (.ref CP) = some false)
    (up_dict : PySem.W.subIn K (.type "dict") (.ref CP) = some false)
    (vp_NoneType : PySem.W.notFirst K CP (.type "NoneType") = true)
    (vp_bool : PySem.W.notFirst K CP (.type "bool") = true)
    (vp_int : PySem.W.notFirst K CP (.type "int") = true)
    (vp_str : PySem.W.notFirst K CP (.type "str") = true)
    (vp_tuple : PySem.W.notFirst K CP (.type "tuple") = true)
    (vp_list : PySem.W.notFirst K CP (.type "list") = true)
    (vp_dict : PySem.W.notFirst K CP (.type "dict") = true)
    (qne : PySem.W.findIn K (.ref C) "__ne__" = some (some (.builtin "object.__ne__")))
    (qps : PySem.W.subIn K (.ref CP) (.type "str") = some false)
    (qpn : PySem.W.findIn K (.ref CP) "__ne__" = some (some (.builtin "object.__ne__")))
    (qof0 : PySem.W.findIn K (.ref C) "of" = some none)
    (qof1 : PySem.W.findIn K (.ref CP) "of" = some (some (.ref pOf)))
    (qrd : PySem.W.readsIn K CP (.type "type") = true)
    (qga : PySem.W.specialIn K (.ref CP) "__getattribute__" = some (some (.builtin "type.__getattribute__")))
    (aI : PySem.W.nsIn K mainGlobals "InvalidProgram" = some (some (.ref CI)))
    (kI : PySem.W.keepIn K (.ref CI) = true)
    (xI : PySem.W.excIn K CI [.type "ValueError", .type "Exception", .type "BaseException", .type "object"] "ValueError.__new__" = true)
    (bI : PySem.W.subIn K (.ref CI) (.type "BaseException") = some true)
    (tI : PySem.W.typeIn K (.ref CI) = some (.type "type"))
    (iI : PySem.W.isClsIn K CI = true)
    (sI : PySem.W.subIn K (.ref CI) (.ref CI) = some true)
    (aO : PySem.W.nsIn K mainGlobals "InvalidOperation" = some (some (.ref CO)))
    (kO : PySem.W.keepIn K (.ref CO) = true)
    (xO : PySem.W.excIn K CO [.type "ValueError", .type "Exception", .type "BaseException", .type "object"] "ValueError.__new__" = true)
    (bO : PySem.W.subIn K (.ref CO) (.type "BaseException") = some true)
    (tO : PySem.W.typeIn K (.ref CO) = some (.type "type"))
    (iO : PySem.W.isClsIn K CO = true)
    (sO : PySem.W.subIn K (.ref CO) (.ref CO) = some true)
    (sOI : PySem.W.subIn K (.ref CO) (.ref CI) = some false)
    (dR : PySem.W.codeHdIn K cR PR = true)
    (nR : K.lookup PR = none)
    (hR : h.get? PR = some { cls := .none, data := .fields #[] })
    (dL : PySem.W.codeHdIn K cL PL = true)
    (nL : K.lookup PL = none)
    (hL : h.get? PL = some { cls := .none, data := .fields #[] })
    (nePP : PR ≠ PL)
    : LawAtS l w K CX0 18 63 "_law_script" mg fa h := by
  have e := hfa.symm.trans (PySem.W.mg_of X G a36)
  cases e
  have ne : CP ≠ C := fun z => by
    rw [z, qof0] at qof1
    cases qof1
  have T : Nm K mg := ⟨PySem.W.mg_none_of X G z_isinstance, PySem.W.mg_none_of X G z_str, PySem.W.mg_none_of X G z_tuple, PySem.W.mg_none_of X G z_list, PySem.W.mg_none_of X G z_bool, PySem.W.mg_none_of X G z_len, PySem.W.mg_none_of X G z_all, PySem.W.mg_none_of X G z_int, PySem.W.mg_none_of X G z_abs, PySem.W.mg_none_of X G z_max, PySem.W.mg_none_of X G z_min, PySem.W.mg_none_of X G z_range, PySem.W.mg_none_of X G z_zip, PySem.W.mg_none_of X G z_sorted, PySem.W.mg_none_of X G z_set, ⟨_, PySem.W.mg_of X G y_MAX_LETTERS⟩, ⟨_, PySem.W.mg_of X G y_MAX_MODES⟩, ⟨_, PySem.W.mg_of X G y_MAX_PARAMETERS⟩, ⟨_, PySem.W.mg_of X G y_MAX_DEPTH⟩, ⟨_, PySem.W.mg_of X G y_MAX_TERMS⟩, ⟨aK, PySem.W.mg_of X G y_KINDS, fun H => .inr ⟨_, _, _, x_KINDS, rfl, rfl, (show 2 ≤ sizeLine by decide), .cons ⟨_, rfl⟩ (.cons ⟨_, rfl⟩ (.nil))⟩⟩, ⟨aT, PySem.W.mg_of X G y_TERM_TAGS, fun H => .inr ⟨_, _, _, x_TERM_TAGS, rfl, rfl, (show 6 ≤ sizeLine by decide), .cons ⟨_, rfl⟩ (.cons ⟨_, rfl⟩ (.cons ⟨_, rfl⟩ (.cons ⟨_, rfl⟩ (.cons ⟨_, rfl⟩ (.cons ⟨_, rfl⟩ (.nil))))))⟩⟩, ⟨aW, PySem.W.mg_of X G y_WRAP_TAGS, fun H => .inr ⟨_, _, _, x_WRAP_TAGS, rfl, rfl, (show 2 ≤ sizeLine by decide), .cons ⟨_, rfl⟩ (.cons ⟨_, rfl⟩ (.nil))⟩⟩⟩
  have TP : NmP mg := ⟨PySem.W.mg_none_of X G z_any, ⟨_, PySem.W.mg_of X G y_MAX_PROCEDURES⟩, ⟨_, PySem.W.mg_of X G y_MAX_MODES_WITH_WRAPS⟩⟩
  have PC : PrC K mg C := ⟨⟨qpgC, qhdC, qpoC, qsaC⟩, PySem.W.mg_of X G aC, nC_named, nC_parameters, nC_body, nC_parts, nC_kinds, nC_words, nC_uses, qhaC, qhn, qht, qhmC, kit_self⟩
  have PP : PgC K mg CP := ⟨⟨qpgCP, qhdCP, qpoCP, qsaCP⟩, PySem.W.mg_of X G aCP, nCP_modes, nCP_procedures, nCP_by_name, nCP_names, nCP_words, nCP_has_wraps, qhaCP, qhn, qht, qhmCP, kit_self⟩
  have NP : NoP K C := ⟨kit_own qis qty u_NoneType, kit_own qis qty u_bool, kit_own qis qty u_int, kit_own qis qty u_str, kit_own qis qty u_tuple, kit_own qis qty u_list, kit_own qis qty u_dict, v_NoneType, v_bool, v_int, v_str, v_tuple, v_list, v_dict⟩
  have F1 := fun_mk (st := sis_integer_in) l1 c1 k1
  have b1 := F1.binds (ps := ["value", "least", "greatest"]) fun _ _ _ _ _ _ us hl => match us, hl with | [_, _, _], _ => rfl
  have F2 := fun_mk (st := sis_name) l2 c2 k2
  have b2 := F2.binds (ps := ["value"]) fun _ _ _ _ _ _ us hl => match us, hl with | [_], _ => rfl
  have F3 := fun_mk (st := skind_of) l3 c3 k3
  have b3 := F3.binds (ps := ["value"]) fun _ _ _ _ _ _ us hl => match us, hl with | [_], _ => rfl
  have F4 := fun_mk (st := skinds_of) l4 c4 k4
  have b4 := F4.binds (ps := ["arguments"]) fun _ _ _ _ _ _ us hl => match us, hl with | [_], _ => rfl
  have F5 := fun_mk (st := sparts_in) l5 c5 k5
  have b5 := F5.binds (ps := ["part"]) fun _ _ _ _ _ _ us hl => match us, hl with | [_], _ => rfl
  have F6 := fun_mk (st := skinds_in) l6 c6 k6
  have b6 := F6.binds (ps := ["part"]) fun _ _ _ _ _ _ us hl => match us, hl with | [_], _ => rfl
  have F7 := fun_mk (st := sall_parts) l7 c7 k7
  have b7 := F7.binds (ps := ["part"]) fun _ _ _ _ _ _ us hl => match us, hl with | [_], _ => rfl
  have F8 := fun_mk (st := sis_deed_table) l8 c8 k8
  have b8 := F8.binds (ps := ["value"]) fun _ _ _ _ _ _ us hl => match us, hl with | [_], _ => rfl
  have F9 := fun_mk (st := shas_form) l9 c9 k9
  have b9 := F9.binds (ps := ["part", "parameters"]) fun _ _ _ _ _ _ us hl => match us, hl with | [_, _], _ => rfl
  have F10 := fun_mk (st := sis_parameter) l10 c10 k10
  have b10 := F10.binds (ps := ["value"]) fun _ _ _ _ _ _ us hl => match us, hl with | [_], _ => rfl
  have F11 := fun_mk (st := sare_parameters) l11 c11 k11
  have b11 := F11.binds (ps := ["value"]) fun _ _ _ _ _ _ us hl => match us, hl with | [_], _ => rfl
  have F12 := fun_mk (st := sis_term) l12 c12 k12
  have b12 := F12.binds (ps := ["value", "parameters"]) fun _ _ _ _ _ _ us hl => match us, hl with | [_, _], _ => rfl
  have F13 := fun_mk (st := skinds_by_name) l13 c13 k13
  have b13 := F13.binds (ps := ["procedures"]) fun _ _ _ _ _ _ us hl => match us, hl with | [_], _ => rfl
  have F14 := fun_mk (st := shave_wraps) l14 c14 k14
  have b14 := F14.binds (ps := ["procedures"]) fun _ _ _ _ _ _ us hl => match us, hl with | [_], _ => rfl
  have F15 := fun_mk (st := sare_procedures) l15 c15 k15
  have b15 := F15.binds (ps := ["values"]) fun _ _ _ _ _ _ us hl => match us, hl with | [_], _ => rfl
  have F16 := fun_mk (st := sfits) l16 c16 k16
  have b16 := F16.binds (ps := ["part", "modes", "kinds"]) fun _ _ _ _ _ _ us hl => match us, hl with | [_, _, _], _ => rfl
  have F17 := fun_mk (st := scan_make_program) l17 c17 k17
  have b17 := F17.binds (ps := ["modes", "procedures"]) fun _ _ _ _ _ _ us hl => match us, hl with | [_, _], _ => rfl
  have F18 := fun_mk (st := s_law_numbers) l18 c18 k18
  have b18 := F18.binds (ps := ["_law_script", "_law_at"]) fun _ _ _ _ _ _ us hl => match us, hl with | [_, _], _ => rfl
  have F19 := fun_mk (st := s_law_cast) l19 c19 k19
  have b19 := F19.binds (ps := ["_law_die", "_law_total"]) fun _ _ _ _ _ _ us hl => match us, hl with | [_, _], _ => rfl
  have F20 := fun_mk (st := s_law_pick) l20 c20 k20
  have b20 := F20.binds (ps := ["_law_die", "_law_items"]) fun _ _ _ _ _ _ us hl => match us, hl with | [_, _], _ => rfl
  have F21 := fun_mk (st := s_law_shuffle) l21 c21 k21
  have b21 := F21.binds (ps := ["_law_die", "_law_items"]) fun _ _ _ _ _ _ us hl => match us, hl with | [_, _], _ => rfl
  have F22 := fun_mk (st := s_law_is_number) l22 c22 k22
  have b22 := F22.binds (ps := ["_law_value", "_law_low", "_law_high"]) fun _ _ _ _ _ _ us hl => match us, hl with | [_, _, _], _ => rfl
  have F23 := fun_mk (st := s_law_own_names) l23 c23 k23
  have b23 := F23.binds (ps := ["_law_own", "_law_kind"]) fun _ _ _ _ _ _ us hl => match us, hl with | [_, _], _ => rfl
  have F24 := fun_mk (st := s_law_all_in) l24 c24 k24
  have b24 := F24.binds (ps := ["_law_piece"]) fun _ _ _ _ _ _ us hl => match us, hl with | [_], _ => rfl
  have F25 := fun_mk (st := s_law_any_deed) l25 c25 k25
  have b25 := F25.binds (ps := ["_law_die", "_law_modes"]) fun _ _ _ _ _ _ us hl => match us, hl with | [_, _], _ => rfl
  have F26 := fun_mk (st := s_law_any_given) l26 c26 k26
  have b26 := F26.binds (ps := ["_law_die", "_law_modes", "_law_table", "_law_own", "_law_kinds", "_law_deep"]) fun _ _ _ _ _ _ us hl => match us, hl with | [_, _, _, _, _, _], _ => rfl
  have F27 := fun_mk (st := s_law_any_wrap) l27 c27 k27
  have b27 := F27.binds (ps := ["_law_die", "_law_modes", "_law_table", "_law_own", "_law_deep"]) fun _ _ _ _ _ _ us hl => match us, hl with | [_, _, _, _, _], _ => rfl
  have F28 := fun_mk (st := s_law_any_term) l28 c28 k28
  have b28 := F28.binds (ps := ["_law_die", "_law_modes", "_law_table", "_law_own", "_law_deep"]) fun _ _ _ _ _ _ us hl => match us, hl with | [_, _, _, _, _], _ => rfl
  have F29 := fun_mk (st := s_law_any_body) l29 c29 k29
  have b29 := F29.binds (ps := ["_law_die", "_law_modes", "_law_table", "_law_own"]) fun _ _ _ _ _ _ us hl => match us, hl with | [_, _, _, _], _ => rfl
  have F30 := fun_mk (st := s_law_any_plain) l30 c30 k30
  have b30 := F30.binds (ps := ["_law_die", "_law_wraps"]) fun _ _ _ _ _ _ us hl => match us, hl with | [_, _], _ => rfl
  have F31 := fun_mk (st := s_law_made) l31 c31 k31
  have b31 := F31.binds (ps := ["_law_plain"]) fun _ _ _ _ _ _ us hl => match us, hl with | [_], _ => rfl
  have F32 := fun_mk (st := s_law_is_program) l32 c32 k32
  have b32 := F32.binds (ps := ["_law_modes", "_law_rows"]) fun _ _ _ _ _ _ us hl => match us, hl with | [_, _], _ => rfl
  have F33 := fun_mk (st := s_law_met) l33 c33 k33
  have b33 := F33.binds (ps := ["_law_call"]) fun _ _ _ _ _ _ us hl => match us, hl with | [_], _ => rfl
  have F34 : FunC K "_law_changed" "_law_changed" s_law_changed _ _ cR := ⟨⟨_, _, _, _, _, _, _, _, rfl, l34, c34⟩⟩
  have b34 : Binds K (PySem.W.fnOf "_law_changed" "_law_changed" (defArgs s_law_changed) (defBody s_law_changed) (defScope s_law_changed) .none kV34 dc34 pm34 an34 (.ref cR) ct34) ["_law_die", "_law_plain", "_law_program"] [] := .all fun us hl => match us, hl with | [_, _, _], _ => rfl
  have F35 := fun_mk (st := s_law_right) l35 c35 k35
  have b35 := F35.binds (ps := ["_law_die"]) fun _ _ _ _ _ _ us hl => match us, hl with | [_], _ => rfl
  have F36 : FunC K "law" "law" slaw _ _ cL := ⟨⟨_, _, _, _, _, _, _, _, rfl, l36, c36⟩⟩
  have b36 : Binds K (PySem.W.fnOf "law" "law" (defArgs slaw) (defBody slaw) (defScope slaw) .none kV36 dc36 pm36 an36 (.ref cL) ct36) ["_law_script"] [] := .all fun us hl => match us, hl with | [_], _ => rfl
  have F37 := fun_mk (st := sProcedure__init__) l37 c37 k37
  have b37 := F37.binds (ps := ["self", "name", "parameters", "body"]) fun _ _ _ _ _ _ us hl => match us, hl with | [_, _, _, _], _ => rfl
  have F38 := fun_mk (st := sProcedurenamed) l38 c38 k38
  have b38 := F38.binds (ps := ["self"]) fun _ _ _ _ _ _ us hl => match us, hl with | [_], _ => rfl
  have F39 := fun_mk (st := sProcedureparameters) l39 c39 k39
  have b39 := F39.binds (ps := ["self"]) fun _ _ _ _ _ _ us hl => match us, hl with | [_], _ => rfl
  have F40 := fun_mk (st := sProcedurebody) l40 c40 k40
  have b40 := F40.binds (ps := ["self"]) fun _ _ _ _ _ _ us hl => match us, hl with | [_], _ => rfl
  have F41 := fun_mk (st := sProcedurekinds) l41 c41 k41
  have b41 := F41.binds (ps := ["self"]) fun _ _ _ _ _ _ us hl => match us, hl with | [_], _ => rfl
  have F42 := fun_mk (st := sProcedurewords) l42 c42 k42
  have b42 := F42.binds (ps := ["self"]) fun _ _ _ _ _ _ us hl => match us, hl with | [_], _ => rfl
  have F43 := fun_mk (st := sProcedure__len__) l43 c43 k43
  have b43 := F43.binds (ps := ["self"]) fun _ _ _ _ _ _ us hl => match us, hl with | [_], _ => rfl
  have F44 := fun_mk (st := sProcedure__eq__) l44 c44 k44
  have b44 := F44.binds (ps := ["self", "other"]) fun _ _ _ _ _ _ us hl => match us, hl with | [_, _], _ => rfl
  have F45 := fun_mk (st := sProcedure__str__) l45 c45 k45
  have b45 := F45.binds (ps := ["self"]) fun _ _ _ _ _ _ us hl => match us, hl with | [_], _ => rfl
  have F46 := fun_mk (st := sProgram__init__) l46 c46 k46
  have F47 := fun_mk (st := sProgramof) l47 c47 k47
  have b47 := F47.binds (ps := ["cls", "modes", "procedures"]) fun _ _ _ _ _ _ us hl => match us, hl with | [_, _, _], _ => rfl
  have F48 := fun_mk (st := sProgramwith_procedure) l48 c48 k48
  have b48 := F48.binds (ps := ["self", "procedure"]) fun _ _ _ _ _ _ us hl => match us, hl with | [_, _], _ => rfl
  have F49 := fun_mk (st := sProgramwithout) l49 c49 k49
  have b49 := F49.binds (ps := ["self", "name"]) fun _ _ _ _ _ _ us hl => match us, hl with | [_, _], _ => rfl
  have F50 := fun_mk (st := sProgram__eq__) l50 c50 k50
  have b50 := F50.binds (ps := ["self", "other"]) fun _ _ _ _ _ _ us hl => match us, hl with | [_, _], _ => rfl
  let TS : List (Addr × Str) := [(PR, lamQ "_law_changed"), (PL, lamQ "law")]
  refine ⟨PySem.W.fnOf "law" "law" (defArgs slaw) (defBody slaw) (defScope slaw) .none kV36 dc36 pm36 an36 (.ref cL) ct36, [(cR, PR), (cL, PL)], spLawT K TS, ?_, ?_, ?_, fun s v => .of_eq rfl, fun H a ns hl _ hH hS => ⟨a, ns, rfl, hS, hl, ?_, fun _ => rfl⟩, fun base _ _ TBs => ?_⟩
  · intro p hp
    rcases List.mem_cons.mp hp with rfl | hp
    · exact hR
    · rw [List.mem_singleton.mp hp]
      exact hL
  · intro p hp
    rcases List.mem_cons.mp hp with rfl | hp
    · exact nR
    · rw [List.mem_singleton.mp hp]
      exact nL
  · intro p hp
    rcases List.mem_cons.mp hp with rfl | hp
    · exact PySem.W.codeHd_of_K X dR
    · rw [List.mem_singleton.mp hp]
      exact PySem.W.codeHd_of_K X dL
  · intro p hp
    rcases List.mem_cons.mp hp with rfl | hp
    · exact TabS.nil (hH (cR, PR) List.mem_cons_self)
    · rw [List.mem_singleton.mp hp]
      exact TabS.nil (hH (cL, PL) (List.mem_cons_of_mem _ List.mem_cons_self))
  have TBR := TBs (cR, PR) List.mem_cons_self
  have TBL := TBs (cL, PL) (List.mem_cons_of_mem _ List.mem_cons_self)
  have huR : ∀ p ∈ TS, p.1 = PR → p.2 = lamQ "_law_changed" := fun p hp e => by
    rcases List.mem_cons.mp hp with rfl | hp
    · rfl
    · rw [List.mem_singleton.mp hp] at e
      exact absurd e.symm nePP
  have huL : ∀ p ∈ TS, p.1 = PL → p.2 = lamQ "law" := fun p hp e => by
    rcases List.mem_cons.mp hp with rfl | hp
    · exact absurd e nePP
    · rw [List.mem_singleton.mp hp]
  have BD : Bad K mg CI := ⟨PySem.W.mg_of X G aI, kI, xI, bI, tI, exm_is bI iI tI sI⟩
  have NPP : NoP K CP := ⟨kit_own isP tyP up_NoneType, kit_own isP tyP up_bool, kit_own isP tyP up_int, kit_own isP tyP up_str, kit_own isP tyP up_tuple, kit_own isP tyP up_list, kit_own isP tyP up_dict, vp_NoneType, vp_bool, vp_int, vp_str, vp_tuple, vp_list, vp_dict⟩
  have BDO : BadO K mg CI CO := ⟨PySem.W.mg_of X G aO, kO, xO, bO, tO, exm_is bO iO tO sO, exm_is bI iI tI sOI⟩
  have MG : MetG2 K mg := ⟨⟨_, _, _, _, _, _, _, _, _, _, PySem.W.mg_of X G a33, k33, l33, c33, b33⟩⟩
  have C_kind_of : Cal l.prog w K mg base 1 "kind_of" ["value"] (spKind K) := ⟨_, _, ok_kind_of F3 T, PySem.W.mg_of X G a3, k3, b3⟩
  have C_parts_in : Cal l.prog w K mg base 1 "parts_in" ["part"] (spParts K) := ⟨_, _, ok_parts_in F5 T, PySem.W.mg_of X G a5, k5, b5⟩
  have C_kinds_in : Cal l.prog w K mg base 3 "kinds_in" ["part"] (spKinds K) := ⟨_, _, ok_kinds_in F6 T C_parts_in, PySem.W.mg_of X G a6, k6, b6⟩
  have C_all_parts := no_all_parts (P := l.prog) (w := w) (base := base) F7 T C_parts_in (PySem.W.mg_of X G a7) k7 b7 7
  have C_is_integer_in : Cal l.prog w K mg base 2 "is_integer_in" ["value", "least", "greatest"] (spIntIn) := ⟨_, _, ok_is_integer_in F1 T, PySem.W.mg_of X G a1, k1, b1⟩
  have C_is_name : Cal l.prog w K mg base 1 "is_name" ["value"] (spName) := ⟨_, _, ok_is_name F2 T, PySem.W.mg_of X G a2, k2, b2⟩
  have C_is_deed_table : Cal l.prog w K mg base 3 "is_deed_table" ["value"] (spTable K) := ⟨_, _, ok_is_deed_table F8 T C_is_integer_in, PySem.W.mg_of X G a8, k8, b8⟩
  have C_has_form : Cal l.prog w K mg base 4 "has_form" ["part", "parameters"] (spForm K) := ⟨_, _, ok_has_form F9 T C_is_name C_is_deed_table, PySem.W.mg_of X G a9, k9, b9⟩
  have C_is_parameter : Cal l.prog w K mg base 2 "is_parameter" ["value"] (spPar K) := ⟨_, _, ok_is_parameter F10 T C_is_name, PySem.W.mg_of X G a10, k10, b10⟩
  have C_are_parameters : Cal l.prog w K mg base 3 "are_parameters" ["value"] (spPars K) := ⟨_, _, ok_are_parameters F11 T C_is_parameter, PySem.W.mg_of X G a11, k11, b11⟩
  have C_is_term : Cal l.prog w K mg base 5 "is_term" ["value", "parameters"] (spTerm K) := ⟨_, _, ok_is_term F12 T C_are_parameters C_kind_of C_has_form C_parts_in C_kinds_in, PySem.W.mg_of X G a12, k12, b12⟩
  have PG : PrG l.prog w K mg base C := ⟨PC, NP, ⟨_, _, ok_Procedure__init__ F37 T PC C_is_name C_is_term C_all_parts, b37, ⟨qmkC, a37, i37, qkcC⟩⟩, ⟨_, _, ok_Procedure__len__ F43 T PC, b43, a43, i43⟩, ⟨_, _, ok_Procedure__eq__ F44 T PC, b44, a44, i44⟩, qne, ⟨_, _, ok_Procedure__str__ F45 T PC, b45, a45, i45⟩⟩
  have Rnamed : PrP l.prog w K mg base C "named" "_named" := ⟨p_Procedurenamed, _, _, ⟨pa38, pg38, pt38, ⟨_, pr38⟩⟩, ok_Procedurenamed F38 T PC, b38⟩
  have Rparameters : PrP l.prog w K mg base C "parameters" "_parameters" := ⟨p_Procedureparameters, _, _, ⟨pa39, pg39, pt39, ⟨_, pr39⟩⟩, ok_Procedureparameters F39 T PC, b39⟩
  have Rbody : PrP l.prog w K mg base C "body" "_body" := ⟨p_Procedurebody, _, _, ⟨pa40, pg40, pt40, ⟨_, pr40⟩⟩, ok_Procedurebody F40 T PC, b40⟩
  have Rkinds : PrP l.prog w K mg base C "kinds" "_kinds" := ⟨p_Procedurekinds, _, _, ⟨pa41, pg41, pt41, ⟨_, pr41⟩⟩, ok_Procedurekinds F41 T PC, b41⟩
  have Rwords : PrP l.prog w K mg base C "words" "_words" := ⟨p_Procedurewords, _, _, ⟨pa42, pg42, pt42, ⟨_, pr42⟩⟩, ok_Procedurewords F42 T PC, b42⟩
  have C_kinds_of : Cal l.prog w K mg base 2 "kinds_of" ["arguments"] (spKindsOf K) := ⟨_, _, ok_kinds_of F4 T C_kind_of, PySem.W.mg_of X G a4, k4, b4⟩
  have C_is_integerG : Cal l.prog w K mg base 2 "is_integer_in" ["value", "least", "greatest"] spIntInG := ⟨_, _, okG_is_integer_in F1 T, PySem.W.mg_of X G a1, k1, b1⟩
  have C_fits : Cal l.prog w K mg base 3 "fits" ["part", "modes", "kinds"] (spFitsG K) := ⟨_, _, ok_fits F16 T C_kinds_of, PySem.W.mg_of X G a16, k16, b16⟩
  have C_have_wraps : Cal l.prog w K mg base 3 "have_wraps" ["procedures"] (spHave K C) := ⟨_, _, ok_have_wraps F14 T TP PG Rkinds, PySem.W.mg_of X G a14, k14, b14⟩
  have C_kinds_by_name : Cal l.prog w K mg base 3 "kinds_by_name" ["procedures"] (spByNameG K C) := ⟨_, _, ok_kinds_by_name F13 T TP PG Rkinds Rnamed, PySem.W.mg_of X G a13, k13, b13⟩
  have C_are_procedures : Cal l.prog w K mg base 4 "are_procedures" ["values"] (spArePsG K C) := ⟨_, _, ok_are_procedures F15 T TP PG NP C_kinds_by_name, PySem.W.mg_of X G a15, k15, b15⟩
  have C_can_make_program : Cal l.prog w K mg base 9 "can_make_program" ["modes", "procedures"] (spCanG K C) := ⟨_, _, ok_can_make_program F17 T TP PG Rbody C_is_integerG C_are_procedures C_have_wraps C_kinds_by_name C_all_parts C_fits, PySem.W.mg_of X G a17, k17, b17⟩
  have FI : FnR l.prog w K mg base (L2.CX l.prog w) 10 f46 (spPgInitG K CP C CI) := ok_Program__init__G F46 T BD ne PP PG Rnamed Rwords C_can_make_program C_have_wraps
  have MI : Mk K CP f46 := ⟨qmkCP, a46, i46, qkcCP⟩
  have FO : FnR l.prog w K mg base (L2.CX l.prog w) 12 f47 (spPgOfG K CP C CI) := ((ok_Programof_G F47 T BD PP MI FI).raw b47 .nil).imp fun vs H Q E h => by rw [List.append_nil]; exact h
  have GG : PgM l.prog w K mg base CP C CI := ⟨PP, ⟨_, FI, MI⟩, ⟨_, _, _, ⟨qrd, qga⟩, ⟨qof, ⟨_, qor⟩, qoi⟩, FO⟩, ⟨_, _, ok_Program__eq__ F50 T PP PG, b50, a50, i50⟩, NPP⟩
  have GW : PgW l.prog w K mg base CP C CI CO := ⟨GG, ⟨_, _, ok_Programwith_procedure F48 T BD PP PG Rnamed MI FI, b48, ⟨a48, i48, k48⟩⟩, ⟨_, _, ok_Programwithout F49 T BDO PP PG Rnamed C_can_make_program MI FI, b49, ⟨a49, i49, k49⟩⟩, qpn⟩
  have C__law_numbers : Cal l.prog w K mg base 1 "_law_numbers" ["_law_script", "_law_at"] (spNumbers K) := ⟨_, _, ok_l_numbers F18 T, PySem.W.mg_of X G a18, k18, b18⟩
  have C__law_cast : Cal l.prog w K mg base 1 "_law_cast" ["_law_die", "_law_total"] (spCast) := ⟨_, _, ok_l_cast F19 T, PySem.W.mg_of X G a19, k19, b19⟩
  have C__law_pick : Cal l.prog w K mg base 2 "_law_pick" ["_law_die", "_law_items"] (spPick K) := ⟨_, _, ok_l_pick F20 T C__law_cast, PySem.W.mg_of X G a20, k20, b20⟩
  have C__law_shuffle : Cal l.prog w K mg base 2 "_law_shuffle" ["_law_die", "_law_items"] (spShuffle K) := ⟨_, _, ok_l_shuffle F21 T C__law_cast, PySem.W.mg_of X G a21, k21, b21⟩
  have C__law_own_names : Cal l.prog w K mg base 1 "_law_own_names" ["_law_own", "_law_kind"] (spOwn K) := ⟨_, _, ok_l_own_names F23 T, PySem.W.mg_of X G a23, k23, b23⟩
  have C__law_all_in := no_all_in (P := l.prog) (w := w) (base := base) F24 T (PySem.W.mg_of X G a24) k24 b24 4
  have C_all_in6 := no_all_in (P := l.prog) (w := w) (base := base) F24 T (PySem.W.mg_of X G a24) k24 b24 6
  have C__law_any_deed : Cal l.prog w K mg base 3 "_law_any_deed" ["_law_die", "_law_modes"] (spDeed K) := ⟨_, _, ok_l_any_deed F25 T C__law_pick, PySem.W.mg_of X G a25, k25, b25⟩
  have TT := no_terms (P := l.prog) (w := w) (base := base) F28 F27 F26 T (PySem.W.mg_of X G a28) (PySem.W.mg_of X G a27) (PySem.W.mg_of X G a26) k28 k27 k26 b28 b27 b26 C__law_own_names C__law_cast C__law_pick C__law_any_deed
  have TU : Cal l.prog w K mg base 12 "_law_any_term" ["_law_die", "_law_modes", "_law_table", "_law_own", "_law_deep"] (fun vs H Q E => ∃ n, (2 ≤ n ∧ n ≤ 4) ∧ spTermD K n vs H Q E) := ⟨_, _, cal_union (x := "") (S := fun n => 2 ≤ n ∧ n ≤ 4) fun n hn => (TT n).1.mono (by omega), PySem.W.mg_of X G a28, k28, b28⟩
  have C__law_any_body : Cal l.prog w K mg base 13 "_law_any_body" ["_law_die", "_law_modes", "_law_table", "_law_own"] (spBody K) := ⟨_, _, ok_l_any_body F29 T TU C__law_cast C__law_all_in C__law_any_deed, PySem.W.mg_of X G a29, k29, b29⟩
  have C__law_any_plain : Cal l.prog w K mg base 14 "_law_any_plain" ["_law_die", "_law_wraps"] (spPlain K) := ⟨_, _, ok_l_any_plain F30 T C__law_cast C__law_pick C__law_shuffle C__law_any_body, PySem.W.mg_of X G a30, k30, b30⟩
  have C__law_made : Cal l.prog w K mg base 13 "_law_made" ["_law_plain"] (spMadeG K CP C) := ⟨_, _, ok_l_made F31 T BD GG PG, PySem.W.mg_of X G a31, k31, b31⟩
  have C__law_is_number : Cal l.prog w K mg base 2 "_law_is_number" ["_law_value", "_law_low", "_law_high"] (spIntInG) := ⟨_, _, ok_l_is_number F22 T, PySem.W.mg_of X G a22, k22, b22⟩
  have C__law_is_program : Cal l.prog w K mg base 8 "_law_is_program" ["_law_modes", "_law_rows"] (spIsProg K) := ⟨_, _, ok_l_is_program F32 T (PySem.W.mg_none_of X G z_dict) C__law_is_number C_all_in6, PySem.W.mg_of X G a32, k32, b32⟩
  have C__law_changed : Cal l.prog w K mg base 16 "_law_changed" ["_law_die", "_law_plain", "_law_program"] (spChanged K CP C TS) := ⟨_, _, ok_l_changed F34 T (PySem.W.mg_none_of X G z_dict) TBR List.mem_cons_self huR MG BD BDO GW PG C__law_cast C__law_pick C__law_is_program C__law_any_body, PySem.W.mg_of X G a34, k34, b34⟩
  have C__law_right : Cal l.prog w K mg base 17 "_law_right" ["_law_die"] (spRightX TS) := ⟨_, _, ok_l_right F35 T GW (kit_no_str qps) C__law_any_plain C__law_made C__law_changed, PySem.W.mg_of X G a35, k35, b35⟩
  exact ok_law F36 T TBL (List.mem_cons_of_mem _ List.mem_cons_self) huL MG BD BDO GW PG C__law_numbers C__law_right
end FS

set_option Elab.async false
set_option linter.all false
set_option maxRecDepth 100000
open PySem PySem.W PyProof.Rows
set_option maxHeartbeats 0 in
theorem PySem.Challenge.cw_blockshanded_k06_whole_changes_of_progra_holds : PySem.Challenge.rw_blockshanded_k06_whole_changes_of_progra.Holds := by
  w_on; o_law; k_head; (case hw => w_witness2)
  k_fill
  refine LamX.walk_ofTs (l := PySem.Challenge.rw_blockshanded_k06_whole_changes_of_progra) (n := 63) (k := 18) (x := "_law_script") (CX := fun _ => L2.CX0) rfl (by decide) rfl ⟨rfl, by decide, by decide⟩ (fun w h Y => km_in_of Y) ?F (fun _ _ _ _ _ h => h)
  case F =>
    intro w mg fa h Y KX G hmg
    have tabs := km_tabs_of Y
    refine' FS.all_mk KX G hmg ?a1 ?l1 ?c1 ?k1 ?a2 ?l2 ?c2 ?k2 ?a3 ?l3 ?c3 ?k3 ?a4 ?l4 ?c4 ?k4 ?a5 ?l5 ?c5 ?k5 ?a6 ?l6 ?c6 ?k6 ?a7 ?l7 ?c7 ?k7 ?a8 ?l8 ?c8 ?k8 ?a9 ?l9 ?c9 ?k9 ?a10 ?l10 ?c10 ?k10 ?a11 ?l11 ?c11 ?k11 ?a12 ?l12 ?c12 ?k12 ?a13 ?l13 ?c13 ?k13 ?a14 ?l14 ?c14 ?k14 ?a15 ?l15 ?c15 ?k15 ?a16 ?l16 ?c16 ?k16 ?a17 ?l17 ?c17 ?k17 ?a18 ?l18 ?c18 ?k18 ?a19 ?l19 ?c19 ?k19 ?a20 ?l20 ?c20 ?k20 ?a21 ?l21 ?c21 ?k21 ?a22 ?l22 ?c22 ?k22 ?a23 ?l23 ?c23 ?k23 ?a24 ?l24 ?c24 ?k24 ?a25 ?l25 ?c25 ?k25 ?a26 ?l26 ?c26 ?k26 ?a27 ?l27 ?c27 ?k27 ?a28 ?l28 ?c28 ?k28 ?a29 ?l29 ?c29 ?k29 ?a30 ?l30 ?c30 ?k30 ?a31 ?l31 ?c31 ?k31 ?a32 ?l32 ?c32 ?k32 ?a33 ?l33 ?c33 ?k33 ?a34 ?l34 ?c34 ?k34 ?a35 ?l35 ?c35 ?k35 ?a36 ?l36 ?c36 ?k36 ?a37 ?i37 ?l37 ?c37 ?k37 ?pa38 ?pg38 ?pt38 ?pr38 ?l38 ?c38 ?k38 ?pa39 ?pg39 ?pt39 ?pr39 ?l39 ?c39 ?k39 ?pa40 ?pg40 ?pt40 ?pr40 ?l40 ?c40 ?k40 ?pa41 ?pg41 ?pt41 ?pr41 ?l41 ?c41 ?k41 ?pa42 ?pg42 ?pt42 ?pr42 ?l42 ?c42 ?k42 ?a43 ?i43 ?l43 ?c43 ?k43 ?a44 ?i44 ?l44 ?c44 ?k44 ?a45 ?i45 ?l45 ?c45 ?k45 ?a46 ?i46 ?l46 ?c46 ?k46 ?qof ?qor ?qoi ?l47 ?c47 ?k47 ?a48 ?i48 ?l48 ?c48 ?k48 ?a49 ?i49 ?l49 ?c49 ?k49 ?a50 ?i50 ?l50 ?c50 ?k50 ?z_isinstance ?z_str ?z_tuple ?z_list ?z_bool ?z_len ?z_all ?z_int ?z_abs ?z_max ?z_min ?z_range ?z_zip ?z_sorted ?z_set ?z_any ?z_dict ?y_MAX_LETTERS ?y_MAX_MODES ?y_MAX_PARAMETERS ?y_MAX_DEPTH ?y_MAX_TERMS ?y_MAX_PROCEDURES ?y_MAX_MODES_WITH_WRAPS ?y_KINDS ?x_KINDS ?y_TERM_TAGS ?x_TERM_TAGS ?y_WRAP_TAGS ?x_WRAP_TAGS ?aC ?qpgC ?qhdC ?qpoC ?qsaC ?qmkC ?qkcC ?nC_named ?nC_parameters ?nC_body ?nC_parts ?nC_kinds ?nC_words ?nC_uses ?qhaC ?qhmC ?aCP ?qpgCP ?qhdCP ?qpoCP ?qsaCP ?qmkCP ?qkcCP ?nCP_modes ?nCP_procedures ?nCP_by_name ?nCP_names ?nCP_words ?nCP_has_wraps ?qhaCP ?qhmCP ?qhn ?qht ?qis ?qty ?u_NoneType ?u_bool ?u_int ?u_str ?u_tuple ?u_list ?u_dict ?v_NoneType ?v_bool ?v_int ?v_str ?v_tuple ?v_list ?v_dict ?isP ?tyP ?up_NoneType ?up_bool ?up_int ?up_str ?up_tuple ?up_list ?up_dict ?vp_NoneType ?vp_bool ?vp_int ?vp_str ?vp_tuple ?vp_list ?vp_dict ?qne ?qps ?qpn ?qof0 ?qof1 ?qrd ?qga ?aI ?kI ?xI ?bI ?tI ?iI ?sI ?aO ?kO ?xO ?bO ?tO ?iO ?sO ?sOI ?dR ?nR ?hR ?dL ?nL ?hL ?nePP
    (case aC => k_is)
    (case aCP => k_is)
    (case aI => k_is)
    (case aO => k_is)
    (case hR => exact tabs _ List.mem_cons_self)
    (case hL => exact tabs _ (List.mem_cons_of_mem _ List.mem_cons_self))
    (case a1 => k_is)
    (case l1 => k_is)
    (case c1 => k_is)
    (case k1 => k_is)
    (case a2 => k_is)
    (case l2 => k_is)
    (case c2 => k_is)
    (case k2 => k_is)
    (case a3 => k_is)
    (case l3 => k_is)
    (case c3 => k_is)
    (case k3 => k_is)
    (case a4 => k_is)
    (case l4 => k_is)
    (case c4 => k_is)
    (case k4 => k_is)
    (case a5 => k_is)
    (case l5 => k_is)
    (case c5 => k_is)
    (case k5 => k_is)
    (case a6 => k_is)
    (case l6 => k_is)
    (case c6 => k_is)
    (case k6 => k_is)
    (case a7 => k_is)
    (case l7 => k_is)
    (case c7 => k_is)
    (case k7 => k_is)
    (case a8 => k_is)
    (case l8 => k_is)
    (case c8 => k_is)
    (case k8 => k_is)
    (case a9 => k_is)
    (case l9 => k_is)
    (case c9 => k_is)
    (case k9 => k_is)
    (case a10 => k_is)
    (case l10 => k_is)
    (case c10 => k_is)
    (case k10 => k_is)
    (case a11 => k_is)
    (case l11 => k_is)
    (case c11 => k_is)
    (case k11 => k_is)
    (case a12 => k_is)
    (case l12 => k_is)
    (case c12 => k_is)
    (case k12 => k_is)
    (case a13 => k_is)
    (case l13 => k_is)
    (case c13 => k_is)
    (case k13 => k_is)
    (case a14 => k_is)
    (case l14 => k_is)
    (case c14 => k_is)
    (case k14 => k_is)
    (case a15 => k_is)
    (case l15 => k_is)
    (case c15 => k_is)
    (case k15 => k_is)
    (case a16 => k_is)
    (case l16 => k_is)
    (case c16 => k_is)
    (case k16 => k_is)
    (case a17 => k_is)
    (case l17 => k_is)
    (case c17 => k_is)
    (case k17 => k_is)
    (case a18 => k_is)
    (case l18 => k_is)
    (case c18 => k_is)
    (case k18 => k_is)
    (case a19 => k_is)
    (case l19 => k_is)
    (case c19 => k_is)
    (case k19 => k_is)
    (case a20 => k_is)
    (case l20 => k_is)
    (case c20 => k_is)
    (case k20 => k_is)
    (case a21 => k_is)
    (case l21 => k_is)
    (case c21 => k_is)
    (case k21 => k_is)
    (case a22 => k_is)
    (case l22 => k_is)
    (case c22 => k_is)
    (case k22 => k_is)
    (case a23 => k_is)
    (case l23 => k_is)
    (case c23 => k_is)
    (case k23 => k_is)
    (case a24 => k_is)
    (case l24 => k_is)
    (case c24 => k_is)
    (case k24 => k_is)
    (case a25 => k_is)
    (case l25 => k_is)
    (case c25 => k_is)
    (case k25 => k_is)
    (case a26 => k_is)
    (case l26 => k_is)
    (case c26 => k_is)
    (case k26 => k_is)
    (case a27 => k_is)
    (case l27 => k_is)
    (case c27 => k_is)
    (case k27 => k_is)
    (case a28 => k_is)
    (case l28 => k_is)
    (case c28 => k_is)
    (case k28 => k_is)
    (case a29 => k_is)
    (case l29 => k_is)
    (case c29 => k_is)
    (case k29 => k_is)
    (case a30 => k_is)
    (case l30 => k_is)
    (case c30 => k_is)
    (case k30 => k_is)
    (case a31 => k_is)
    (case l31 => k_is)
    (case c31 => k_is)
    (case k31 => k_is)
    (case a32 => k_is)
    (case l32 => k_is)
    (case c32 => k_is)
    (case k32 => k_is)
    (case a33 => k_is)
    (case l33 => k_is)
    (case c33 => k_is)
    (case k33 => k_is)
    (case a34 => k_is)
    (case l34 => k_is)
    (case c34 => k_is)
    (case k34 => k_is)
    (case a35 => k_is)
    (case l35 => k_is)
    (case c35 => k_is)
    (case k35 => k_is)
    (case a36 => k_is)
    (case l36 => k_is)
    (case c36 => k_is)
    (case k36 => k_is)
    (case a37 => k_is)
    (case i37 => k_is)
    (case l37 => k_is)
    (case c37 => k_is)
    (case k37 => k_is)
    (case pa38 => k_is)
    (case pg38 => k_is)
    (case pt38 => k_is)
    (case pr38 => k_is)
    (case l38 => k_is)
    (case c38 => k_is)
    (case k38 => k_is)
    (case pa39 => k_is)
    (case pg39 => k_is)
    (case pt39 => k_is)
    (case pr39 => k_is)
    (case l39 => k_is)
    (case c39 => k_is)
    (case k39 => k_is)
    (case pa40 => k_is)
    (case pg40 => k_is)
    (case pt40 => k_is)
    (case pr40 => k_is)
    (case l40 => k_is)
    (case c40 => k_is)
    (case k40 => k_is)
    (case pa41 => k_is)
    (case pg41 => k_is)
    (case pt41 => k_is)
    (case pr41 => k_is)
    (case l41 => k_is)
    (case c41 => k_is)
    (case k41 => k_is)
    (case pa42 => k_is)
    (case pg42 => k_is)
    (case pt42 => k_is)
    (case pr42 => k_is)
    (case l42 => k_is)
    (case c42 => k_is)
    (case k42 => k_is)
    (case a43 => k_is)
    (case i43 => k_is)
    (case l43 => k_is)
    (case c43 => k_is)
    (case k43 => k_is)
    (case a44 => k_is)
    (case i44 => k_is)
    (case l44 => k_is)
    (case c44 => k_is)
    (case k44 => k_is)
    (case a45 => k_is)
    (case i45 => k_is)
    (case l45 => k_is)
    (case c45 => k_is)
    (case k45 => k_is)
    (case a46 => k_is)
    (case i46 => k_is)
    (case l46 => k_is)
    (case c46 => k_is)
    (case k46 => k_is)
    (case qof => k_is)
    (case qor => k_is)
    (case qoi => k_is)
    (case l47 => k_is)
    (case c47 => k_is)
    (case k47 => k_is)
    (case a48 => k_is)
    (case i48 => k_is)
    (case l48 => k_is)
    (case c48 => k_is)
    (case k48 => k_is)
    (case a49 => k_is)
    (case i49 => k_is)
    (case l49 => k_is)
    (case c49 => k_is)
    (case k49 => k_is)
    (case a50 => k_is)
    (case i50 => k_is)
    (case l50 => k_is)
    (case c50 => k_is)
    (case k50 => k_is)
    (case z_isinstance => k_is)
    (case z_str => k_is)
    (case z_tuple => k_is)
    (case z_list => k_is)
    (case z_bool => k_is)
    (case z_len => k_is)
    (case z_all => k_is)
    (case z_int => k_is)
    (case z_abs => k_is)
    (case z_max => k_is)
    (case z_min => k_is)
    (case z_range => k_is)
    (case z_zip => k_is)
    (case z_sorted => k_is)
    (case z_set => k_is)
    (case z_any => k_is)
    (case z_dict => k_is)
    (case y_MAX_LETTERS => k_is)
    (case y_MAX_MODES => k_is)
    (case y_MAX_PARAMETERS => k_is)
    (case y_MAX_DEPTH => k_is)
    (case y_MAX_TERMS => k_is)
    (case y_MAX_PROCEDURES => k_is)
    (case y_MAX_MODES_WITH_WRAPS => k_is)
    (case y_KINDS => k_is)
    (case x_KINDS => k_is)
    (case y_TERM_TAGS => k_is)
    (case x_TERM_TAGS => k_is)
    (case y_WRAP_TAGS => k_is)
    (case x_WRAP_TAGS => k_is)
    (case qpgC => k_is)
    (case qhdC => k_is)
    (case qpoC => k_is)
    (case qsaC => k_is)
    (case qmkC => k_is)
    (case qkcC => k_is)
    (case nC_named => k_is)
    (case nC_parameters => k_is)
    (case nC_body => k_is)
    (case nC_parts => k_is)
    (case nC_kinds => k_is)
    (case nC_words => k_is)
    (case nC_uses => k_is)
    (case qhaC => k_is)
    (case qhmC => k_is)
    (case qpgCP => k_is)
    (case qhdCP => k_is)
    (case qpoCP => k_is)
    (case qsaCP => k_is)
    (case qmkCP => k_is)
    (case qkcCP => k_is)
    (case nCP_modes => k_is)
    (case nCP_procedures => k_is)
    (case nCP_by_name => k_is)
    (case nCP_names => k_is)
    (case nCP_words => k_is)
    (case nCP_has_wraps => k_is)
    (case qhaCP => k_is)
    (case qhmCP => k_is)
    (case qhn => k_is)
    (case qht => k_is)
    (case qis => k_is)
    (case qty => k_is)
    (case u_NoneType => first | k_is | rfl)
    (case u_bool => first | k_is | rfl)
    (case u_int => first | k_is | rfl)
    (case u_str => first | k_is | rfl)
    (case u_tuple => first | k_is | rfl)
    (case u_list => first | k_is | rfl)
    (case u_dict => first | k_is | rfl)
    (case v_NoneType => k_is)
    (case v_bool => k_is)
    (case v_int => k_is)
    (case v_str => k_is)
    (case v_tuple => k_is)
    (case v_list => k_is)
    (case v_dict => k_is)
    (case isP => k_is)
    (case tyP => k_is)
    (case up_NoneType => first | k_is | rfl)
    (case up_bool => first | k_is | rfl)
    (case up_int => first | k_is | rfl)
    (case up_str => first | k_is | rfl)
    (case up_tuple => first | k_is | rfl)
    (case up_list => first | k_is | rfl)
    (case up_dict => first | k_is | rfl)
    (case vp_NoneType => k_is)
    (case vp_bool => k_is)
    (case vp_int => k_is)
    (case vp_str => k_is)
    (case vp_tuple => k_is)
    (case vp_list => k_is)
    (case vp_dict => k_is)
    (case qne => k_is)
    (case qps => k_is)
    (case qpn => k_is)
    (case qof0 => k_is)
    (case qof1 => k_is)
    (case qrd => k_is)
    (case qga => k_is)
    (case kI => k_is)
    (case bI => k_is)
    (case tI => k_is)
    (case iI => k_is)
    (case sI => k_is)
    (case kO => k_is)
    (case bO => k_is)
    (case tO => k_is)
    (case iO => k_is)
    (case sO => k_is)
    (case sOI => k_is)
    (case dR => kernel_rfl)
    (case dL => kernel_rfl)
    (case nR => kernel_rfl)
    (case nL => kernel_rfl)
    (case nePP => decide)
    (case xI => kernel_rfl)
    (case xO => kernel_rfl)

