import PyProof.Rows.All
import Wide.All
import OpenK.AllK
import Wide.FinOn
import HandS.ForMost
import HandS.Set
import HandS.SetBool
import HandS.Strs
import PyProof.Rows.SortShellAny
import HandS.Deep
import HandS.IsInst
import HandS.TupMul
import HandS.TupAny
import HandS.Walk
import HandS.Zip
import HandS.OwnEq
import HandS.Property
import KE.KCallOwn
import PyProof.InstNe
import HandS.FStr
import PySem.Challenge.RW_blockshanded_k00_errors_and_what_they_ke
import HandS.Dict
import HandS.More
import HandS.Small
import HandS.Conv
import PyProof.ReprRoads
import HandS.Base
import HandS.Call
import HandS.List
import HandS.Ends
import HandS.Exc
import HandS.Lambda
import HandS.EndTab
import HandS.Words
import HandS.WordsExc
import HandS.EndBits
import KE.KExcInit
import HandS.ExcInit
import HandS.ExcField
import HandS.RaiseMore
import KE.KExcIs
set_option Elab.async false
set_option linter.all false
set_option maxRecDepth 100000
set_option maxHeartbeats 4000000
/-! sets of texts: their members in the order in which they came in; a set comprehension; sorted of such a set -/
namespace FS
open PySem PySem.Spec PyProof.Rows L2
/-- the text of a member -/
def txt : Int × Value → Str
  | (_, .str x _) => x
  | _ => Str.empty
def Mem1 (w : World) (m : Int × Value) : Prop := ∃ x tk, m = (hashStr w x, Value.str x tk)
/-- at a stands the set of the texts xs -/
structure Tab (w : World) (xs : List Str) (ms : Array (Int × Value)) (t : SetTable) : Prop where
  mem : ∀ m ∈ ms.toList, Mem1 w m
  perm : (ms.toList.map txt).Perm xs
  nd : xs.Nodup
  few : ms.size < scanBound
  fit : t.fits ms.size = true
  ris : Ris t.place.toList
  ord : w.params.followText "set-order" = true ∨ t.led = true
def SetS (w : World) (h : Heap) (a : Addr) (xs : List Str) : Prop :=
  ∃ o ms ep t, h.get? a = some o ∧ o.ExactSet ∧ o.data = .set ms ep t ∧ Tab w xs ms t
def addS (xs : List Str) (x : Str) : List Str := if x ∈ xs then xs else xs ++ [x]
section
variable {P : Program} {w : World}
theorem Mem1.is {m : Int × Value} (g : Mem1 w m) (x : Str) : (strKind P w).is x m.2 = true ↔ txt m = x := by
  obtain ⟨y, tk, rfl⟩ := g
  constructor
  · intro h
    exact (strKind P w).inj _ _ _ (strKind_is P w y tk) h
  · intro h
    rw [← show y = x from h]
    exact strKind_is P w y tk
theorem Tab.elems {xs : List Str} {ms : Array (Int × Value)} {t : SetTable} (T : Tab w xs ms t) : ElemsOf (strKind P w) ms.toList := fun m hm => by
  obtain ⟨y, tk, rfl⟩ := T.mem m hm
  exact ⟨⟨y, strKind_is P w y tk, rfl⟩, rfl⟩
theorem Tab.has {xs : List Str} {ms : Array (Int × Value)} {t : SetTable} (T : Tab w xs ms t) (x : Str) : x ∈ xs ↔ ∃ m ∈ ms.toList, (strKind P w).is x m.2 = true := by
  rw [← T.perm.mem_iff, List.mem_map]
  exact ⟨fun ⟨m, hm, e⟩ => ⟨m, hm, ((T.mem m hm).is x).mpr e⟩, fun ⟨m, hm, e⟩ => ⟨m, hm, ((T.mem m hm).is x).mp e⟩⟩
theorem Tab.size {xs : List Str} {ms : Array (Int × Value)} {t : SetTable} (T : Tab w xs ms t) : ms.size = xs.length := by
  have e := T.perm.length_eq
  rw [List.length_map, Array.length_toList] at e
  exact e
/-- the same members laid otherwise -/
theorem Tab.laid {xs : List Str} {ms ms' : Array (Int × Value)} {t t' : SetTable} (T : Tab w xs ms t) (p : ms'.toList.Perm ms.toList) (f : t'.fits ms'.size = true) (r : Ris t'.place.toList) (l : t'.led = t.led) : Tab w xs ms' t' where
  mem := fun m hm => T.mem m (p.mem_iff.mp hm)
  perm := (p.map txt).trans T.perm
  nd := T.nd
  few := by
    have e := p.length_eq
    rw [Array.length_toList, Array.length_toList] at e
    rw [e]
    exact T.few
  fit := f
  ris := r
  ord := T.ord.imp id fun z => l.trans z
end
section
variable {P : Program} {w : World} {A : Around} {E : Value → Shared → Prop} {s : Shared} {a : Addr} {xs : List Str}
theorem SetS.of (R : SetS w s.heap a xs) : s.heap.SetOf (strKind P w) a (fun x => decide (x ∈ xs)) xs.length := by
  obtain ⟨o, ms, ep, t, ho, hx, hd, T⟩ := R
  exact ⟨o, ms, ep, t, ho, hx, hd, T.elems, fun k => decide_eq_true_iff.trans (T.has k), T.few, T.fit, T.size⟩
/-- the table stored, made greater where it is too full -/
theorem stored {give : Bool → Sem Unit} (hg : ∀ (b : Bool) (s1 : Shared) (Q1 : Unit → Shared → Prop), Q1 () s1 → wpAny (model P w) A (give b) Q1 E s1) {o : Obj} {ms ms1 : Array (Int × Value)} {ep : Nat} {t t1 : SetTable}
    (ho : s.heap.get? a = some o) (hx : o.ExactSet) (hd : o.data = .set ms ep t) (T : Tab w xs ms1 t1) {was : Bool} {R : Option Bool → Shared → Prop} (hR : ∀ h', Heap.SameBut a s.heap h' → SetS w h' a xs → R (some true) { s with heap := h' }) :
    wpAny (model P w) A (do
      storeSet a ms1 t1
      if (!was && t1.tooFull) = true then do
        give (relayAll t1 ms1 (SetTable.grown ms1.size)).2.2
        storeSet a (relayAll t1 ms1 (SetTable.grown ms1.size)).1 (relayAll t1 ms1 (SetTable.grown ms1.size)).2.1
        pure (some true)
      else pure (some true)) R E s := by
  have h1 := store_at (es' := ms1) (t' := t1) ho hd
  have b1 := Heap.SameBut.update s.heap a (Obj.putSet ms1 t1)
  refine wpAny_bind (wpAny_storeSet_of ho hd ?_ (fits_of_scanBound T.few))
  by_cases c : (!was && t1.tooFull) = true
  · rw [if_pos c]
    have T2 : Tab w xs (relayAll t1 ms1 (SetTable.grown ms1.size)).1 (relayAll t1 ms1 (SetTable.grown ms1.size)).2.1 := by
      have pm := relayAll_perm t1 ms1 (SetTable.grown ms1.size)
      have sz : (relayAll t1 ms1 (SetTable.grown ms1.size)).1.size = ms1.size := by rw [← Array.length_toList, pm.length_eq, Array.length_toList]
      exact T.laid pm (by have f := relayAll_fits t1 ms1 (SetTable.grown ms1.size); first | exact f | (rw [sz]; exact f)) (relayAll_ris t1 ms1 _ ) (relayAll_led t1 ms1 _)
    generalize relayAll t1 ms1 (SetTable.grown ms1.size) = Z at T2 ⊢
    refine wpAny_bind (hg _ _ _ (wpAny_bind (wpAny_storeSet_of h1 rfl (wpAny_pure (hR _ (b1.trans (Heap.SameBut.update _ a _)) ⟨_, _, _, _, store_at h1 rfl, hx, rfl, T2⟩)) (fits_of_scanBound T2.few))))
  · rw [if_neg c]
    exact wpAny_pure (hR _ b1 ⟨_, _, _, _, h1, hx, rfl, T⟩)
end
end FS

set_option Elab.async false
set_option linter.all false
set_option maxRecDepth 100000
set_option maxHeartbeats 4000000
namespace FS
open PySem PySem.Spec PyProof.Rows L2
section
variable {P : Program} {w : World} {A : Around} {E : Value → Shared → Prop} {s : Shared} {a : Addr} {xs : List Str}
theorem put1 {x : Str} {tk : Tok} {Q : Bool → Shared → Prop} (R : SetS w s.heap a xs) (room : xs.length + 1 < scanBound)
    (hQ : ∀ h', Heap.SameBut a s.heap h' → SetS w h' a (addS xs x) → ∀ b, Q b { s with heap := h' }) : wpAny (model P w) A (setAddHashed a (.str x tk) ((strKind P w).hash x)) Q E s := by
  obtain ⟨o, ms, ep, t, ho, hx, hd, T⟩ := R
  have key := strKind_is P w x tk
  have el : ElemsOf (strKind P w) ms.toList := T.elems
  have sc : (Value.str x tk).scannable = true := rfl
  have quietly : ∀ (b : Bool) {s1 : Shared} {Q1 : Unit → Shared → Prop}, Q1 () s1 → wpAny (model P w) A (match b with | true => rule "set.scan.the-table-gave-way" | false => pure ()) Q1 E s1 := fun b _ _ q => by
    cases b
    · exact wpAny_pure q
    · exact wpAny_rule q
  unfold setAddHashed setAddHashedIn
  refine wpAny_holding (wpAny_bind (wpAny_setState_of ho hd T.fit ?_))
  dsimp only
  rw [byScan_of sc T.few el]
  simp only [↓reduceIte]
  unfold setAddByScan
  refine wpAny_bind (wpAny_bind (wpAny_rule (wpAny_bind (wpAny_setScan_of key ho hd T.fit el ?_))))
  cases hf : List.findIdx? (fun e => (strKind P w).is x e.2) ms.toList with
  | some j =>
    obtain ⟨hj, pj, _⟩ := List.findIdx?_eq_some_iff_getElem.mp hf
    have hm : x ∈ xs := (T.has (P := P) x).mpr ⟨_, List.getElem_mem hj, pj⟩
    refine wpAny_pure (wpAny_pure (hQ s.heap (Heap.SameBut.refl a s.heap) ?_ _))
    unfold addS
    rw [if_pos hm]
    exact ⟨o, ms, ep, t, ho, hx, hd, T⟩
  | none =>
    have hm : x ∉ xs := fun z => by
      obtain ⟨m, h1, h2⟩ := (T.has (P := P) x).mp z
      have h3 := List.findIdx?_eq_none_iff.mp hf m h1
      rw [h2] at h3
      cases h3
    dsimp only
    have T1 : Tab w (addS xs x) (layNew t ms ((strKind P w).hash x) (.str x tk)).1 (layNew t ms ((strKind P w).hash x) (.str x tk)).2.1 := by
      have pm := layNew_perm t ms ((strKind P w).hash x) (.str x tk)
      rw [Array.toList_push] at pm
      have pc := pm.trans (List.perm_append_singleton _ _)
      have e : addS xs x = xs ++ [x] := by
        unfold addS
        rw [if_neg hm]
      have pk : ((layNew t ms ((strKind P w).hash x) (.str x tk)).1.toList.map txt).Perm (xs ++ [x]) := ((pc.map txt).trans (List.Perm.cons x T.perm)).trans (List.perm_append_singleton x xs).symm
      have sz : (layNew t ms ((strKind P w).hash x) (.str x tk)).1.size = xs.length + 1 := by
        rw [← Array.length_toList, ← List.length_map (f := txt), pk.length_eq, List.length_append]
        rfl
      rw [e]
      refine ⟨fun m h => ?_, pk, List.nodup_append.mpr ⟨T.nd, (by simp), fun y hy z hz => ?_⟩, by rw [sz]; exact room, layNew_fits t ms _ _, layNew_ris t ms _ _ T.ris, T.ord.imp id fun z => (layNew_led t ms _ _).trans z⟩
      · rcases List.mem_cons.mp (pc.mem_iff.mp h) with z | z
        · exact ⟨x, tk, z⟩
        · exact T.mem m z
      · rw [List.mem_singleton.mp hz]
        intro e2
        exact hm (e2 ▸ hy)
    generalize layNew t ms ((strKind P w).hash x) (.str x tk) = Z at T1 ⊢
    obtain ⟨ms1, t1, was, gave⟩ := Z
    dsimp only at T1 ⊢
    refine wpAny_bind (quietly _ ?_)
    split
    · refine wpAny_bind ?_
      rw [hashByValue_scannable 8 sc]
      refine wpAny_pure ?_
      refine stored (fun b _ _ q => quietly b q) ho hx hd (xs := addS xs x) ?_ fun h' sb r => ?_
      · first | exact T1 | (split <;> first | exact T1 | exact ⟨T1.mem, T1.perm, T1.nd, T1.few, SetTable.fits_plain_off T1.fit, T1.ris, T1.ord⟩)
      · dsimp only
        exact wpAny_pure (hQ h' sb r _)
    · refine wpAny_bind (wpAny_pure ?_)
      simp only [↓reduceIte]
      refine stored (fun b _ _ q => quietly b q) ho hx hd T1 fun h' sb r => ?_
      dsimp only
      exact wpAny_pure (hQ h' sb r _)
theorem put {x : Str} {tk : Tok} {Q : Value → Shared → Prop} (R : SetS w s.heap a xs) (room : xs.length + 1 < scanBound)
    (hQ : ∀ h' tk', Heap.SameBut a s.heap h' → SetS w h' a (addS xs x) → Q .none { s with heap := h', toks := tk' }) : wpAny (model P w) A (call (.builtin "set.add") [.ref a, .str x tk]) Q E s := by
  refine wpAny_call_entry F.slot_set_add (R.of (P := P)).typeIs F.entry_set_add ?_ (F.args_set_add_2 _ _)
  unfold Builtin.«set.add» Builtin.Frozenset.oneOther
  simp only [List.isEmpty_nil, bind_assoc]
  unfold Builtin.Frozenset.addrOf setAdd
  refine wpAny_bind (wpAny_pure (wpAny_bind (wpAny_pure (wpAny_bind (wpAny_holding (wpAny_bind ((strKind P w).pyHash (strKind_is P w x tk) ?_)))))))
  refine put1 (s := { s with toks := s.toks + 1 }) R room fun h' sb r b => ?_
  show wpAny _ _ (ret Value.none) _ _ _
  exact wpAny_pure ⟨_, rfl, hQ h' _ sb r⟩
theorem SetS.new {h : Heap} (w : World) : SetS w (h.push { cls := .type "set", dict := none, data := .set #[] 0 (.fresh 0 0 (!w.params.followText "set-order")) }) h.objs.size [] := by
  refine ⟨_, #[], 0, _, Heap.get?_push_size _ rfl, ⟨rfl, rfl, rfl⟩, rfl, ⟨(fun m hm => by cases hm), List.Perm.nil, List.nodup_nil, by decide, rfl, List.Pairwise.nil, ?_⟩⟩
  show w.params.followText "set-order" = true ∨ (!w.params.followText "set-order") = true
  cases w.params.followText "set-order"
  · exact .inr rfl
  · exact .inl rfl
end
/-- the set of the texts xs, as what is tracked -/
def SO (w : World) (a : Addr) (xs : List Str) : HO := .ext fun h => SetS w h a xs
theorem SO.mk {P : Program} {w : World} {H : Hp} {h : Heap} {a : Addr} {xs : List Str} (R : SetS w h a xs) : ObjOk P w H h a (SO w a xs) := by
  obtain ⟨o, ms, ep, t, ho, r⟩ := id R
  exact ⟨R, ⟨o, ho⟩, fun h1 h2 ⟨o1, m1, e1, t1, g1, r1⟩ k => ⟨o1, m1, e1, t1, k o1 g1, r1⟩⟩
section
variable {X : Cx} {pins : List (Addr × Obj)} {σ : L2.St} {H : Hp} {s : Shared}
theorem SO.at {a : Addr} {xs : List Str} (I : Inv X pins σ H s) (ha : H a = some (SO X.w a xs)) : SetS X.w s.heap a xs := (I.hok a _ ha).1
theorem SO.put {E : Value → Shared → Prop} {A : Around} {D : Addr} {xs : List Str} {x : Str} {tk : Tok} {Q : Value → Shared → Prop} (I : Inv X pins σ H s) (hD : H D = some (SO X.w D xs)) (room : xs.length + 1 < scanBound)
    (h : ∀ s', Inv X pins σ (upd H D (SO X.w D (addS xs x))) s' → Q .none s') : wpAny (model X.prog X.w) A (call (.builtin "set.add") [.ref D, .str x tk]) Q E s := by
  refine FS.put (SO.at I hD) room fun h' tk' sb r => h _ (I.write (e := D) (t' := tk') (by rw [hD]; trivial) (.inl rfl) (fun b u hb hu => (sb.2 b hb).trans hu) ?_ (SO.mk r))
  obtain ⟨o, _, _, _, ho, _⟩ := r
  exact ⟨o, ho⟩
end
end FS

set_option Elab.async false
set_option linter.all false
set_option maxRecDepth 100000
set_option maxHeartbeats 4000000
namespace FS
open PySem PySem.Spec PyProof.Rows L2
/-! ### {elt for target in iter if ..}, elt a text -/
section
variable {X : Cx}
def tSet (w : World) (wi : TI) (g : TG) (tt : TT) (te : TE) (vs : List Nat) : TE := fun σ H Q => wi σ H fun J H1 => ∀ D, H1 D = none →
  ∃ W : Nat → Nat → Hp → Prop, (∃ m, W 0 m (upd H1 D (SO w D []))) ∧ ∀ i m H2, W i m H2 → (J.stop i H2 ∧ Q (.ref D) H2) ∨
    (J.go i H2 ∧ ∃ Nx : Hp → Prop, (∀ H', Nx H' → ∃ m', m' < m ∧ W (i + 1) m' H') ∧ ∀ x H3, J.yld i H2 x H3 → g x (wipe σ vs) H3 fun σ2 H4 => wipe σ2 vs = wipe σ vs ∧ tt σ2 H4 fun b H5 =>
      if b = true then te σ2 H5 fun y H6 => ∃ (z : Str) (xs : List Str), y = .str z ∧ H6 D = some (SO w D xs) ∧ xs.length + 1 < scanBound ∧ Nx (upd H6 D (SO w D (addS xs z))) else Nx H5)
theorem pe_set {elt tg iter : Expr} {ifs : List Expr} {scope : Scope} {own : List (PySem.Str × Nat)} {pos : Pos} {wi : TI} {g : TG} {tt : TT} {te : TE} (hc : X.calm = true) (hN : X.N.Nodup) (hi : PI X tg iter wi) (ok : BlkOk X.N X.env.scope scope own)
    (hg : ∀ (s : Shared) (H : Hp) (C : Addr) (cl : List (PySem.Str × Addr)) (fp : List Addr), PG (X.blk s H scope (compEnvC scope cl C X.env) fp) tg g)
    (ht : ∀ (s : Shared) (H : Hp) (C : Addr) (cl : List (PySem.Str × Addr)) (fp : List Addr), PTs (X.blk s H scope (compEnvC scope cl C X.env) fp) ifs tt)
    (he : ∀ (s : Shared) (H : Hp) (C : Addr) (cl : List (PySem.Str × Addr)) (fp : List Addr), PE (X.blk s H scope (compEnvC scope cl C X.env) fp) elt te) (hs : ∀ x, foldedSetIterable iter X.env x = pure x := by intro _; rfl) :
    PE X (.SetComp elt [⟨tg, iter, ifs, 0⟩] scope pos) (tSet X.w wi g tt te (own.map (·.2))) := by
  refine ⟨fun pins s σ H Q I h => ?_⟩
  rw [PpSet.eval_SetComp]
  have hfree : ∀ y ∈ scope.names, y.2 = .free → ∃ c, X.env.cells.lookup y.1 = some c := fun y hy e => by
    rcases ok.free y hy e with k | k
    · exact I.ok.has _ (.inl k)
    · exact I.ok.has _ (.inr k)
  refine wpAny_comprehension_free (use := none) rfl hs (closure_ok hfree) ok.kind (fun y hy e => by rw [ok.uniq y hy, e]) (thn (hi.run pins s σ H _ I h) fun xv s1 hx => thn hx fun itv s2 h2 => ?_)
  obtain ⟨it, fp, tn, J, H2, rfl, I2, T, st2, f2, q⟩ := h2
  refine PpSet.newSet_ok (newEnv_comp ?_)
  obtain ⟨D, eD⟩ : ∃ D, s2.heap.objs.size = D := ⟨_, rfl⟩
  rw [eD]
  have hDn : H2 D = none := I2.hok.fresh (Nat.le_of_eq eD)
  obtain ⟨W, ⟨m0, w0⟩, turn⟩ := q D hDn
  obtain ⟨s3, es3⟩ : ∃ s3 : Shared, { s2 with heap := s2.heap.push { cls := .type "set", dict := none, data := .set #[] 0 (.fresh 0 0 (!X.w.params.followText "set-order")) } } = s3 := ⟨_, rfl⟩
  have kept : ∀ b o, s2.heap.get? b = some o → s3.heap.get? b = some o := fun b o e => by
    rw [← es3]
    exact Heap.get?_push_of_some _ e
  have grown : s3.heap.objs.size = s2.heap.objs.size + 1 := by
    rw [← es3]
    exact Heap.size_push ..
  have I3 : Inv X pins σ (upd H2 D (SO X.w D [])) s3 := by
    rw [← es3]
    refine I2.laid (t' := s2.toks) (fun b o e => Heap.get?_push_of_some _ e) (Nat.le_of_eq eD) (SO.mk ?_)
    rw [← eD]
    exact SetS.new X.w
  rw [es3]
  clear es3
  have below : ∀ b ∈ fp, b < s2.heap.objs.size := fun b hb => by
    obtain ⟨o, e, _⟩ := T.obj _ _ st2 b hb
    exact Heap.lt_size e
  obtain ⟨H3, eH3⟩ : ∃ H3, upd H2 D (SO X.w D []) = H3 := ⟨_, rfl⟩
  have f3 : ∀ b ∈ fp, FpOk X pins H3 b ∧ b < s3.heap.objs.size := fun b hb => by
    have lt := below b hb
    have ne : b ≠ D := fun z => Nat.lt_irrefl _ (by rw [z, ← eD] at lt; exact lt)
    refine ⟨⟨?_, (f2 b hb).2⟩, by rw [grown]; exact Nat.lt_succ_of_lt lt⟩
    rw [← eH3, upd_ne ne]
    exact (f2 b hb).1
  rw [eH3] at I3 w0
  have st3 : tn 0 s3.heap := T.keep _ _ _ st2 fun b _ o e => kept b o e
  have I4 := block_start I3 ok hN f3
  have pg := hg s3 H3 s3.heap.objs.size (cellsFrom (s3.heap.objs.size + 1) scope.names (cloFrom X.env.cells scope.names [])) fp
  have pt := ht s3 H3 s3.heap.objs.size (cellsFrom (s3.heap.objs.size + 1) scope.names (cloFrom X.env.cells scope.names [])) fp
  have pe := he s3 H3 s3.heap.objs.size (cellsFrom (s3.heap.objs.size + 1) scope.names (cloFrom X.env.cells scope.names [])) fp
  obtain ⟨ce, ece⟩ : ∃ ce, compEnvC scope (cellsFrom (s3.heap.objs.size + 1) scope.names (cloFrom X.env.cells scope.names [])) s3.heap.objs.size X.env = ce := ⟨_, rfl⟩
  obtain ⟨s4, es4⟩ : ∃ s4 : Shared, { s3 with heap := pushCells (s3.heap.push { cls := .type "dict", data := .dict #[] }) scope.names } = s4 := ⟨_, rfl⟩
  have locals : ce.locals = s3.heap.objs.size := by
    rw [← ece]
    rfl
  have st4 : tn 0 s4.heap := T.keep _ _ _ st3 fun b _ o e => by
    rw [← es4]
    exact pushCells_keeps _ _ _ _ (Heap.get?_push_of_some _ e)
  rw [ece] at I4 pg pt pe
  rw [es4] at I4
  have none3 : ∀ b ∈ fp, H3 b = none := fun b hb => (f3 b hb).1.1
  have still : ∀ {σ' : L2.St} {H' : Hp} {s' : Shared}, Inv (X.blk s3 H3 scope ce fp) [] σ' H' s' → (∀ b ∈ fp, H' b = none) → ∀ b ∈ fp, FpOk (X.blk s3 H3 scope ce fp) [] H' b := fun {σ' H' s'} I' hn b hb =>
    ⟨hn b hb, (I'.ok.exf b hb).1, I'.ok.exfs b hb, .inl hb, fun x c e => (I'.ok.exf b hb).2 x c e, fun p hp => absurd (show p ∈ ([] : List (Addr × Obj)) ++ [] from hp) (by simp)⟩
  show codeAny _ _ (.compStart (.SetComp elt [⟨tg, iter, ifs, 0⟩] scope pos) 0 (.ref it) (.ref D) (compEnvC scope (cellsFrom (s3.heap.objs.size + 1) scope.names (cloFrom X.env.cells scope.names [])) s3.heap.objs.size X.env)) _ { s3 with heap := pushCells (s3.heap.push { cls := .type "dict", data := .dict #[] }) scope.names }
  rw [ece, es4]
  refine PpSet.codeAny_compStart_set ?_ (T.self X.A 0 _ _ _ st4 ?_)
  all_goals
    refine PpSet.compLoopS_any (fun n s' => ∃ i H', Inv (X.blk s3 H3 scope ce fp) [] (wipe σ (own.map (·.2))) H' s' ∧ tn i s'.heap ∧ (∀ b ∈ fp, H' b = none) ∧ W i n H') ?_ m0 ⟨0, H3, I4, st4, none3, w0⟩
    rintro n s5 ⟨i, H5, I5, st5, n5, w5⟩
    rcases turn i n H5 w5 with ⟨stop, qq⟩ | ⟨go, Nx, hNx, step⟩
    · refine thnF (T.done (X.blk s3 H3 scope ce fp) rfl rfl rfl hc i [] s5 _ H5 (fun _ _ => False) I5 (still I5 n5) st5 stop) fun r s6 ⟨hr, I6⟩ => ?_
      subst hr
      have I7 : Inv X pins σ H5 s6 := I3.call' (ch := fp) I6.os I6.base I6.hok I6.bare fun b hb => ⟨(f3 b hb).1.2.2.2.1, (f3 b hb).1.2.1, (f3 b hb).1.2.2.2.2.1, (f3 b hb).1.2.2.2.2.2⟩
      have nC : H5 s3.heap.objs.size = none := by
        have z : H5 ce.locals = none := I6.free
        rw [locals] at z
        exact z
      obtain ⟨m, hn, _⟩ := I6.loc
      have hn : s6.heap.Ns ce.locals m := hn
      rw [locals] at hn
      obtain ⟨g0, g1, g2, g3, g4, g5⟩ := I3.fpOk (Nat.le_refl _) nC
      exact ⟨m, hn, fun h'' sb => ⟨.ref D, H5, I7.turned (t' := s6.toks) (fun b o hb e => (sb.2 b hb).trans e) g0 g1 g3 g4 g5, rfl, qq⟩⟩
    · refine thnF (T.item (X.blk s3 H3 scope ce fp) rfl rfl rfl hc i [] s5 _ H5 (fun _ _ => False) I5 (still I5 n5) st5 go) fun r s6 ⟨u, hr, h6⟩ => ?_
      subst hr
      refine thnF h6 fun _ s7 ⟨x, H7, I7, r7, y7, st7, n7⟩ => ?_
      refine thnF (pg.run _ s7 _ H7 x u _ (I7.pinned (still I7 n7) (T.obj _ _ st7)) r7 (step x H7 y7)) fun _ s8 ⟨σ8, H8, I8, hw8, q8⟩ => ?_
      refine thnF (pt.run _ s8 σ8 H8 _ I8 q8) fun b s9 ⟨H9, I9, q9⟩ => ?_
      have fin : ∀ {s' : Shared} {H' : Hp}, Inv (X.blk s3 H3 scope ce fp) ([] ++ pinsAt fp s7.heap) σ8 H' s' → Nx H' → ∃ m, m < n ∧ ∃ i H', Inv (X.blk s3 H3 scope ce fp) [] (wipe σ (own.map (·.2))) H' s' ∧ tn i s'.heap ∧ (∀ b ∈ fp, H' b = none) ∧ W i m H' := fun {s' H'} I' nx => by
        obtain ⟨m', hm, w'⟩ := hNx H' nx
        have pinned : ∀ b ∈ fp, ∀ o, s7.heap.get? b = some o → s'.heap.get? b = some o ∧ H' b = none := fun b hb o e =>
          let z := I'.pin (b, o) (List.mem_append_right _ (List.mem_append_right _ (mem_pinsAt hb e)))
          ⟨z.1, z.2.1⟩
        refine ⟨m', hm, i + 1, H', (I'.unpinned (pins := [])).weak (by rw [← hw8, wipe_length]) (fun j v e => ?_), T.keep _ _ _ st7 fun b hb o e => (pinned b hb o e).1, fun b hb => ?_, w'⟩
        · rw [← hw8] at e
          exact (wipe_some e).1
        · obtain ⟨o, e, _⟩ := T.obj _ _ st7 b hb
          exact (pinned b hb o e).2
      cases b with
      | false =>
        rw [if_neg Bool.false_ne_true] at q9 ⊢
        exact fin I9 q9
      | true =>
        rw [if_pos rfl] at q9 ⊢
        refine thnF (pe.run _ s9 σ8 H9 _ I9 q9) fun z s10 ⟨yv, H10, I10, r10, zt, zs, ey, hD10, hz10, nx⟩ => ?_
        subst ey
        obtain ⟨tk, rfl⟩ := (show ∃ tk, z = Value.str zt tk from r10)
        exact SO.put (X := X.blk s3 H3 scope ce fp) I10 hD10 hz10 fun s11 I11 => fin I11 nx
end
end FS

set_option Elab.async false
set_option linter.all false
set_option maxRecDepth 100000
set_option maxHeartbeats 4000000
namespace FS
open PySem PySem.Spec PyProof.Rows L2
theorem strs_members {w : World} : ∀ (ms : List (Int × Value)) (vs : List Value), (∀ m ∈ ms, Mem1 w m) → vs.Perm (ms.map (·.2)) → ∃ ys : List Str, StrsAre vs ys ∧ ys.Perm (ms.map txt) := fun ms vs h p => by
  have all : ∀ v ∈ vs, ∃ x t, v = Value.str x t := fun v hv => by
    obtain ⟨m, hm, e⟩ := List.mem_map.mp (p.mem_iff.mp hv)
    obtain ⟨x, tk, rfl⟩ := h m hm
    exact ⟨x, tk, e.symm⟩
  refine ⟨vs.map strOf, strsAre_map vs all, (p.map strOf).trans (List.Perm.of_eq ?_)⟩
  rw [List.map_map]
  refine List.map_congr_left fun m hm => ?_
  obtain ⟨x, tk, rfl⟩ := h m hm
  rfl
section
variable {P : Program} {w : World} {A : Around} {E : Value → Shared → Prop} {s : Shared} {a : Addr} {xs : List Str}
theorem ranked {Q : Value → Shared → Prop} (R : SetS w s.heap a xs) (hh : A.handled = none) (hz : xs.length ≤ 4096)
    (hQ : ∀ s' p (out : Array Value) (c : Nat) (ys : List Str), (∀ b o, s.heap.get? b = some o → s'.heap.get? b = some o) → s'.gens = s.gens → s'.os = s.os → s.heap.objs.size ≤ p →
      s'.heap.get? p = some (seqObj "list" out c) → StrsAre out.toList ys → ys.Perm xs → sortedS ys = true → Q (.ref p) s') : wpAny (model P w) A (call (.builtin "sorted") [.ref a]) Q E s := by
  obtain ⟨o, ms, ep, t, ho, hx, hd, T⟩ := R
  refine Calls.call_function_entry kind_sorted plain_sorted entry_sorted (args_sorted1 _) ?_
  unfold Builtin.«sorted»
  refine wpAny_bind (m := checkCount "sorted" 1 1 _) (wpAny_pure (wpAny_bind (collect_set (A := A.in1) hh ⟨o, ho, hx.1, hd⟩ T.fit T.few T.ris T.ord fun s1 vs k1 z1 g1 o1 pm => ?_)))
  obtain ⟨zs, hS, pz⟩ := strs_members ms.toList vs T.mem pm
  have len : vs.length = xs.length := by
    rw [pm.length_eq, List.length_map, Array.length_toList]
    exact T.size
  have le : vs.length ≤ sizeLine := by
    rw [sizeLine_eq]
    omega
  refine wpAny_bind (wpAny_newList ?_ le)
  have hL : (s1.heap.push (seqObj "list" vs.toArray 0)).get? s1.heap.objs.size = some (seqObj "list" vs.toArray 0) := Heap.get?_push_size _ rfl
  refine wpAny_bind (wpAny_holding (wpAny_call_entry slot_list_sort ⟨_, hL, rfl⟩ entry_list_sort (list_sort_treeKAny strKind_oneLt hL hS.keysOf (fun v1 v2 rest e => keyKind_strs (by rw [← e]; exact hS)) le fun st' hp hs => ?_) (args_list_sort _)))
  obtain ⟨ys, h1, h2, h3⟩ := sorted_out_str hS hp hs
  obtain ⟨c, hc⟩ := sortedHeap_at (vs := vs) (out := (arrOf st').map (·.2)) hL
  refine ⟨.none, rfl, wpAny_pure ⟨.ref s1.heap.objs.size, rfl, hQ _ s1.heap.objs.size _ c ys (fun b u e => ?_) g1 o1 z1 hc h1 (h2.trans (pz.trans T.perm)) h3⟩⟩
  have q := k1 b u e
  have lt := Heap.lt_size q
  show (sortedHeap (s1.heap.push (seqObj "list" vs.toArray 0)) s1.heap.objs.size vs _).get? b = some u
  rw [sortedHeap_old (Nat.ne_of_lt lt) (by rw [size_push']; exact Nat.lt_succ_of_lt lt)]
  exact Heap.get?_push_of_some _ q
end
section
variable {X : Cx}
/-- sorted(a set of texts) -/
theorem cr_ranked (hc : X.calm = true) : CallR X (.builtin "sorted") (fun vs H Q => ∃ (a : Addr) (xs : List Str), vs = [V.ref a] ∧ H a = some (SO X.w a xs) ∧ xs.length ≤ 4096 ∧
    ∀ (ys : List Str) (p : Addr), ys.Perm xs → sortedS ys = true → H p = none → Q (.ref p) (upd H p (.lst (ys.map V.str)))) := by
  intro pins s σ H vs us Q I r h
  obtain ⟨a, xs, rfl, ha, hz, q⟩ := h
  rw [Vals.ref1 r]
  refine ranked (SO.at I ha) (I.ok.hd hc) hz fun s' p out c ys k g o hp hg hi pm hs => ?_
  have le : (ys.map V.str).length ≤ sizeLine := by
    rw [List.length_map, pm.length_eq, sizeLine_eq]
    omega
  have hn : H p = none := I.hok.fresh hp
  have J : Inv X pins σ (upd H p (.lst (ys.map V.str))) { s with heap := s'.heap, gens := s'.gens, drawn := s'.drawn, toks := s'.toks } :=
    I.call (ch := []) (Un.laid k hp hn) (I.hok.laid k hp ⟨le, out.toList, c, vals_of_strs hi, hg⟩) (by rw [g]; exact I.bare) (fun _ z => nomatch z)
  have e : s' = { s with heap := s'.heap, gens := s'.gens, drawn := s'.drawn, toks := s'.toks } := by
    obtain ⟨_, _, _, _, _⟩ := s'
    obtain ⟨_, _, _, _, _⟩ := s
    cases o
    rfl
  rw [e]
  exact ⟨.ref p, _, J, rfl, q ys p pm hs hn⟩
/-- len(a set of texts) -/
theorem cr_many : CallR X (.builtin "len") (fun vs H Q => ∃ (a : Addr) (xs : List Str), vs = [V.ref a] ∧ H a = some (SO X.w a xs) ∧ Q (.int xs.length) H) := by
  intro pins s σ H vs us Q I r h
  obtain ⟨a, xs, rfl, ha, q⟩ := h
  rw [Vals.ref1 r]
  obtain ⟨o, ms, ep, t, ho, hx, hd, T⟩ := SO.at I ha
  have e := T.size
  refine call_len_set ho hx hd T.fit (by have := T.few; have l : scanBound ≤ 2 ^ 62 := by decide
                                         omega) ⟨.int xs.length, H, I.tok _, ⟨_, by rw [e]⟩, q⟩
end
end FS

set_option Elab.async false
set_option linter.all false
set_option maxRecDepth 100000
set_option maxHeartbeats 4000000
namespace FS
open PySem PySem.Spec PyProof.Rows L2
/-! ### rules -/
section
variable {X : Cx}
def rInT (K : PySem.W.Frag) (neg : Bool) : R2 := fun x y H Q => ∃ d ds, Dp K H x d ∧ Dp K H y (.tuple ds) ∧ SeqAt.shaped d = true ∧ SeqAt.shaped (.tuple ds) = true ∧ Q (.bl (if neg then !(ds.any fun z => PyData.eqv z d) else ds.any fun z => PyData.eqv z d)) H
theorem op_inT (hu : X.A.units + 65 < cLine) : OpR X (compareOp .In) (rInT X.K false) := by
  intro pins s σ H x y v u Q I rx ry h
  obtain ⟨d, ds, hd, he, sd, se, q⟩ := h
  obtain ⟨as, r1⟩ := Dp.reads I d x v hd rx
  obtain ⟨bs, r2⟩ := Dp.reads I (.tuple ds) y u he ry
  exact SeqAt.in_tuple_reads r2 r1 (SeqAt.canLay_of_shaped se) (SeqAt.canLay_of_shaped sd) (room_in_shaped sd hu) ⟨.bl _, H, I, rfl, q⟩
theorem op_notInT (hu : X.A.units + 65 < cLine) : OpR X (compareOp .NotIn) (rInT X.K true) := by
  intro pins s σ H x y v u Q I rx ry h
  obtain ⟨d, ds, hd, he, sd, se, q⟩ := h
  obtain ⟨as, r1⟩ := Dp.reads I d x v hd rx
  obtain ⟨bs, r2⟩ := Dp.reads I (.tuple ds) y u he ry
  exact SeqAt.notIn_tuple_reads r2 r1 (SeqAt.canLay_of_shaped se) (SeqAt.canLay_of_shaped sd) (room_in_shaped sd hu) ⟨.bl _, H, I, rfl, q⟩
theorem mulTup0 (l : Addr) (items : Array Value) (n : Nat) (dd : Option Addr) (sl : Array (Option Value)) (u : Tok) (hi : items.isEmpty = false) :
    Meets (Builtin.«tuple.__mul__» ⟨[.ref l, .int 0 u], []⟩) (fun _ R s => s.heap.get? l = some { cls := .type "tuple", dict := dd, data := .seq items n, slots := sl } ∧
      R (.ok (.ret (Value.ref s.heap.objs.size))) { s with heap := s.heap.push { cls := Value.type "tuple", data := Data.seq #[] }, toks := s.toks }) :=
  .of_wp fun prog w A R s h => by
    obtain ⟨hp, g, d, tk, os⟩ := s
    obtain ⟨hl, h⟩ := h
    have f1 := AutoSeq1.idx_int
    wp_walk using wpAny_loadPart' hl
    repeat (first
      | (refine wpAny_ite_false (by decide) ?_; wp_walk using wpAny_loadPart' hl)
      | (refine wpAny_ite_false (decide_eq_false (by rw [hi]; decide)) ?_; wp_walk using wpAny_loadPart' hl)
      | (refine wpAny_ite_true (by decide) ?_; wp_walk using wpAny_loadPart' hl))
    exact ⟨_, rfl, h⟩
theorem mulTup1 (l : Addr) (items : Array Value) (n : Nat) (dd : Option Addr) (sl : Array (Option Value)) (u : Tok) (hi : items.isEmpty = false) :
    Meets (Builtin.«tuple.__mul__» ⟨[.ref l, .int 1 u], []⟩) (fun _ R s => s.heap.get? l = some { cls := .type "tuple", dict := dd, data := .seq items n, slots := sl } ∧ R (.ok (.ret (Value.ref l))) s) :=
  .of_wp fun prog w A R s h => by
    obtain ⟨hp, g, d, tk, os⟩ := s
    obtain ⟨hl, h⟩ := h
    have f1 := AutoSeq1.idx_int
    wp_walk using wpAny_loadPart' hl
    repeat (first
      | (refine wpAny_ite_false (by decide) ?_; wp_walk using wpAny_loadPart' hl)
      | (refine wpAny_ite_true (by rw [hi]; decide) ?_; wp_walk using wpAny_loadPart' hl)
      | (refine wpAny_ite_true (by decide) ?_; wp_walk using wpAny_loadPart' hl))
    exact ⟨_, rfl, h⟩
/-- tuple * int, any count from 0 on -/
def rRepA (K : PySem.W.Frag) : R2 := fun x y H Q => ∃ (l : Addr) (k : Nat) (xs : List V), x = .ref l ∧ y = .int (k : Int) ∧ SqT K H l xs ∧ xs ≠ [] ∧ k ≤ 1000 ∧ xs.length ≤ 1000 ∧ ∀ p H', Same H H' → SqT K H' p (List.replicate k xs).flatten → Q (.ref p) H'
theorem same_upd {H : Hp} {p : Addr} {o : HO} (h : H p = none) : Same H (upd H p o) := fun b x e => by
  rw [upd_ne (ne_of_none e h)]
  exact e
theorem op_repA : OpR X (binaryOp .Mult) (rRepA X.K) := by
  intro pins s σ H x y v u Q I rx ry h
  obtain ⟨l, k, xs, rfl, rfl, hT, hne, hk, hz, q⟩ := h
  by_cases h2 : 2 ≤ k
  · exact op_repT pins s σ H (.ref l) (.int k) v u Q I rx ry ⟨l, k, xs, rfl, rfl, hT, hne, by omega, by omega, hz, fun p np => q p _ (same_upd np) (.inl (.inl (by
      rw [upd_same]
      rfl)))⟩
  · cases rx
    obtain ⟨t, rfl⟩ := ry
    obtain ⟨its, r, ⟨⟨cls, dd, data, sl⟩, ho, hc, n, hd⟩, hs⟩ := I.tuple hT
    simp only at hc hd
    subst hc hd
    have hi : its.toArray.isEmpty = false := by
      cases its with
      | nil =>
        cases r
        exact absurd rfl hne
      | cons a b => rfl
    have k01 : k = 0 ∨ k = 1 := by omega
    rcases k01 with rfl | rfl
    · refine wpAny_binaryOp_repeat_ref (T := "tuple") (U := "int") (by decide) ⟨_, ho, rfl⟩ (fun s' => typeIs_int s' _ t) noFill_tuple_mul F.fills_int_mul F.slot_int_rmul repeat_tuple F.slot_int_index.lookup
        (call_meets F.slot_int_rmul (typeIs_int s _ t) F.entry_int_rmul (F.args_int_rmul_2 _ _) (int_rmul_tuple _ t l its.toArray n dd sl)
          ⟨ho, rfl, ⟨_, ho, rfl⟩, call_meets F.slot_tuple_mul ⟨_, ho, rfl⟩ F.entry_tuple_mul (F.args_tuple_mul_2 _ _) (mulTup0 l its.toArray n dd sl t hi) ⟨ho, ?_⟩⟩)
      have np : H s.heap.objs.size = none := I.hok.fresh (Nat.le_refl _)
      exact ⟨.ref _, upd H s.heap.objs.size (.tup []), I.laid (t' := s.toks) (fun b o e => Heap.get?_push_of_some _ e) (Nat.le_refl _) ⟨Nat.zero_le _, [], .nil, _, Heap.get?_push_size _ rfl, rfl, 0, rfl⟩, rfl, q _ _ (same_upd np) (.inl (.inl upd_same))⟩
    · refine wpAny_binaryOp_repeat_ref (T := "tuple") (U := "int") (by decide) ⟨_, ho, rfl⟩ (fun s' => typeIs_int s' _ t) noFill_tuple_mul F.fills_int_mul F.slot_int_rmul repeat_tuple F.slot_int_index.lookup
        (call_meets F.slot_int_rmul (typeIs_int s _ t) F.entry_int_rmul (F.args_int_rmul_2 _ _) (int_rmul_tuple _ t l its.toArray n dd sl)
          ⟨ho, rfl, ⟨_, ho, rfl⟩, call_meets F.slot_tuple_mul ⟨_, ho, rfl⟩ F.entry_tuple_mul (F.args_tuple_mul_2 _ _) (mulTup1 l its.toArray n dd sl t hi) ⟨ho, ?_⟩⟩)
      exact ⟨.ref l, H, I, rfl, q l H (.refl H) (by
        show SqT X.K H l ([xs].flatten)
        rw [List.flatten_singleton]
        exact hT)⟩
end
/-! ### data that stays -/
theorem Same.sqT {K : PySem.W.Frag} {H H' : Hp} {a : Addr} {xs : List V} (e : Same H H') (h : SqT K H a xs) : SqT K H' a xs := by
  rcases h with (h | ⟨o, h⟩) | h
  · exact .inl (.inl (e _ _ h))
  · exact .inl (.inr ⟨o, e _ _ h⟩)
  · exact .inr h
/-- all but lists is as it was -/
def Stay (H H' : Hp) : Prop := ∀ b o, (∀ xs, o ≠ .lst xs) → H b = some o → H' b = some o
theorem Stay.of {H H' : Hp} (e : Same H H') : Stay H H' := fun b o _ h => e b o h
theorem Stay.trans {H H1 H2 : Hp} (a : Stay H H1) (b : Stay H1 H2) : Stay H H2 := fun c o n h => b c o n (a c o n h)
theorem Stay.sqT {K : PySem.W.Frag} {H H' : Hp} {a : Addr} {xs : List V} (e : Stay H H') (h : SqT K H a xs) : SqT K H' a xs := by
  rcases h with (h | ⟨o, h⟩) | h
  · exact .inl (.inl (e _ _ (fun _ z => by cases z) h))
  · exact .inl (.inr ⟨o, e _ _ (fun _ z => by cases z) h⟩)
  · exact .inr h
mutual
/-- data without lists -/
def noL : PyData → Bool
  | .list _ => false
  | .tuple ds => noLs ds
  | _ => true
def noLs : List PyData → Bool
  | [] => true
  | d :: r => noL d && noLs r
end
mutual
theorem Dp.stay {K : PySem.W.Frag} {H H' : Hp} (e : Stay H H') : ∀ {v : V} {d : PyData}, noL d = true → Dp K H v d → Dp K H' v d
  | _, _, _, .non => .non
  | _, _, _, .bl b => .bl b
  | _, _, _, .int i => .int i
  | _, _, _, .str x => .str x
  | _, _, n, .lst _ _ => by cases n
  | _, _, n, .tup h r => .tup (e.sqT h) (DpAll.stay e n r)
theorem DpAll.stay {K : PySem.W.Frag} {H H' : Hp} (e : Stay H H') : ∀ {vs : List V} {ds : List PyData}, noLs ds = true → DpAll K H vs ds → DpAll K H' vs ds
  | _, _, _, .nil => .nil
  | _, _, n, .cons h r => by
    have n2 := Bool.and_eq_true_iff.mp (show (noL _ && noLs _) = true from n)
    exact .cons (Dp.stay e n2.1 h) (DpAll.stay e n2.2 r)
end
theorem DpAll.get {K : PySem.W.Frag} {H : Hp} : ∀ {vs : List V} {ds : List PyData}, DpAll K H vs ds → ∀ {i : Nat} {v : V}, vs[i]? = some v → ∃ d, ds[i]? = some d ∧ Dp K H v d
  | _, _, .nil, i, v, h => by simp at h
  | _, _, .cons h r, 0, v, e => ⟨_, rfl, by
      rw [← Option.some.inj e]
      exact h⟩
  | _, _, .cons h r, i + 1, v, e => DpAll.get r e
theorem DpAll.put {K : PySem.W.Frag} {H : Hp} : ∀ {vs : List V} {ds : List PyData}, DpAll K H vs ds → ∀ {i : Nat} {d : PyData}, ds[i]? = some d → ∃ v, vs[i]? = some v ∧ Dp K H v d
  | _, _, .nil, i, v, h => by simp at h
  | _, _, .cons h r, 0, v, e => ⟨_, rfl, by
      rw [← Option.some.inj e]
      exact h⟩
  | _, _, .cons h r, i + 1, v, e => DpAll.put r e
theorem DpAll.len {K : PySem.W.Frag} {H : Hp} : ∀ {vs : List V} {ds : List PyData}, DpAll K H vs ds → vs.length = ds.length
  | _, _, .nil => rfl
  | _, _, .cons _ r => congrArg (· + 1) (DpAll.len r)
theorem DpAll.app {K : PySem.W.Frag} {H : Hp} : ∀ {vs : List V} {ds : List PyData}, DpAll K H vs ds → ∀ {ws es}, DpAll K H ws es → DpAll K H (vs ++ ws) (ds ++ es)
  | _, _, .nil, _, _, r => r
  | _, _, .cons h r, _, _, r2 => .cons h (DpAll.app r r2)
theorem DpAll.drop {K : PySem.W.Frag} {H : Hp} : ∀ (n : Nat) {vs : List V} {ds : List PyData}, DpAll K H vs ds → DpAll K H (vs.drop n) (ds.drop n)
  | 0, _, _, r => r
  | n + 1, _, _, .nil => .nil
  | n + 1, _, _, .cons _ r => DpAll.drop n r
theorem ty_tup {K : PySem.W.Frag} {H : Hp} {a : Addr} {xs : List V} (h : SqT K H a xs) : TyX K H (.ref a) (.type "tuple") := by
  rcases h with (h | ⟨o, h⟩) | ⟨o, its, n, h, c, _⟩
  · exact .base (.tup h)
  · exact .fTuple h
  · exact .kTuple h c
theorem eqv_tnil (d : PyData) (ds : List PyData) : PyData.eqv (.tuple (d :: ds)) (.tuple []) = false := rfl
end FS

set_option Elab.async false
set_option linter.all false
set_option maxRecDepth 100000
set_option maxHeartbeats 4000000
namespace FS
open PySem PySem.Spec PyProof.Rows L2
/-! ### terms and wraps -/
inductive Hd
  | deed (w : Str) (t : List (Option Nat))
  | seq
  | alt
  | run (x : Str)
  | call (n : Str)
  | wrp
  | own (x : Str)
  | wth (n : Str)
inductive Tm
  | mk (h : Hd) (ks : List Tm)
def Tm.hd : Tm → Hd
  | .mk h _ => h
def Tm.kids : Tm → List Tm
  | .mk _ ks => ks
def entryD : Option Nat → PyData
  | none => .none
  | some n => .int n
def Hd.tag : Hd → Str
  | .deed _ _ => "do"
  | .seq => "seq"
  | .alt => "or"
  | .run _ => "run"
  | .call _ => "call"
  | .wrp => "wrap"
  | .own _ => "own"
  | .wth _ => "with"
def Hd.rest : Hd → List PyData
  | .deed w t => [.str w, .tuple (t.map entryD)]
  | .run x => [.str x]
  | .call n => [.str n]
  | .own x => [.str x]
  | .wth n => [.str n]
  | _ => []
mutual
def Tm.data : Tm → PyData
  | .mk h ks => .tuple (.str h.tag :: (h.rest ++ datas ks))
def datas : List Tm → List PyData
  | [] => []
  | t :: r => t.data :: datas r
end
theorem datas_map : ∀ ks : List Tm, datas ks = ks.map Tm.data
  | [] => rfl
  | t :: r => by
    show t.data :: datas r = t.data :: r.map Tm.data
    rw [datas_map r]
theorem datas_app (a b : List Tm) : datas (a ++ b) = datas a ++ datas b := by
  rw [datas_map, datas_map, datas_map, List.map_append]
theorem datas_len (ks : List Tm) : (datas ks).length = ks.length := by
  rw [datas_map, List.length_map]
mutual
/-- a term and all that are in it, in the order in which they begin -/
def Tm.all : Tm → List Tm
  | .mk h ks => .mk h ks :: alls ks
def alls : List Tm → List Tm
  | [] => []
  | t :: r => t.all ++ alls r
end
theorem all_eq (t : Tm) : t.all = t :: alls t.kids := by
  cases t
  rfl
def Tm.count (t : Tm) : Nat := t.all.length
def counts (ks : List Tm) : Nat := (alls ks).length
theorem count_eq (t : Tm) : t.count = 1 + counts t.kids := by
  unfold Tm.count
  rw [all_eq]
  show counts t.kids + 1 = _
  omega
theorem counts_cons (t : Tm) (r : List Tm) : counts (t :: r) = t.count + counts r := by
  show (t.all ++ alls r).length = _
  rw [List.length_append]
  rfl
theorem counts_app (a b : List Tm) : counts (a ++ b) = counts a + counts b := by
  induction a with
  | nil => simp [counts, alls]
  | cons t r ih =>
    rw [List.cons_append, counts_cons, counts_cons, ih]
    omega
mutual
def Tm.deep : Tm → Nat
  | .mk _ ks => deeps ks + 1
def deeps : List Tm → Nat
  | [] => 0
  | t :: r => max t.deep (deeps r)
end
theorem deeps_mem : ∀ {ks : List Tm} {t : Tm}, t ∈ ks → t.deep ≤ deeps ks
  | u :: r, t, h => by
    show t.deep ≤ max u.deep (deeps r)
    rcases List.mem_cons.mp h with rfl | h
    · omega
    · have := deeps_mem h
      omega
theorem deep_kid {t u : Tm} (h : u ∈ t.kids) : u.deep < t.deep := by
  cases t with
  | mk hd ks =>
    have := deeps_mem (show u ∈ ks from h)
    show u.deep < deeps ks + 1
    omega
def Hd.isW : Hd → Bool
  | .own _ => true
  | .wth _ => true
  | _ => false
def Tm.isW (t : Tm) : Bool := t.hd.isW
def kd (b : Bool) : Str := if b then "wrap" else "block"
/-- a name -/
def sgn (c : Nat) : Bool := !decide (([c] : List Nat) < ("a" : Str).cps.toList) && !decide (("z" : Str).cps.toList < [c])
def wordB (z : Str) : Bool := decide (1 ≤ (z.length : Int) ∧ (z.length : Int) ≤ 8) && z.cps.toList.all sgn
/-- what can stand at the head of a term, with some parameters -/
def Hd.ok (own : List (Str × Bool)) : Hd → Nat → Bool
  | .deed w t, n => wordB w && decide (1 ≤ t.length ∧ t.length ≤ 3) && t.all (fun e => match e with | none => true | some n => decide (n < 3)) && decide (n = 0)
  | .seq, _ => true
  | .alt, n => decide (0 < n)
  | .run x, n => decide ((x, false) ∈ own) && decide (n = 0)
  | .call m, _ => wordB m
  | .wrp, n => decide (n = 2)
  | .own x, n => decide ((x, true) ∈ own) && decide (n = 0)
  | .wth m, _ => wordB m
/-- which kinds the kids may have -/
def Hd.kidsOk : Hd → List Bool → Bool
  | .wrp, ks => decide (ks = [true, false])
  | .call _, _ => true
  | .wth _, _ => true
  | _, ks => ks.all (! ·)
/-- a term (or wrap) that is one by its form -/
inductive Good (own : List (Str × Bool)) : Tm → Prop
  | mk {h : Hd} {ks : List Tm} (ok : h.ok own ks.length = true) (kk : h.kidsOk (ks.map Tm.isW) = true) (kids : ∀ t ∈ ks, Good own t) : Good own (.mk h ks)
/-! ### its data can be looked at -/
theorem sgn_asc {c : Nat} (h : sgn c = true) : c < 128 := by
  unfold sgn at h
  obtain ⟨_, h2⟩ := Bool.and_eq_true_iff.mp h
  have h3 : ¬ (("z" : Str).cps.toList < [c]) := by simpa using h2
  have e : ("z" : Str).cps.toList = [122] := by decide +kernel
  rw [e] at h3
  by_cases l : 122 < c
  · exact absurd (List.Lex.rel l) h3
  · omega
theorem word_ok {z : Str} (h : wordB z = true) : PyData.strOk z = true ∧ z.length ≤ 8 := by
  obtain ⟨h1, h2⟩ := Bool.and_eq_true_iff.mp h
  have h3 := of_decide_eq_true h1
  refine ⟨?_, by omega⟩
  unfold PyData.strOk
  rw [← Array.all_toList]
  refine List.all_eq_true.mpr fun c hc => decide_eq_true ?_
  have := sgn_asc (List.all_eq_true.mp h2 c hc)
  omega
end FS

set_option Elab.async false
set_option linter.all false
set_option maxRecDepth 100000
set_option maxHeartbeats 4000000
namespace FS
open PySem PySem.Spec PyProof.Rows L2
theorem entries_plain : ∀ t : List (Option Nat), noLs (t.map entryD) = true ∧ PyData.canLayAll0 (t.map entryD) = true ∧ PyData.depthAll (t.map entryD) = 0
  | [] => ⟨rfl, rfl, rfl⟩
  | none :: r => entries_plain r
  | some n :: r => by
    obtain ⟨h1, h2, h3⟩ := entries_plain r
    refine ⟨h1, h2, ?_⟩
    show max 0 (PyData.depthAll (r.map entryD)) = 0
    rw [h3]
    rfl
theorem noLs_app : ∀ (a b : List PyData), noLs (a ++ b) = (noLs a && noLs b)
  | [], b => rfl
  | d :: r, b => by
    show (noL d && noLs (r ++ b)) = ((noL d && noLs r) && noLs b)
    rw [noLs_app r b, Bool.and_assoc]
theorem lay_app : ∀ (a b : List PyData), PyData.canLayAll0 (a ++ b) = (PyData.canLayAll0 a && PyData.canLayAll0 b)
  | [], b => rfl
  | d :: r, b => by
    show (PyData.canLay0 d && PyData.canLayAll0 (r ++ b)) = ((PyData.canLay0 d && PyData.canLayAll0 r) && PyData.canLayAll0 b)
    rw [lay_app r b, Bool.and_assoc]
theorem depth_app : ∀ (a b : List PyData), PyData.depthAll (a ++ b) = max (PyData.depthAll a) (PyData.depthAll b)
  | [], b => by
    show _ = max 0 _
    simp
  | d :: r, b => by
    show max (PyData.depth d) (PyData.depthAll (r ++ b)) = max (max (PyData.depth d) (PyData.depthAll r)) (PyData.depthAll b)
    rw [depth_app r b]
    omega
theorem rest_plain (h : Hd) : noLs h.rest = true ∧ PyData.depthAll h.rest ≤ 1 := by
  cases h with
  | deed w t =>
    obtain ⟨h1, _, h3⟩ := entries_plain t
    refine ⟨?_, ?_⟩
    · show (true && ((noLs (t.map entryD)) && true)) = true
      rw [h1]
      rfl
    · show max 0 (max (PyData.depthAll (t.map entryD) + 1) 0) ≤ 1
      rw [h3]
      decide
  | seq => exact ⟨rfl, Nat.zero_le _⟩
  | alt => exact ⟨rfl, Nat.zero_le _⟩
  | run x => exact ⟨rfl, Nat.zero_le _⟩
  | call n => exact ⟨rfl, Nat.zero_le _⟩
  | wrp => exact ⟨rfl, Nat.zero_le _⟩
  | own x => exact ⟨rfl, Nat.zero_le _⟩
  | wth n => exact ⟨rfl, Nat.zero_le _⟩
mutual
theorem Tm.noL : ∀ t : Tm, FS.noL t.data = true
  | .mk h ks => by
    show (true && noLs (h.rest ++ datas ks)) = true
    rw [noLs_app, (rest_plain h).1, noL_datas ks]
    rfl
theorem noL_datas : ∀ ks : List Tm, noLs (datas ks) = true
  | [] => rfl
  | t :: r => by
    show (FS.noL t.data && noLs (datas r)) = true
    rw [Tm.noL t, noL_datas r]
    rfl
end
mutual
theorem Tm.depth : ∀ t : Tm, t.data.depth ≤ t.deep + 1
  | .mk h ks => by
    show max 0 (PyData.depthAll (h.rest ++ datas ks)) + 1 ≤ (deeps ks + 1) + 1
    rw [depth_app]
    have h1 := (rest_plain h).2
    have h2 := depth_datas ks
    omega
theorem depth_datas : ∀ ks : List Tm, PyData.depthAll (datas ks) ≤ deeps ks + 1
  | [] => Nat.zero_le _
  | t :: r => by
    show max t.data.depth (PyData.depthAll (datas r)) ≤ max t.deep (deeps r) + 1
    have h1 := Tm.depth t
    have h2 := depth_datas r
    omega
end
/-- what parameters must be -/
structure ParOk (own : List (Str × Bool)) : Prop where
  few : own.length ≤ 3
  nms : ∀ p ∈ own, wordB p.1 = true
  nd : (own.map (·.1)).Nodup
theorem tag_ok (h : Hd) : PyData.strOk h.tag = true := by
  cases h with
  | deed w t => exact (show PyData.strOk "do" = true by decide +kernel)
  | seq => exact (show PyData.strOk "seq" = true by decide +kernel)
  | alt => exact (show PyData.strOk "or" = true by decide +kernel)
  | run x => exact (show PyData.strOk "run" = true by decide +kernel)
  | call n => exact (show PyData.strOk "call" = true by decide +kernel)
  | wrp => exact (show PyData.strOk "wrap" = true by decide +kernel)
  | own x => exact (show PyData.strOk "own" = true by decide +kernel)
  | wth n => exact (show PyData.strOk "with" = true by decide +kernel)
theorem rest_lay {own : List (Str × Bool)} {h : Hd} {n : Nat} (po : ∀ p ∈ own, wordB p.1 = true) (ok : h.ok own n = true) : PyData.canLayAll0 h.rest = true := by
  cases h with
  | deed w t =>
    have h1 := (Bool.and_eq_true_iff.mp (Bool.and_eq_true_iff.mp (Bool.and_eq_true_iff.mp ok).1).1).1
    show (PyData.strOk w && (PyData.canLayAll0 (t.map entryD) && true)) = true
    rw [(word_ok h1).1, (entries_plain t).2.1]
    rfl
  | run x =>
    have h1 := of_decide_eq_true (Bool.and_eq_true_iff.mp ok).1
    show (PyData.strOk x && true) = true
    rw [(word_ok (po _ h1)).1]
    rfl
  | own x =>
    have h1 := of_decide_eq_true (Bool.and_eq_true_iff.mp ok).1
    show (PyData.strOk x && true) = true
    rw [(word_ok (po _ h1)).1]
    rfl
  | call n =>
    show (PyData.strOk n && true) = true
    rw [(word_ok (show wordB n = true from ok)).1]
    rfl
  | wth n =>
    show (PyData.strOk n && true) = true
    rw [(word_ok (show wordB n = true from ok)).1]
    rfl
  | seq => rfl
  | alt => rfl
  | wrp => rfl
theorem lay_all : ∀ ds : List PyData, (∀ d ∈ ds, d.canLay0 = true) → PyData.canLayAll0 ds = true
  | [], _ => rfl
  | d :: r, h => by
    show (PyData.canLay0 d && PyData.canLayAll0 r) = true
    rw [h d List.mem_cons_self, lay_all r fun x hx => h x (List.mem_cons_of_mem _ hx)]
    rfl
theorem Good.lay {own : List (Str × Bool)} (po : ∀ p ∈ own, wordB p.1 = true) {t : Tm} (g : Good own t) : t.data.canLay0 = true := by
  induction g with
  | @mk h ks ok kk kids ih =>
    show (PyData.strOk h.tag && PyData.canLayAll0 (h.rest ++ datas ks)) = true
    rw [tag_ok, lay_app, rest_lay po ok, datas_map]
    rw [lay_all (ks.map Tm.data) fun d hd => by
      obtain ⟨t, ht, rfl⟩ := List.mem_map.mp hd
      exact ih t ht]
    rfl
theorem Good.shaped {own : List (Str × Bool)} (po : ∀ p ∈ own, wordB p.1 = true) {t : Tm} (g : Good own t) (hd : t.deep ≤ 60) : SeqAt.shaped t.data = true := by
  unfold SeqAt.shaped
  rw [g.lay po, decide_eq_true (by have := t.depth; omega)]
  rfl
theorem Good.kid {own : List (Str × Bool)} {t u : Tm} (g : Good own t) (h : u ∈ t.kids) : Good own u := by
  cases g with
  | mk ok kk kids => exact kids u h
/-- the parameters as data -/
def parD (p : Str × Bool) : PyData := .tuple [.str p.1, .str (kd p.2)]
def parsD (own : List (Str × Bool)) : PyData := .tuple (own.map parD)
theorem kd_inj {a b : Bool} (h : kd a = kd b) : a = b := by
  cases a <;> cases b <;> first | rfl | exact absurd h (by decide +kernel)
theorem eqv_pair (a b c d : Str) : PyData.eqv (.tuple [.str a, .str b]) (.tuple [.str c, .str d]) = (a == c && b == d) := by
  simp [PyData.eqv, PyData.eqvAll]
theorem any_par (own : List (Str × Bool)) (x : Str) (k : Bool) : ((own.map parD).any fun z => PyData.eqv z (parD (x, k))) = decide ((x, k) ∈ own) := by
  induction own with
  | nil => rfl
  | cons p r ih =>
    rw [List.map_cons, List.any_cons, ih]
    have e : PyData.eqv (parD p) (parD (x, k)) = decide (p = (x, k)) := by
      show PyData.eqv (.tuple [.str p.1, .str (kd p.2)]) (.tuple [.str x, .str (kd k)]) = _
      rw [eqv_pair]
      obtain ⟨y, j⟩ := p
      by_cases e : (y, j) = (x, k)
      · cases e
        simp
      · rw [decide_eq_false e]
        refine Bool.eq_false_iff.mpr fun z => e ?_
        obtain ⟨h1, h2⟩ := Bool.and_eq_true_iff.mp z
        rw [show y = x from beq_iff_eq.mp h1, show j = k from kd_inj (beq_iff_eq.mp h2)]
    rw [e]
    by_cases e1 : p = (x, k)
    · simp [e1]
    · have e2 : ¬ (x, k) = p := fun z => e1 z.symm
      simp [e1, e2]
theorem pars_shaped {own : List (Str × Bool)} (po : ParOk own) : SeqAt.shaped (parsD own) = true := by
  have h1 : PyData.canLayAll0 (own.map parD) = true := lay_all _ fun d hd => by
    obtain ⟨p, hp, rfl⟩ := List.mem_map.mp hd
    show (PyData.strOk p.1 && (PyData.strOk (kd p.2) && true)) = true
    rw [(word_ok (po.nms p hp)).1]
    cases p.2 <;> decide +kernel
  have h2 : ∀ l : List (Str × Bool), PyData.depthAll (l.map parD) ≤ 1 := fun l => by
    induction l with
    | nil => exact Nat.zero_le _
    | cons p r ih =>
      show max (max 0 (max 0 0) + 1) (PyData.depthAll (r.map parD)) ≤ 1
      omega
  unfold SeqAt.shaped
  rw [show PyData.canLay0 (parsD own) = true from h1, decide_eq_true (show PyData.depth (parsD own) ≤ 64 by
    show PyData.depthAll (own.map parD) + 1 ≤ 64
    have := h2 own
    omega)]
  rfl
theorem par_shaped {x : Str} (k : Bool) (h : PyData.strOk x = true) : SeqAt.shaped (parD (x, k)) = true := by
  have h1 : PyData.canLay0 (parD (x, k)) = true := by
    show (PyData.strOk x && (PyData.strOk (kd k) && true)) = true
    rw [h]
    cases k <;> decide +kernel
  unfold SeqAt.shaped
  rw [h1]
  rfl
theorem pars_noL (own : List (Str × Bool)) : noL (parsD own) = true := by
  show noLs (own.map parD) = true
  induction own with
  | nil => rfl
  | cons p r ih => exact ih
end FS

set_option Elab.async false
set_option linter.all false
set_option maxRecDepth 100000
set_option maxHeartbeats 4000000
namespace FS
open PySem PySem.Spec PyProof.Rows L2
structure Cal (P : Program) (w : World) (K : PySem.W.Frag) (mg : Str → Option Value) (base : Heap) (k : Nat) (x : Str) (ps : List Str) (sp : Sp) : Prop where
  ex : ∃ (f : Addr) (fd : FuncData), FnOk P w K mg base CX0 k f fd ps sp ∧ mg x = some (.ref f) ∧ PySem.W.keepIn K (.ref f) = true ∧ Binds K fd ps []
theorem pe_own {X : Cx} {x : Str} {k : Nat} {ps : List Str} {sp : Sp} {e : Expr} {es : List Expr} {t : TA} {p pos : Pos} (C : Cal X.prog X.w X.K X.mg X.base k x ps sp) (hr : Room k X.A) (hg : Gl X x) (ha : PA X (e :: es) t) (hdb : (x == ("__debug__" : Str)) = false := by decide)
    (he : starEach (e :: es) X.env = (false, eval e X.env) :: starEach es X.env := by rfl) (hpl : (backTo pos (starEach es X.env)).any (·.1) = false := by rfl) : PE X (.Call (.Name x p) (e :: es) [] pos) (tCall sp [] E0 t) := by
  obtain ⟨f, fd, F, m, kp, b⟩ := C.ex
  exact pe_call F hr hg m kp b .nil pass0 ha hdb he hpl
/-- a constant tuple of the module -/
def TupC (K : PySem.W.Frag) (mg : Str → Option Value) (x : Str) (ys : List Str) : Prop := ∃ a, mg x = some (.ref a) ∧ ∀ H, SqT K H a (ys.map V.str)
/-- what the module's names are -/
structure Nm (K : PySem.W.Frag) (mg : Str → Option Value) : Prop where
  b_isinstance : mg "isinstance" = none
  b_str : mg "str" = none
  b_tuple : mg "tuple" = none
  b_list : mg "list" = none
  b_bool : mg "bool" = none
  b_len : mg "len" = none
  b_all : mg "all" = none
  b_int : mg "int" = none
  b_abs : mg "abs" = none
  b_max : mg "max" = none
  b_min : mg "min" = none
  b_range : mg "range" = none
  b_zip : mg "zip" = none
  b_sorted : mg "sorted" = none
  b_set : mg "set" = none
theorem Stay.refl (H : Hp) : Stay H H := fun _ _ _ h => h
/-- v is the term t -/
structure TmAt (K : PySem.W.Frag) (H : Hp) (own : List (Str × Bool)) (v : V) (t : Tm) : Prop where
  dp : Dp K H v t.data
  good : Good own t
  po : ParOk own
  low : t.deep ≤ 60
theorem TmAt.stay {K : PySem.W.Frag} {H H' : Hp} {own : List (Str × Bool)} {v : V} {t : Tm} (a : TmAt K H own v t) (e : Stay H H') : TmAt K H' own v t := ⟨Dp.stay e t.noL a.dp, a.good, a.po, a.low⟩
theorem TmAt.same {K : PySem.W.Frag} {H H' : Hp} {own : List (Str × Bool)} {v : V} {t : Tm} (a : TmAt K H own v t) (e : Same H H') : TmAt K H' own v t := a.stay (.of e)
theorem DpAll.split {K : PySem.W.Frag} {H : Hp} : ∀ {ds es : List PyData} {vs : List V}, DpAll K H vs (ds ++ es) → ∃ us ws, vs = us ++ ws ∧ DpAll K H us ds ∧ DpAll K H ws es
  | [], es, vs, r => ⟨[], vs, rfl, .nil, r⟩
  | d :: ds, es, _, .cons h r => by
    obtain ⟨us, ws, rfl, h1, h2⟩ := DpAll.split r
    exact ⟨_ :: us, ws, rfl, .cons h h1, h2⟩
theorem Dp.tup_inv {K : PySem.W.Frag} {H : Hp} {v : V} {ds : List PyData} (h : Dp K H v (.tuple ds)) : ∃ a xs, v = .ref a ∧ SqT K H a xs ∧ DpAll K H xs ds := by
  cases h with
  | tup s r => exact ⟨_, _, rfl, s, r⟩
theorem Dp.str_inv {K : PySem.W.Frag} {H : Hp} {v : V} {x : Str} (h : Dp K H v (.str x)) : v = .str x := by
  cases h
  rfl
theorem tm_open {K : PySem.W.Frag} {H : Hp} {v : V} {h : Hd} {ks : List Tm} (d : Dp K H v (Tm.mk h ks).data) : ∃ a rs kv, v = .ref a ∧ SqT K H a (V.str h.tag :: (rs ++ kv)) ∧ DpAll K H rs h.rest ∧ DpAll K H kv (datas ks) := by
  obtain ⟨a, xs, rfl, s, r⟩ := Dp.tup_inv (show Dp K H v (.tuple (.str h.tag :: (h.rest ++ datas ks))) from d)
  cases r with
  | cons h1 r =>
    cases Dp.str_inv h1
    obtain ⟨rs, kv, rfl, r1, r2⟩ := DpAll.split r
    exact ⟨a, rs, kv, rfl, s, r1, r2⟩
theorem inV_strs (x : Str) (ys : List Str) : inV (.str x) (ys.map V.str) = decide (x ∈ ys) := by
  unfold inV
  rw [List.any_map]
  induction ys with
  | nil => rfl
  | cons y r ih =>
    rw [List.any_cons, ih]
    have e : ((fun y => eqV y (V.str x)) ∘ V.str) y = decide (y = x) := by
      show eqV (V.str y) (V.str x) = _
      unfold eqV
      by_cases h : y = x <;> simp [h]
    rw [e]
    by_cases h : y = x
    · simp [h]
    · have h2 : ¬ x = y := fun z => h z.symm
      simp [h, h2]
theorem flat_strs (ys : List Str) : (ys.map V.str).all flatV = true := by
  rw [List.all_map]
  exact List.all_eq_true.mpr fun _ _ => rfl
theorem cut_from (xs : List V) (k : Nat) : cutV xs (some (k : Int)) none = xs.drop k := by
  unfold cutV
  rw [HT.sIx_nat, HT.sIx_none]
  by_cases h : k ≤ xs.length
  · rw [Nat.min_eq_left h]
    exact List.take_of_length_le (by rw [List.length_drop]; exact Nat.le_refl _)
  · have h2 : xs.length ≤ k := by omega
    rw [Nat.min_eq_right h2, List.drop_eq_nil_of_le (Nat.le_refl _), List.drop_eq_nil_of_le h2]
    simp
def Hd.leaf : Hd → Bool
  | .deed _ _ => true
  | .run _ => true
  | .own _ => true
  | _ => false
theorem Good.leaf {own : List (Str × Bool)} {h : Hd} {ks : List Tm} (g : Good own (.mk h ks)) (l : h.leaf = true) : ks = [] := by
  cases g with
  | mk ok kk kids =>
    refine List.eq_nil_of_length_eq_zero ?_
    cases h with
    | deed w t => exact of_decide_eq_true (Bool.and_eq_true_iff.mp ok).2
    | run x => exact of_decide_eq_true (Bool.and_eq_true_iff.mp ok).2
    | own x => exact of_decide_eq_true (Bool.and_eq_true_iff.mp ok).2
    | _ => cases l
/-! ### promises of the program's functions -/
def spKind (K : PySem.W.Frag) : Sp := fun vs H Q _ => ∃ (own : List (Str × Bool)) (v : V) (t : Tm), vs = [v] ∧ TmAt K H own v t ∧ ∀ H', Same H H' → Q (.str (kd t.isW)) H'
def spParts (K : PySem.W.Frag) : Sp := fun vs H Q _ => ∃ (own : List (Str × Bool)) (v : V) (t : Tm), vs = [v] ∧ Dp K H v t.data ∧ Good own t ∧ ∀ H' p kv, Same H H' → SqT K H' p kv → DpAll K H' kv (datas t.kids) → Q (.ref p) H'
def Hd.allow : Hd → Nat → List (List Bool)
  | .wrp, _ => [[true], [false]]
  | .call _, n => List.replicate n [false, true]
  | .wth _, n => List.replicate n [false, true]
  | _, n => List.replicate n [false]
def kindsD (bs : List Bool) : PyData := .tuple (bs.map fun b => .str (kd b))
def spKinds (K : PySem.W.Frag) : Sp := fun vs H Q _ => ∃ (own : List (Str × Bool)) (v : V) (t : Tm), vs = [v] ∧ Dp K H v t.data ∧ Good own t ∧ t.kids.length ≤ 100 ∧ ∀ H' p kv, Same H H' → SqT K H' p kv → DpAll K H' kv ((t.hd.allow t.kids.length).map kindsD) → Q (.ref p) H'
def spAll (K : PySem.W.Frag) (n : Nat) : Sp := fun vs H Q _ => ∃ (own : List (Str × Bool)) (v : V) (t : Tm), vs = [v] ∧ Dp K H v t.data ∧ Good own t ∧ t.deep ≤ n ∧ t.count ≤ 50000 ∧ ∀ H' p xs, Same H H' → H p = none → H' p = some (.lst xs) → DpAll K H' xs (datas t.all) → Q (.ref p) H'
def spInt : Sp := fun vs H Q _ => ∃ v, vs = [v] ∧ ((∃ i, v = .int i ∧ Q (.bl true) H) ∨ (v = .non ∧ Q (.bl false) H))
def spIntIn : Sp := fun vs H Q _ => ∃ i a b : Int, vs = [.int i, .int a, .int b] ∧ Q (.bl (decide (a ≤ i) && decide (i ≤ b))) H
def tableB (t : List (Option Nat)) : Bool := decide (1 ≤ t.length ∧ t.length ≤ 3) && t.all (fun e => match e with | none => true | some n => decide (n < 3))
def spTable (K : PySem.W.Frag) : Sp := fun vs H Q _ => ∃ (v : V) (t : List (Option Nat)), vs = [v] ∧ Dp K H v (.tuple (t.map entryD)) ∧ t.length ≤ 100 ∧ ∀ H', Same H H' → Q (.bl (tableB t)) H'
def spName : Sp := fun vs H Q _ => ∃ z : Str, vs = [.str z] ∧ z.length ≤ 1000 ∧ ∀ H', Same H H' → Q (.bl (wordB z)) H'
def spForm (K : PySem.W.Frag) : Sp := fun vs H Q _ => ∃ (own : List (Str × Bool)) (v w : V) (t : Tm), vs = [v, w] ∧ TmAt K H own v t ∧ Dp K H w (parsD own) ∧ ∀ H', Same H H' → Q (.bl true) H'
def spPar (K : PySem.W.Frag) : Sp := fun vs H Q _ => ∃ (v : V) (p : Str × Bool), vs = [v] ∧ Dp K H v (parD p) ∧ wordB p.1 = true ∧ ∀ H', Same H H' → Q (.bl true) H'
def spPars (K : PySem.W.Frag) : Sp := fun vs H Q _ => ∃ (v : V) (own : List (Str × Bool)), vs = [v] ∧ Dp K H v (parsD own) ∧ ParOk own ∧ ∀ H', Same H H' → Q (.bl true) H'
def spTerm (K : PySem.W.Frag) : Sp := fun vs H Q _ => ∃ (own : List (Str × Bool)) (v w : V) (t : Tm), vs = [v, w] ∧ TmAt K H own v t ∧ Dp K H w (parsD own) ∧ t.isW = false ∧ t.count ≤ 40 ∧ t.deep ≤ 6 ∧ ∀ H', Same H H' → Q (.bl true) H'
end FS

set_option Elab.async false
set_option linter.all false
set_option maxRecDepth 100000
set_option maxHeartbeats 4000000
namespace FS
open PySem PySem.Spec PyProof.Rows L2
def Hd.is3 : Hd → Bool
  | .seq => true
  | .alt => true
  | .wrp => true
  | _ => false
def Hd.is2 : Hd → Bool
  | .call _ => true
  | .wth _ => true
  | _ => false
theorem tag3 : ∀ h : Hd, decide (h.tag ∈ [("seq" : Str), "or", "wrap"]) = h.is3
  | .deed _ _ => (show decide (("do" : Str) ∈ [("seq" : Str), "or", "wrap"]) = false by decide +kernel)
  | .seq => (show decide (("seq" : Str) ∈ [("seq" : Str), "or", "wrap"]) = true by decide +kernel)
  | .alt => (show decide (("or" : Str) ∈ [("seq" : Str), "or", "wrap"]) = true by decide +kernel)
  | .run _ => (show decide (("run" : Str) ∈ [("seq" : Str), "or", "wrap"]) = false by decide +kernel)
  | .call _ => (show decide (("call" : Str) ∈ [("seq" : Str), "or", "wrap"]) = false by decide +kernel)
  | .wrp => (show decide (("wrap" : Str) ∈ [("seq" : Str), "or", "wrap"]) = true by decide +kernel)
  | .own _ => (show decide (("own" : Str) ∈ [("seq" : Str), "or", "wrap"]) = false by decide +kernel)
  | .wth _ => (show decide (("with" : Str) ∈ [("seq" : Str), "or", "wrap"]) = false by decide +kernel)
theorem tag2 : ∀ h : Hd, decide (h.tag ∈ [("call" : Str), "with"]) = h.is2
  | .deed _ _ => (show decide (("do" : Str) ∈ [("call" : Str), "with"]) = false by decide +kernel)
  | .seq => (show decide (("seq" : Str) ∈ [("call" : Str), "with"]) = false by decide +kernel)
  | .alt => (show decide (("or" : Str) ∈ [("call" : Str), "with"]) = false by decide +kernel)
  | .run _ => (show decide (("run" : Str) ∈ [("call" : Str), "with"]) = false by decide +kernel)
  | .call _ => (show decide (("call" : Str) ∈ [("call" : Str), "with"]) = true by decide +kernel)
  | .wrp => (show decide (("wrap" : Str) ∈ [("call" : Str), "with"]) = false by decide +kernel)
  | .own _ => (show decide (("own" : Str) ∈ [("call" : Str), "with"]) = false by decide +kernel)
  | .wth _ => (show decide (("with" : Str) ∈ [("call" : Str), "with"]) = true by decide +kernel)
/-- which head a tag is of, as a number -/
def Hd.num : Hd → Nat
  | .deed _ _ => 0
  | .seq => 1
  | .alt => 2
  | .run _ => 3
  | .call _ => 4
  | .wrp => 5
  | .own _ => 6
  | .wth _ => 7
def tags : List Str := ["do", "seq", "or", "run", "call", "wrap", "own", "with"]
theorem tag_num : ∀ h : Hd, h.tag = tags.getD h.num ""
  | .deed _ _ => rfl
  | .seq => rfl
  | .alt => rfl
  | .run _ => rfl
  | .call _ => rfl
  | .wrp => rfl
  | .own _ => rfl
  | .wth _ => rfl
theorem num_lt (h : Hd) : h.num < 8 := by
  cases h <;> (show (_ : Nat) < 8) <;> first | exact (show 0 < 8 by decide) | exact (show 1 < 8 by decide) | exact (show 2 < 8 by decide) | exact (show 3 < 8 by decide) | exact (show 4 < 8 by decide) | exact (show 5 < 8 by decide) | exact (show 6 < 8 by decide) | exact (show 7 < 8 by decide)
theorem tags_inj : ∀ i, i < 8 → ∀ j, j < 8 → ((tags.getD i "" == tags.getD j "") = decide (i = j)) := by decide +kernel
/-- h.tag == a tag -/
theorem tag_eq (h : Hd) {x : Str} {j : Nat} (hx : tags.getD j "" = x := by rfl) (hj : j < 8 := by decide) : (h.tag == x) = decide (h.num = j) := by
  rw [tag_num h, ← hx]
  exact tags_inj _ (num_lt h) _ hj
theorem tag_dec (h : Hd) {x : Str} {j : Nat} (hx : tags.getD j "" = x := by rfl) (hj : j < 8 := by decide) : decide (V.str h.tag = V.str x) = decide (h.num = j) := by
  rw [← tag_eq h hx hj]
  by_cases e : h.tag = x <;> simp [e]
theorem rep_flat {α : Type} (k : Nat) (x : α) : (List.replicate k [x]).flatten = List.replicate k x := by
  induction k with
  | zero => rfl
  | succ k ih =>
    rw [List.replicate_succ, List.flatten_cons, ih]
    rfl
theorem DpAll.rep {K : PySem.W.Frag} {H : Hp} {v : V} {d : PyData} (h : Dp K H v d) : ∀ k, DpAll K H (List.replicate k v) (List.replicate k d)
  | 0 => .nil
  | k + 1 => .cons h (DpAll.rep h k)
theorem Hd.rest0 {K : PySem.W.Frag} {H : Hp} {h : Hd} {rs : List V} (r : DpAll K H rs h.rest) (e : h.is3 = true) : rs = [] := by
  cases h with
  | seq => cases r; rfl
  | alt => cases r; rfl
  | wrp => cases r; rfl
  | _ => cases e
theorem Hd.rest1 {K : PySem.W.Frag} {H : Hp} {h : Hd} {rs : List V} (r : DpAll K H rs h.rest) (e : h.is2 = true) : ∃ x, rs = [.str x] := by
  cases h with
  | call n => cases r with | cons h1 r => cases r; cases Dp.str_inv h1; exact ⟨_, rfl⟩
  | wth n => cases r with | cons h1 r => cases r; cases Dp.str_inv h1; exact ⟨_, rfl⟩
  | _ => cases e
theorem Good.kids0 {own : List (Str × Bool)} {h : Hd} {ks : List Tm} (g : Good own (.mk h ks)) (e3 : h.is3 ≠ true) (e2 : h.is2 ≠ true) : ks = [] := by
  cases h with
  | deed w t => exact g.leaf rfl
  | run x => exact g.leaf rfl
  | own x => exact g.leaf rfl
  | seq => exact absurd rfl e3
  | alt => exact absurd rfl e3
  | wrp => exact absurd rfl e3
  | call n => exact absurd rfl e2
  | wth n => exact absurd rfl e2
theorem at0 {x : V} {l : List V} : atI (x :: l) 0 = some x := atI_nat (j := 0) rfl
theorem at1 {x y : V} {l : List V} : atI (x :: y :: l) 1 = some y := atI_nat (j := 1) rfl
theorem at2 {x y z : V} {l : List V} : atI (x :: y :: z :: l) 2 = some z := atI_nat (j := 2) rfl
/-- part[k:] -/
theorem cut_tup {K : PySem.W.Frag} {H : Hp} {a : Addr} {xs : List V} {k : Nat} {Q : V → Hp → Prop} (sq : SqT K H a xs) (hk : 0 < k) (hne : xs ≠ []) (q : ∀ H' p, Same H H' → SqT K H' p (xs.drop k) → Q (.ref p) H') :
    rSlA K (.ref a) (some (k : Int)) none H Q := by
  have h0 : HT.sIx xs.length 0 (some (k : Int)) ≠ 0 := by
    rw [HT.sIx_nat]
    have : 0 < xs.length := List.length_pos_iff.mpr hne
    omega
  refine ⟨a, xs, rfl, sq, fun z => absurd z.1 h0, fun _ p np => q _ p (same_upd np) (.inl (.inl ?_))⟩
  rw [upd_same, cut_from]
end FS

set_option Elab.async false
set_option linter.all false
set_option maxRecDepth 100000
set_option maxHeartbeats 4000000
namespace FS
open PySem PySem.Spec PyProof.Rows L2
theorem getE {α : Type} {l : Array α} {i : Nat} {c : α} (h : l[i]? = some c) : l.toList[i]? = some c := by
  rw [Array.getElem?_toList]
  exact h
theorem take_one {α β : Type} {l : List α} {i : Nat} {c : α} (f : α → β) (h : l[i]? = some c) : ((l.take (i + 1)).map f) = (l.take i).map f ++ [f c] := by
  rw [List.take_add_one, h, List.map_append]
  rfl
theorem all_map (l : List Nat) : (l.map sgn).all id = l.all sgn := by
  rw [List.all_map]
  rfl
theorem small1000 {n : Nat} (h : n < 1000) : n < sizeLine := Nat.lt_trans h (by decide)
theorem small16 {n : Nat} (h : n < 16000) : n < sizeLine := Nat.lt_trans h (by decide)
theorem u65 {k : Nat} {A : Around} (r : L2.Room k A) : A.units + 65 < cLine := by
  have := r.un
  omega
theorem Stay.set {H : Hp} {p : Addr} {xs ys : List V} (e : H p = some (.lst xs)) : Stay H (upd H p (.lst ys)) := fun b o n h => by
  rw [upd_ne (fun z => n xs (by
    subst z
    rw [h] at e
    exact Option.some.inj e))]
  exact h
/-- what is new may change -/
theorem Same.set {H H1 : Hp} {p : Addr} {o : HO} (s : Same H H1) (n : H p = none) : Same H (upd H1 p o) := fun b x e => by
  rw [upd_ne (ne_of_none e n)]
  exact s b x e
theorem ix_tupK {X : Cx} {K : PySem.W.Frag} (h : X.K = K) : IxR X (rIxT K) := by
  subst h
  exact ix_tup
theorem addS_new {xs : List Str} {z : Str} (h : z ∉ xs) : addS xs z = xs ++ [z] := if_neg h
theorem take_new {α : Type} {l : List α} {i : Nat} {x : α} (f : α → Str) (nd : (l.map f).Nodup) (h : l[i]? = some x) : f x ∉ (l.take i).map f := fun m => by
  have h2 : (l.map f)[i]? = some (f x) := by rw [List.getElem?_map, h]; rfl
  have e : l.map f = (l.take i).map f ++ (f x :: (l.drop (i + 1)).map f) := by
    have h3 : l = l.take i ++ (x :: l.drop (i + 1)) := by
      have lt := (List.getElem?_eq_some_iff.mp h).1
      have e4 := (List.getElem?_eq_some_iff.mp h).2
      rw [← e4, List.getElem_cons_drop, List.take_append_drop]
    conv => lhs; rw [h3]
    rw [List.map_append, List.map_cons]
  rw [e] at nd
  exact (List.nodup_append.mp nd).2.2 _ m _ List.mem_cons_self rfl
/-- the set of texts, turn by turn -/
theorem set_list {w : World} {K : PySem.W.Frag} {a : Addr} {xs : List V} {g : TG} {tt : TT} {te : TE} {vs : List Nat} {σ : L2.St} {H1 : Hp} {D : Addr} {Qd : Hp → Prop} (Pv : Nat → Hp → Prop) (h0 : Pv 0 (upd H1 D (SO w D []))) (hl : ∀ i H, i ≤ xs.length → Pv i H → SqL K H a xs)
    (hs : ∀ i x H, xs[i]? = some x → Pv i H → g x (wipe σ vs) H fun σ2 H2 => wipe σ2 vs = wipe σ vs ∧ tt σ2 H2 fun b H3 =>
      if b = true then te σ2 H3 fun y H4 => ∃ (z : Str) (zs : List Str), y = .str z ∧ H4 D = some (SO w D zs) ∧ zs.length + 1 < scanBound ∧ Pv (i + 1) (upd H4 D (SO w D (addS zs z))) else Pv (i + 1) H3) (hd : ∀ H, Pv xs.length H → Qd H) :
    ∃ W : Nat → Nat → Hp → Prop, (∃ m, W 0 m (upd H1 D (SO w D []))) ∧ ∀ i m H, W i m H →
      ((Itl K a).stop i H ∧ Qd H) ∨ ((Itl K a).go i H ∧ ∃ Nx : Hp → Prop, (∀ H', Nx H' → ∃ m', m' < m ∧ W (i + 1) m' H') ∧ ∀ x H', (Itl K a).yld i H x H' → g x (wipe σ vs) H' fun σ2 H2 => wipe σ2 vs = wipe σ vs ∧ tt σ2 H2 fun b H3 =>
        if b = true then te σ2 H3 fun y H4 => ∃ (z : Str) (zs : List Str), y = .str z ∧ H4 D = some (SO w D zs) ∧ zs.length + 1 < scanBound ∧ Nx (upd H4 D (SO w D (addS zs z))) else Nx H3) := by
  refine ⟨fun i m H => m = xs.length - i ∧ i ≤ xs.length ∧ Pv i H, ⟨xs.length, by simp, Nat.zero_le _, h0⟩, ?_⟩
  rintro i m H ⟨rfl, hi, p⟩
  have q := hl i H hi p
  by_cases hlt : i < xs.length
  · refine .inr ⟨⟨xs, xs[i], q, by simp [hlt]⟩, Pv (i + 1), fun H' p' => ⟨xs.length - (i + 1), by omega, rfl, hlt, p'⟩, fun x H' y => ?_⟩
    obtain ⟨e, y⟩ := y
    subst e
    exact hs i x _ (y xs q) p
  · have e : i = xs.length := by omega
    subst e
    exact .inl ⟨⟨xs, q, Nat.le_refl _⟩, hd H p⟩
theorem set_tup {w : World} {K : PySem.W.Frag} {a : Addr} {xs : List V} {g : TG} {tt : TT} {te : TE} {vs : List Nat} {σ : L2.St} {H1 : Hp} {D : Addr} {Qd : Hp → Prop} (Pv : Nat → Hp → Prop) (h0 : Pv 0 (upd H1 D (SO w D []))) (hl : ∀ i H, i ≤ xs.length → Pv i H → SqT K H a xs)
    (hs : ∀ i x H, xs[i]? = some x → Pv i H → g x (wipe σ vs) H fun σ2 H2 => wipe σ2 vs = wipe σ vs ∧ tt σ2 H2 fun b H3 =>
      if b = true then te σ2 H3 fun y H4 => ∃ (z : Str) (zs : List Str), y = .str z ∧ H4 D = some (SO w D zs) ∧ zs.length + 1 < scanBound ∧ Pv (i + 1) (upd H4 D (SO w D (addS zs z))) else Pv (i + 1) H3) (hd : ∀ H, Pv xs.length H → Qd H) :
    ∃ W : Nat → Nat → Hp → Prop, (∃ m, W 0 m (upd H1 D (SO w D []))) ∧ ∀ i m H, W i m H →
      ((Itt K a).stop i H ∧ Qd H) ∨ ((Itt K a).go i H ∧ ∃ Nx : Hp → Prop, (∀ H', Nx H' → ∃ m', m' < m ∧ W (i + 1) m' H') ∧ ∀ x H', (Itt K a).yld i H x H' → g x (wipe σ vs) H' fun σ2 H2 => wipe σ2 vs = wipe σ vs ∧ tt σ2 H2 fun b H3 =>
        if b = true then te σ2 H3 fun y H4 => ∃ (z : Str) (zs : List Str), y = .str z ∧ H4 D = some (SO w D zs) ∧ zs.length + 1 < scanBound ∧ Nx (upd H4 D (SO w D (addS zs z))) else Nx H3) := by
  refine ⟨fun i m H => m = xs.length - i ∧ i ≤ xs.length ∧ Pv i H, ⟨xs.length, by simp, Nat.zero_le _, h0⟩, ?_⟩
  rintro i m H ⟨rfl, hi, p⟩
  have q := hl i H hi p
  by_cases hlt : i < xs.length
  · refine .inr ⟨⟨xs, xs[i], q, by simp [hlt]⟩, Pv (i + 1), fun H' p' => ⟨xs.length - (i + 1), by omega, rfl, hlt, p'⟩, fun x H' y => ?_⟩
    obtain ⟨e, y⟩ := y
    subst e
    exact hs i x _ (y xs q) p
  · have e : i = xs.length := by omega
    subst e
    exact .inl ⟨⟨xs, q, Nat.le_refl _⟩, hd H p⟩
end FS

set_option Elab.async false
set_option linter.all false
set_option maxRecDepth 100000
set_option maxHeartbeats 4000000
namespace FS
open PySem PySem.Spec PyProof.Rows L2
theorem alls_app (a b : List Tm) : alls (a ++ b) = alls a ++ alls b := by
  induction a with
  | nil => rfl
  | cons t r ih =>
    show t.all ++ alls (r ++ b) = (t.all ++ alls r) ++ alls b
    rw [ih, List.append_assoc]
theorem alls_one (t : Tm) : alls [t] = t.all := by
  show t.all ++ [] = _
  rw [List.append_nil]
theorem take_more {α : Type} {l : List α} {i : Nat} {x : α} (h : l[i]? = some x) : l.take (i + 1) = l.take i ++ [x] := by
  rw [List.take_add_one, h]
  rfl
theorem counts_take (ks : List Tm) (i : Nat) : counts (ks.take i) ≤ counts ks := by
  have h := counts_app (ks.take i) (ks.drop i)
  rw [List.take_append_drop] at h
  omega
theorem DpAll.kid {K : PySem.W.Frag} {H : Hp} {kv : List V} {ks : List Tm} (r : DpAll K H kv (datas ks)) {i : Nat} {x : V} (h : kv[i]? = some x) : ∃ u, ks[i]? = some u ∧ Dp K H x u.data := by
  obtain ⟨d, hd, dx⟩ := DpAll.get r h
  rw [datas_map, List.getElem?_map] at hd
  obtain ⟨u, hu, rfl⟩ := Option.map_eq_some_iff.mp hd
  exact ⟨u, hu, dx⟩
structure Tr where
  t : Tm
  k : List Bool
  d : Nat
def Tr.data (r : Tr) : PyData := .tuple [r.t.data, kindsD r.k, .int (r.d : Int)]
theorem kinds_noL (k : List Bool) : noL (kindsD k) = true := by
  show noLs (k.map _) = true
  induction k with
  | nil => rfl
  | cons b r ih => exact ih
theorem trs_noL : ∀ rs : List Tr, noLs (rs.map Tr.data) = true
  | [] => rfl
  | r :: s => by
    show ((noL r.t.data && (noL (kindsD r.k) && true)) && noLs (s.map Tr.data)) = true
    rw [Tm.noL, kinds_noL, trs_noL s]
    rfl
structure TrOk (own : List (Str × Bool)) (r : Tr) : Prop where
  good : Good own r.t
  kind : r.t.isW ∈ r.k
  deep : r.d + r.t.deep ≤ 7
theorem kinds_open {K : PySem.W.Frag} {H : Hp} {v : V} {k : List Bool} (h : Dp K H v (kindsD k)) : ∃ a, v = .ref a ∧ SqT K H a ((k.map kd).map V.str) := by
  obtain ⟨a, xs, rfl, sq, r⟩ := Dp.tup_inv h
  refine ⟨a, rfl, ?_⟩
  have e : ∀ (k : List Bool) (xs : List V), DpAll K H xs (k.map fun b => .str (kd b)) → xs = (k.map kd).map V.str := fun k => by
    induction k with
    | nil =>
      intro xs r
      cases r
      rfl
    | cons b l ih =>
      intro xs r
      cases r with
      | cons h1 r =>
        cases Dp.str_inv h1
        rw [ih _ r]
        rfl
  rw [← e k xs r]
  exact sq
theorem allow_len (h : Hd) (n : Nat) (w2 : h = .wrp → n = 2) : (h.allow n).length = n := by
  cases h <;> first | (exact (List.length_replicate)) | (rw [w2 rfl]; rfl)
theorem kid_allow {own : List (Str × Bool)} {h : Hd} {ks : List Tm} (g : Good own (.mk h ks)) {i : Nat} {u : Tm} {al : List Bool} (hu : ks[i]? = some u) (ha : (h.allow ks.length)[i]? = some al) : u.isW ∈ al := by
  cases g with
  | mk ok kk kids =>
    have m := List.mem_of_getElem? hu
    have two : ∀ b : Bool, b ∈ [false, true] := by decide
    have blk : ks.all (fun t => !t.isW) = true → al = [false] → u.isW ∈ al := fun h1 h2 => by
      subst h2
      have := List.all_eq_true.mp h1 u m
      cases e : u.isW with
      | false => exact List.mem_cons_self
      | true => rw [e] at this; cases this
    have rep : ∀ x : List Bool, (List.replicate ks.length x)[i]? = some al → al = x := fun x h => List.eq_of_mem_replicate (List.mem_of_getElem? h)
    have am : ∀ l : List Tm, (l.map Tm.isW).all (! ·) = true → l.all (fun t => !t.isW) = true := fun l h => by
      rw [List.all_map] at h
      exact h
    cases h with
    | deed w t => exact blk (am _ kk) (rep _ ha)
    | seq => exact blk (am _ kk) (rep _ ha)
    | alt => exact blk (am _ kk) (rep _ ha)
    | run x => exact blk (am _ kk) (rep _ ha)
    | call n => rw [rep _ ha]; exact two _
    | wrp =>
      have e : ks.map Tm.isW = [true, false] := of_decide_eq_true kk
      have h2 : (ks.map Tm.isW)[i]? = some u.isW := by rw [List.getElem?_map, hu]; rfl
      rw [e] at h2
      have h3 : ([[true], [false]] : List (List Bool))[i]? = some al := ha
      match i, h2, h3 with
      | 0, h2, h3 => rw [← Option.some.inj h3, ← Option.some.inj h2]; exact List.mem_cons_self
      | 1, h2, h3 => rw [← Option.some.inj h3, ← Option.some.inj h2]; exact List.mem_cons_self
      | n + 2, h2, _ => simp at h2
    | own x => exact blk (am _ kk) (rep _ ha)
    | wth n => rw [rep _ ha]; exact two _
theorem Good.wrp2 {own : List (Str × Bool)} {ks : List Tm} (g : Good own (.mk .wrp ks)) : ks.length = 2 := by
  cases g with
  | mk ok kk kids => exact of_decide_eq_true ok
/-- the kids as what is put on the pile -/
def kidTr (t : Tm) (d : Nat) (i : Nat) : List Tr := (List.range i).map fun j => ⟨t.kids.getD j (.mk .seq []), (t.hd.allow t.kids.length).getD j [], d + 1⟩
theorem count_pos (t : Tm) : 0 < t.count := by
  rw [count_eq]
  omega
theorem len_counts (l : List Tm) : l.length ≤ counts l := by
  induction l with
  | nil => exact Nat.le_refl _
  | cons u l ih =>
    rw [counts_cons]
    have := count_pos u
    simp only [List.length_cons]
    omega
theorem trs_counts (l : List Tr) : l.length ≤ counts (l.map Tr.t) := by
  have h := len_counts (l.map Tr.t)
  rw [List.length_map] at h
  exact h
end FS

set_option Elab.async false
set_option linter.all false
set_option maxRecDepth 100000
set_option maxHeartbeats 4000000
/-! own classes: ==, !=, len, str by their own defs -/
namespace FS
open PySem PySem.Spec PyProof.Rows L2
section
variable {X : Cx} {pins : List (Addr × Obj)} {σ : L2.St} {H : Hp} {s : Shared} {n : Nat} {A : Around} {CX : CXT} {C f : Addr} {fd : FuncData} {ps : List Str} {sp : Sp} {E : XK}
theorem looks_ty {x : V} {u t : Value} (I : Inv X pins σ H s) (rx : RelV x u) (ty : TyX X.K H x t) : PySem.W.Looks (model X.prog X.w) s.heap (typeOf u) t := by
  obtain ⟨P, k, p, _⟩ := kit_of I rx ty
  exact k.ty _ _ I.kIn p
theorem run_at {vs : List V} {us : List Value} {Q : VK} (sb : Sub X n A) (I : Inv X pins σ H s) (F : FnOk X.prog X.w X.K X.mg X.base CX n f fd ps sp) (hb : Binds X.K fd ps []) (hx : Passes CX X E) (r : Vals vs us) (h : sp vs H Q E) :
    wpAny (model X.prog X.w) A (call (.ref f) us) (fun u s' => ∃ v H', Inv X pins σ H' s' ∧ RelV v u ∧ Q v H') X.xe s := by
  have e0 : Env0 X.prog X.w X.K X.mg X.base A X.stack s H := by
    have e := I.env0
    exact ⟨by rw [sb.fr]; exact e.frames, e.mod, e.bs, e.bsz, e.funs, e.frf, e.hok, e.bare⟩
  have hl := F.len _ _ _ _ h
  refine wpAny_call (codeAny_mono (F.run A X.stack s H ⟨us, []⟩ us vs Q E sb.room e0 (by
    have := hb s us I.kIn (by rw [List.append_nil, ← r.length]; exact hl)
    simpa using this) r h) fun r s' hq => ?_)
  cases r with
  | error e => exact hx pins σ H s e s' I hq
  | ok fl =>
    cases fl with
    | ret w =>
      obtain ⟨z, H', I', rz, q⟩ := I.after hq
      exact ⟨z, H', I', rz, q⟩
    | next => exact False.elim hq
    | brk => exact False.elim hq
    | cont => exact False.elim hq
/-- x == y by the text's own == -/
def rEqO (K : PySem.W.Frag) (C : Addr) (sp : Sp) (E : XK) (neg : Bool) : R2 := fun x y H Q => ∃ a dx fs tb, x = .ref a ∧ H a = some (.ins C dx fs) ∧ TyX K H y tb ∧ PySem.W.notFirst K C tb = true ∧ sp [.ref a, y] H (fun v H' => ∃ b, v = .bl b ∧ Q (.bl (if neg then !b else b)) H') E
theorem op_eqOwn (hr : Room n X.A) (F : FnOk X.prog X.w X.K X.mg X.base CX n f fd ps sp) (hs : PySem.W.findIn X.K (.ref C) "__eq__" = some (some (.ref f))) (hf : PySem.W.isFn X.K (.ref f) = true) (hb : Binds X.K fd ps []) (hx : Passes CX X E) :
    OpR X (compareOp .Eq) (rEqO X.K C sp E false) := by
  intro pins s σ H x y v u Q I rx ry hq
  obtain ⟨a, dx, fs, tb, rfl, ha, ty, nf, q⟩ := hq
  cases rx
  obtain ⟨mA, J, _⟩ := ins_get I.hok ha
  obtain ⟨od, J, _⟩ := J.look
  obtain ⟨m, hF⟩ := I.fr
  show wpAny (model X.prog X.w) X.A (richCompare .Eq (.ref a) u) (EP X pins σ Q) X.xe s
  refine PySem.W.cmp_K (op := .Eq) (tb := tb) hr.units0 hF I.ok.mod.kin J (looks_ty I ry ty) nf hs hf ?_
  refine wpAny_mono (run_at ⟨hr, rfl⟩ I F hb hx (.cons (show RelV (V.ref a) (Value.ref a) from rfl) (.cons ry .nil)) q) (fun w s' h => ?_) fun _ _ z => z
  obtain ⟨z, H', I', rz, b, rfl, q2⟩ := h
  cases rz
  exact ⟨.bl b, H', I', rfl, q2⟩
theorem obj_ne {x : Addr} {b : Value} {ox : Obj} {od : Option Obj} {Q : Fin → Shared → Prop} (hu : A.units < cLine) (I : PySem.W.InstAt s.heap x ox C od) (K : PySem.W.Frag) (X0 : K.In s.heap)
    (hs : PySem.W.findIn K (.ref C) "__eq__" = some (some (.ref f))) (hf : PySem.W.isFn K (.ref f) = true) {E : Value → Shared → Prop} {prog : Program} {w : World}
    (h : wpAny (model prog w) A (call (.ref f) [.ref x, b]) (fun v s' => ∃ r, v = .bool r ∧ Q (.done (.ret (.bool (!r)))) s') E s) : wpAny (model prog w) A (Builtin.«object.__ne__» ⟨[.ref x, b], []⟩) Q E s := by
  unfold Builtin.«object.__ne__»
  refine wpAny_bind (m := slotArgs "__ne__" 1 _) (wpAny_pure ?_)
  refine wpAny_bind (m := cRoomFor _ _) (wpAny_cRoomFor hu ?_)
  refine wpAny_bind (m := callSpecialIfBound? (.ref x) (Str.ofString "__eq__") [b]) (PySem.W.ifBound_K X0 I hs hf (wpAny_mono h (fun v s' hv => ?_) fun _ _ y => y))
  obtain ⟨r, rfl, q⟩ := hv
  exact wpAny_bind (wpAny_truthy_bool (wpAny_pure q))
theorem ifBound_B {M : Model} {x : Addr} {ox : Obj} {od : Option Obj} {K : PySem.W.Frag} {name : Str} {id : String} {args : List Value} {Q : Option Value → Shared → Prop} {E : Value → Shared → Prop} (X0 : K.In s.heap) (I : PySem.W.InstAt s.heap x ox C od) (hs : PySem.W.findIn K (.ref C) name = some (some (.builtin id)))
    (hb : ∀ self, bindSpecial (.builtin id) self = pure (.builtin id, [self])) (h : wpAny M A (call (.builtin id) (.ref x :: args)) (fun v => Q (some v)) E s) : wpAny M A (callSpecialIfBound? (.ref x) name args) Q E s := by
  simp only [callSpecialIfBound?, bindSpecialIfBound?]
  refine wpAny_holding (wpAny_bind (wpAny_bind (wpAny_bind (I.type.here ((PySem.W.looks_findIn X0 hs).here ?_)))))
  refine wpAny_bind (wpAny_askSetting (wpAny_ite ?_))
  have fin : wpAny M A (call (.builtin id) ([.ref x] ++ args) >>= fun v => pure (some v)) Q E s := wpAny_bind (wpAny_mono h (fun v s' h' => wpAny_pure h') fun _ _ h' => h')
  split
  · exact wpAny_bind ((PySem.W.Looks.of_pure (hb _)).here (wpAny_pure (by exact fin)))
  · exact wpAny_tryCatch (wpAny_bind ((PySem.W.Looks.of_pure (hb _)).here (wpAny_pure (by exact fin))))
theorem op_neOwn (hr : Room (n + 1) X.A) (F : FnOk X.prog X.w X.K X.mg X.base CX n f fd ps sp) (hs : PySem.W.findIn X.K (.ref C) "__eq__" = some (some (.ref f))) (hf : PySem.W.isFn X.K (.ref f) = true) (hb : Binds X.K fd ps []) (hx : Passes CX X E)
    (hn : PySem.W.findIn X.K (.ref C) "__ne__" = some (some (.builtin "object.__ne__"))) (hm : PySem.W.mroIn X.K C (.type "object") = some true) : OpR X (compareOp .NotEq) (rEqO X.K C sp E true) := by
  intro pins s σ H x y v u Q I rx ry hq
  obtain ⟨a, dx, fs, tb, rfl, ha, ty, nf, q⟩ := hq
  cases rx
  obtain ⟨mA, J, _⟩ := ins_get I.hok ha
  obtain ⟨od, J, _⟩ := J.look
  have X0 := I.kIn
  have lt := looks_ty I ry ty
  have one : wpAny (model X.prog X.w) X.A (tryCompare (.ref a) (cmpInfo .NotEq).2.1 u) (fun r s' => ∃ v, r = some v ∧ EP X pins σ Q v s') X.xe s := by
    unfold tryCompare
    refine wpAny_bind (ifBound_B X0 J hn PySem.F.slot_object_ne.bind ?_)
    refine wpAny_call (codeAny_call_builtin PySem.F.slot_object_ne.plain PySem.F.cmpEntry_ne (PySem.W.check_slot (i := "object.__ne__") (owner := "object") (n := "__ne__") PySem.F.cmpKind_ne PySem.F.cmpSplit_ne (J.type.andThen (PySem.W.looks_mroIn X0 hm)) (PySem.F.cmpArgs_ne _ _) ?_))
    refine obj_ne hr.in1.units0 J X.K X0 hs hf ?_
    refine wpAny_mono (run_at ⟨hr.in1, rfl⟩ I F hb hx (.cons (show RelV (V.ref a) (Value.ref a) from rfl) (.cons ry .nil)) q) (fun w s' h => ?_) fun _ _ z => z
    obtain ⟨z, H', I', rz, b, rfl, q2⟩ := h
    cases rz
    exact ⟨b, rfl, wpAny_pure ⟨_, rfl, .bl (!b), H', I', rfl, q2⟩⟩
  show wpAny (model X.prog X.w) X.A (richCompare .NotEq (.ref a) u) (EP X pins σ Q) X.xe s
  unfold richCompare
  simp only [oneThing_ref]
  refine wpAny_holding (wpAny_bind (wpAny_cRoomFor hr.units0 ?_))
  refine wpAny_bind (J.type.here (wpAny_bind (lt.here ?_)))
  split
  · rename_i q
    have e : PySem.W.subIn X.K tb (.ref C) = some false := by
      rcases Bool.or_eq_true_iff.mp nf with e | e
      · rw [beq_iff_eq.mp e] at q; simp at q
      · exact beq_iff_eq.mp e
    refine wpAny_bind ((PySem.W.looks_subIn X0 e).here ?_)
    simp only [Bool.false_eq_true, if_false]
    refine wpAny_bind (wpAny_mono one (fun r s' z => ?_) fun _ _ e => e)
    obtain ⟨v, rfl, hq⟩ := z
    exact wpAny_pure hq
  · refine wpAny_bind (wpAny_pure ?_)
    simp only [Bool.false_eq_true, if_false]
    refine wpAny_bind (wpAny_mono one (fun r s' z => ?_) fun _ _ e => e)
    obtain ⟨v, rfl, hq⟩ := z
    exact wpAny_pure hq
/-- len(x) by the text's own __len__ -/
theorem cr_lenOwn (hr : Room (n + 1) X.A) (F : FnOk X.prog X.w X.K X.mg X.base CX n f fd ps sp) (hs : PySem.W.findIn X.K (.ref C) "__len__" = some (some (.ref f))) (hf : PySem.W.isFn X.K (.ref f) = true) (hb : Binds X.K fd ps []) (hx : Passes CX X E) :
    CallR X (.builtin "len") (fun xs H Q => ∃ a dx fs, xs = [.ref a] ∧ H a = some (.ins C dx fs) ∧ sp [.ref a] H (fun v H' => ∃ m : Nat, v = .int m ∧ m ≤ 100000 ∧ Q (.int m) H') E) := by
  intro pins s σ H vs us Q I r h
  obtain ⟨a, dx, fs, rfl, ha, q⟩ := h
  rw [Vals.ref1 r]
  obtain ⟨mA, J, _⟩ := ins_get I.hok ha
  obtain ⟨od, J, _⟩ := J.look
  obtain ⟨m, hF⟩ := I.fr
  refine PySem.W.len_K hF I.ok.mod.kin J hs hf ?_
  refine wpAny_mono (run_at ⟨hr.in1, rfl⟩ I F hb hx (.cons (show RelV (V.ref a) (Value.ref a) from rfl) .nil) q) (fun w s' h => ?_) fun _ _ z => z
  obtain ⟨z, H', I', rz, m, rfl, hm, q2⟩ := h
  obtain ⟨t, rfl⟩ := rz
  exact ⟨⟨by omega, by omega⟩, .int m, H', I'.tok _, ⟨_, rfl⟩, q2⟩
/-- str(x) by the text's own __str__ -/
theorem cr_strOwn (hr : Room (n + 2) X.A) (F : FnOk X.prog X.w X.K X.mg X.base CX n f fd ps sp) (hs : PySem.W.findIn X.K (.ref C) "__str__" = some (some (.ref f))) (hf : PySem.W.isFn X.K (.ref f) = true) (hb : Binds X.K fd ps []) (hx : Passes CX X E) :
    CallR X (.type "str") (fun xs H Q => ∃ a dx fs, xs = [.ref a] ∧ H a = some (.ins C dx fs) ∧ sp [.ref a] H (fun v H' => ∃ z, v = .str z ∧ Q (.str z) H') E) := by
  intro pins s σ H vs us Q I r h
  obtain ⟨a, dx, fs, rfl, ha, q⟩ := h
  rw [Vals.ref1 r]
  obtain ⟨mA, J, _⟩ := ins_get I.hok ha
  obtain ⟨od, J, _⟩ := J.look
  refine PySem.W.kso_call hr.in1.in1.units0 I.kIn J hs hf ?_
  refine wpAny_mono (run_at ⟨hr.in1.in1, rfl⟩ I F hb hx (.cons (show RelV (V.ref a) (Value.ref a) from rfl) .nil) q) (fun w s' h => ?_) fun _ _ z => z
  obtain ⟨z, H', I', rz, z, rfl, q2⟩ := h
  obtain ⟨t, rfl⟩ := rz
  exact ⟨.str z, H', I', ⟨_, rfl⟩, q2⟩
end
end FS

set_option Elab.async false
set_option linter.all false
set_option maxRecDepth 100000
set_option maxHeartbeats 4000000
namespace FS
open PySem PySem.Spec PyProof.Rows L2
/-! ### tuples stand -/
def isT : HO → Bool
  | .tup _ => true
  | .frz _ (.tup _) => true
  | _ => false
def TK (H H' : Hp) : Prop := ∀ b o, isT o = true → H b = some o → H' b = some o
theorem TK.refl (H : Hp) : TK H H := fun _ _ _ h => h
theorem TK.trans {H H1 H2 : Hp} (a : TK H H1) (b : TK H1 H2) : TK H H2 := fun c o n h => b c o n (a c o n h)
theorem TK.of {H H' : Hp} (e : Same H H') : TK H H' := fun b o _ h => e b o h
theorem TK.stay {H H' : Hp} (e : Stay H H') : TK H H' := fun b o n h => e b o (fun xs z => by
  subst z
  cases n) h
theorem TK.set {H : Hp} {p : Addr} {o o' : HO} (e : H p = some o) (n : isT o = false) : TK H (upd H p o') := fun b u t h => by
  rw [upd_ne (fun z => by
    subst z
    rw [e] at h
    cases Option.some.inj h
    rw [n] at t
    cases t)]
  exact h
theorem TK.sqT {K : PySem.W.Frag} {H H' : Hp} {a : Addr} {xs : List V} (e : TK H H') (h : SqT K H a xs) : SqT K H' a xs := by
  rcases h with (h | ⟨o, h⟩) | h
  · exact .inl (.inl (e _ _ rfl h))
  · exact .inl (.inr ⟨o, e _ _ rfl h⟩)
  · exact .inr h
mutual
theorem Dp.tk {K : PySem.W.Frag} {H H' : Hp} (e : TK H H') : ∀ {v : V} {d : PyData}, noL d = true → Dp K H v d → Dp K H' v d
  | _, _, _, .non => .non
  | _, _, _, .bl b => .bl b
  | _, _, _, .int i => .int i
  | _, _, _, .str x => .str x
  | _, _, n, .lst _ _ => by cases n
  | _, _, n, .tup h r => .tup (e.sqT h) (DpAll.tk e n r)
theorem DpAll.tk {K : PySem.W.Frag} {H H' : Hp} (e : TK H H') : ∀ {vs : List V} {ds : List PyData}, noLs ds = true → DpAll K H vs ds → DpAll K H' vs ds
  | _, _, _, .nil => .nil
  | _, _, n, .cons h r => by
    have n2 := Bool.and_eq_true_iff.mp (show (noL _ && noLs _) = true from n)
    exact .cons (Dp.tk e n2.1 h) (DpAll.tk e n2.2 r)
end
/-- all but p is as it was -/
def Kp (p : Addr) (H H' : Hp) : Prop := ∀ b o, b ≠ p → H b = some o → H' b = some o
theorem Kp.refl (p : Addr) (H : Hp) : Kp p H H := fun _ _ _ h => h
theorem Kp.trans {p : Addr} {H H1 H2 : Hp} (a : Kp p H H1) (b : Kp p H1 H2) : Kp p H H2 := fun c o n h => b c o n (a c o n h)
theorem Kp.of {p : Addr} {H H' : Hp} (e : Same H H') : Kp p H H' := fun b o _ h => e b o h
theorem Kp.set {p : Addr} {H : Hp} {o : HO} : Kp p H (upd H p o) := fun b o n h => by
  rw [upd_ne n]
  exact h
theorem Kp.tk {p : Addr} {H H' : Hp} {o : HO} (k : Kp p H H') (e : H p = some o) (n : isT o = false) : TK H H' := fun b u t h => k b u (fun z => by
  subst z
  rw [e] at h
  cases Option.some.inj h
  rw [n] at t
  cases t) h
/-! ### texts in order -/
theorem rising_le : ∀ (l : List Str) (p : Str), risingS p l = true → ((p :: l).map fun z => z.cps.toList).Pairwise (· ≤ ·)
  | [], p, _ => List.Pairwise.cons (fun _ h => nomatch h) .nil
  | x :: r, p, h => by
    obtain ⟨h1, h2⟩ := Bool.and_eq_true_iff.mp (show (!ltCps x.cps.toList p.cps.toList && risingS x r) = true from h)
    have ih := rising_le r x h2
    have e : p.cps.toList ≤ x.cps.toList := by
      rw [ltCps_eq] at h1
      exact List.not_lt.mp (by simpa using h1)
    refine List.Pairwise.cons (fun z hz => ?_) ih
    rcases List.mem_cons.mp hz with rfl | hz
    · exact e
    · exact List.le_trans e (List.rel_of_pairwise_cons ih hz)
theorem sorted_le {l : List Str} (h : sortedS l = true) : (l.map fun z => z.cps.toList).Pairwise (· ≤ ·) := by
  cases l with
  | nil => exact .nil
  | cons x r => exact rising_le r x h
theorem cps_inj {x y : Str} (h : x.cps.toList = y.cps.toList) : x = y := by
  cases x with
  | mk a => cases y with
    | mk b =>
      cases Array.toList_inj.mp h
      rfl
theorem sorted_same {l m : List Str} (h1 : sortedS l = true) (h2 : sortedS m = true) (p : l.Perm m) : l = m := by
  have e : (l.map fun z => z.cps.toList) = m.map fun z => z.cps.toList := List.Perm.eq_of_pairwise (fun a b _ _ x y => List.le_antisymm x y) (sorted_le h1) (sorted_le h2) (p.map _)
  have inj : ∀ (l m : List Str), (l.map fun z => z.cps.toList) = (m.map fun z => z.cps.toList) → l = m := fun l => by
    induction l with
    | nil =>
      intro m h
      cases m with
      | nil => rfl
      | cons _ _ => cases h
    | cons x r ih =>
      intro m h
      cases m with
      | nil => cases h
      | cons y s =>
        obtain ⟨h1, h2⟩ := List.cons.inj (show x.cps.toList :: r.map _ = y.cps.toList :: s.map _ from h)
        rw [cps_inj h1, ih s h2]
  exact inj l m e
/-- each text once, in the order in which they come -/
def uniq (l : List Str) : List Str := l.foldl addS []
theorem uniq_more (l : List Str) (x : Str) : uniq (l ++ [x]) = addS (uniq l) x := by
  unfold uniq
  rw [List.foldl_append]
  rfl
theorem addS_nodup {l : List Str} {x : Str} (h : l.Nodup) : (addS l x).Nodup := by
  unfold addS
  by_cases e : x ∈ l
  · rw [if_pos e]
    exact h
  · rw [if_neg e]
    refine List.nodup_append.mpr ⟨h, List.nodup_cons.mpr ⟨(fun h => nomatch h), .nil⟩, fun a ha b hb z => e ?_⟩
    rw [← List.mem_singleton.mp hb, ← z]
    exact ha
theorem addS_mem {l : List Str} {x z : Str} : z ∈ addS l x ↔ z ∈ l ∨ z = x := by
  unfold addS
  by_cases e : x ∈ l
  · rw [if_pos e]
    exact ⟨.inl, fun h => h.elim id fun h => h ▸ e⟩
  · rw [if_neg e, List.mem_append, List.mem_singleton]
theorem uniq_nodup (l : List Str) : (uniq l).Nodup := by
  have h : ∀ (l acc : List Str), acc.Nodup → (l.foldl addS acc).Nodup := fun l => by
    induction l with
    | nil => exact fun acc h => h
    | cons x r ih => exact fun acc h => ih _ (addS_nodup h)
  exact h l [] .nil
theorem uniq_mem {l : List Str} {z : Str} : z ∈ uniq l ↔ z ∈ l := by
  have h : ∀ (l acc : List Str), z ∈ l.foldl addS acc ↔ z ∈ acc ∨ z ∈ l := fun l => by
    induction l with
    | nil => intro acc; simp
    | cons x r ih =>
      intro acc
      rw [List.foldl_cons, ih, addS_mem, List.mem_cons]
      constructor
      · rintro ((h | h) | h)
        · exact .inl h
        · exact .inr (.inl h)
        · exact .inr (.inr h)
      · rintro (h | h | h)
        · exact .inl (.inl h)
        · exact .inl (.inr h)
        · exact .inr h
  rw [show uniq l = l.foldl addS [] from rfl, h]
  simp
theorem uniq_len (l : List Str) : (uniq l).length ≤ l.length := by
  have h : ∀ (l acc : List Str), (l.foldl addS acc).length ≤ acc.length + l.length := fun l => by
    induction l with
    | nil => exact fun acc => Nat.le_refl _
    | cons x r ih =>
      intro acc
      have h1 := ih (addS acc x)
      have h2 : (addS acc x).length ≤ acc.length + 1 := by
        unfold addS
        split
        · omega
        · rw [List.length_append]
          exact Nat.le_refl _
      rw [List.foldl_cons, List.length_cons]
      omega
  have := h l []
  simp only [List.length_nil, Nat.zero_add] at this
  exact this
/-- the texts of l, ascending: what sorted of the set of them is -/
def Ranks (l ys : List Str) : Prop := ys.Perm (uniq l) ∧ sortedS ys = true
theorem Ranks.same {l m ys zs : List Str} (a : Ranks l ys) (b : Ranks m zs) (h : ∀ z, z ∈ l ↔ z ∈ m) : ys = zs := by
  refine sorted_same a.2 b.2 (a.1.trans (List.Perm.trans ?_ b.1.symm))
  exact (List.perm_ext_iff_of_nodup (uniq_nodup l) (uniq_nodup m)).mpr fun z => by rw [uniq_mem, uniq_mem, h]
/-! ### what a procedure tells -/
def wordOf (u : Tm) : Option Str := match u.hd with
  | .deed w _ => some w
  | _ => none
def useOf (u : Tm) : Option Str := match u.hd with
  | .call n => some n
  | .wth n => some n
  | _ => none
def strsD (ys : List Str) : PyData := .tuple (ys.map PyData.str)
def kindD (own : List (Str × Bool)) : PyData := .tuple (own.map fun p => .str (kd p.2))
theorem strs_noL (ys : List Str) : noL (strsD ys) = true := by
  show noLs (ys.map PyData.str) = true
  induction ys with
  | nil => rfl
  | cons x r ih => exact ih
theorem kindD_noL (own : List (Str × Bool)) : noL (kindD own) = true := by
  show noLs (own.map _) = true
  induction own with
  | nil => rfl
  | cons x r ih => exact ih
theorem op_inK {X : Cx} {K : PySem.W.Frag} (h : X.K = K) : OpR X (compareOp .In) (rIn K false) := by
  subst h
  exact op_in_seq
theorem dp_strs {K : PySem.W.Frag} {H : Hp} : ∀ ys : List Str, DpAll K H (ys.map V.str) (ys.map PyData.str)
  | [] => .nil
  | x :: r => .cons (.str _) (dp_strs r)
def prF (nm : Str) (pv bv : V) (pa ka wa ua : Addr) : List (Str × V) := [("_named", .str nm), ("_parameters", pv), ("_body", bv), ("_parts", .ref pa), ("_kinds", .ref ka), ("_words", .ref wa), ("_uses", .ref ua)]
/-- the class's facts -/
structure PrC (K : PySem.W.Frag) (mg : Str → Option Value) (C : Addr) : Prop where
  cl : Cls K C
  gC : mg "Procedure" = some (.ref C)
  a1 : NoAttr K C "_named"
  a2 : NoAttr K C "_parameters"
  a3 : NoAttr K C "_body"
  a4 : NoAttr K C "_parts"
  a5 : NoAttr K C "_kinds"
  a6 : NoAttr K C "_words"
  a7 : NoAttr K C "_uses"
  ha : PySem.W.findIn K (.ref C) "__class__" = some (some (.builtin "object.__class__"))
  hn : PySem.W.specialIn K (.builtin "object.__class__") "__get__" = some (some (.builtin "getset_descriptor.__get__"))
  htk : PySem.W.takesIn K (.builtin "object.__class__") = some true
  hm : PySem.W.mroIn K C (.type "object") = some true
  self : PySem.W.kitOne K (.ref C) (.ref C) = some true
/-- the procedure at a -/
structure PAt (K : PySem.W.Frag) (C : Addr) (H : Hp) (a : Addr) (nm : Str) (own : List (Str × Bool)) (t : Tm) : Prop where
  ex : ∃ (dx : Addr) (pv bv : V) (pa ka wa ua : Addr) (xs : List V) (ws us : List Str), H a = some (.ins C dx (prF nm pv bv pa ka wa ua)) ∧ Dp K H pv (parsD own) ∧ Dp K H bv t.data ∧ H pa = some (.lst xs) ∧ DpAll K H xs (datas t.all) ∧
    Dp K H (.ref ka) (kindD own) ∧ Dp K H (.ref wa) (strsD ws) ∧ Dp K H (.ref ua) (strsD us) ∧ Ranks (t.all.filterMap wordOf) ws ∧ Ranks (t.all.filterMap useOf) us
  wd : wordB nm = true
  po : ParOk own
  good : Good own t
  nw : t.isW = false
  few : t.count ≤ 40
  low : t.deep ≤ 6
theorem PAt.same {K : PySem.W.Frag} {C : Addr} {H H' : Hp} {a : Addr} {nm : Str} {own : List (Str × Bool)} {t : Tm} (p : PAt K C H a nm own t) (s : Same H H') : PAt K C H' a nm own t := by
  obtain ⟨⟨dx, pv, bv, pa, ka, wa, ua, xs, ws, us, h1, h2, h3, h4, h5, h6, h7, h8, h9, h10⟩, b, c, d, e, f, g⟩ := p
  have k := TK.of s
  exact ⟨⟨dx, pv, bv, pa, ka, wa, ua, xs, ws, us, s _ _ h1, Dp.tk k (pars_noL own) h2, Dp.tk k t.noL h3, s _ _ h4, DpAll.tk k (noL_datas _) h5, Dp.tk k (kindD_noL _) h6, Dp.tk k (strs_noL _) h7, Dp.tk k (strs_noL _) h8, h9, h10⟩, b, c, d, e, f, g⟩
/-- the procedure at a, whose list of parts is not at D -/
structure PAtD (K : PySem.W.Frag) (C : Addr) (H : Hp) (D a : Addr) (nm : Str) (own : List (Str × Bool)) (t : Tm) : Prop where
  ex : ∃ (dx : Addr) (pv bv : V) (pa ka wa ua : Addr) (xs : List V) (ws us : List Str), H a = some (.ins C dx (prF nm pv bv pa ka wa ua)) ∧ Dp K H pv (parsD own) ∧ Dp K H bv t.data ∧ H pa = some (.lst xs) ∧ DpAll K H xs (datas t.all) ∧
    Dp K H (.ref ka) (kindD own) ∧ Dp K H (.ref wa) (strsD ws) ∧ Dp K H (.ref ua) (strsD us) ∧ Ranks (t.all.filterMap wordOf) ws ∧ Ranks (t.all.filterMap useOf) us ∧ pa ≠ D
  na : a ≠ D
  wd : wordB nm = true
  po : ParOk own
  good : Good own t
  nw : t.isW = false
  few : t.count ≤ 40
  low : t.deep ≤ 6
theorem PAtD.pat {K : PySem.W.Frag} {C : Addr} {H : Hp} {D a : Addr} {nm : Str} {own : List (Str × Bool)} {t : Tm} (p : PAtD K C H D a nm own t) : PAt K C H a nm own t := by
  obtain ⟨⟨dx, pv, bv, pa, ka, wa, ua, xs, ws, us, h1, h2, h3, h4, h5, h6, h7, h8, h9, h10, -⟩, -, b, c, d, e, f, g⟩ := p
  exact ⟨⟨dx, pv, bv, pa, ka, wa, ua, xs, ws, us, h1, h2, h3, h4, h5, h6, h7, h8, h9, h10⟩, b, c, d, e, f, g⟩
theorem PAtD.kp {K : PySem.W.Frag} {C : Addr} {H H' : Hp} {D a : Addr} {nm : Str} {own : List (Str × Bool)} {t : Tm} (p : PAtD K C H D a nm own t) (k0 : Kp D H H') (k : TK H H') : PAtD K C H' D a nm own t := by
  obtain ⟨⟨dx, pv, bv, pa, ka, wa, ua, xs, ws, us, h1, h2, h3, h4, h5, h6, h7, h8, h9, h10, hn⟩, na, b, c, d, e, f, g⟩ := p
  exact ⟨⟨dx, pv, bv, pa, ka, wa, ua, xs, ws, us, k0 _ _ na h1, Dp.tk k (pars_noL own) h2, Dp.tk k t.noL h3, k0 _ _ hn h4, DpAll.tk k (noL_datas _) h5, Dp.tk k (kindD_noL _) h6, Dp.tk k (strs_noL _) h7, Dp.tk k (strs_noL _) h8, h9, h10, hn⟩, na, b, c, d, e, f, g⟩
def spInit (K : PySem.W.Frag) (C : Addr) : Sp := fun vs H Q _ => ∃ (p dx : Addr) (nm : Str) (pv bv : V) (own : List (Str × Bool)) (t : Tm), vs = [.ref p, .str nm, pv, bv] ∧ H p = some (.ins C dx []) ∧ wordB nm = true ∧ Dp K H pv (parsD own) ∧ Dp K H bv t.data ∧ ParOk own ∧ Good own t ∧ t.isW = false ∧ t.count ≤ 40 ∧ t.deep ≤ 6 ∧
  ∀ H', PAt K C H' p nm own t → Kp p H H' → (∀ D o, H D = some o → D ≠ p → PAtD K C H' D p nm own t) → Q .non H'
def spGet (K : PySem.W.Frag) (C : Addr) (g : Str) : Sp := fun vs H Q _ => ∃ (a dx : Addr) (fs : List (Str × V)) (v : V), vs = [.ref a] ∧ H a = some (.ins C dx fs) ∧ fs.lookup g = some v ∧ Q v H
def spLen (K : PySem.W.Frag) (C : Addr) : Sp := fun vs H Q _ => ∃ (a : Addr) (nm : Str) (own : List (Str × Bool)) (t : Tm), vs = [.ref a] ∧ PAt K C H a nm own t ∧ Q (.int (t.count : Int)) H
def spEqT (K : PySem.W.Frag) (C : Addr) : Sp := fun vs H Q _ => ∃ (a : Addr) (y : V) (nm : Str) (own : List (Str × Bool)) (t : Tm), vs = [.ref a, y] ∧ PAt K C H a nm own t ∧
  ((∃ ty, TyX K H y ty ∧ PySem.W.kitOne K ty (.ref C) = some false ∧ Q (.bl false) H) ∨
  (∃ (b : Addr) (nm' : Str) (own' : List (Str × Bool)) (t' : Tm), y = .ref b ∧ PAt K C H b nm' own' t' ∧ Q (.bl (nm == nm' && PyData.eqv (parsD own) (parsD own') && PyData.eqv t.data t'.data)) H))
def telling (nm : Str) (n m : Nat) : Str := (((((Str.empty ++ "procedure ") ++ nm) ++ ", ") ++ toString (n : Int)) ++ " parameters, ") ++ toString (m : Int) ++ " terms"
def spStr (K : PySem.W.Frag) (C : Addr) : Sp := fun vs H Q _ => ∃ (a : Addr) (nm : Str) (own : List (Str × Bool)) (t : Tm), vs = [.ref a] ∧ PAt K C H a nm own t ∧ ∀ z, z = telling nm own.length t.count → Q (.str z) H
end FS

set_option Elab.async false
set_option linter.all false
set_option maxRecDepth 100000
set_option maxHeartbeats 4000000
namespace FS
open PySem PySem.Spec PyProof.Rows L2
theorem fm_some {α : Type} {l : List α} {i : Nat} {x : α} {f : α → Option Str} {z : Str} (h : l[i]? = some x) (e : f x = some z) : (l.take (i + 1)).filterMap f = (l.take i).filterMap f ++ [z] := by
  rw [take_more h, List.filterMap_append, List.filterMap_cons, e]
  rfl
theorem fm_none {α : Type} {l : List α} {i : Nat} {x : α} {f : α → Option Str} (h : l[i]? = some x) (e : f x = none) : (l.take (i + 1)).filterMap f = (l.take i).filterMap f := by
  rw [take_more h, List.filterMap_append, List.filterMap_cons, e]
  exact List.append_nil _
theorem fm_len {α : Type} (l : List α) (i : Nat) (f : α → Option Str) : ((l.take i).filterMap f).length ≤ l.length := Nat.le_trans (List.length_filterMap_le _ _) (by rw [List.length_take]; exact Nat.min_le_right _ _)
theorem datas_at {K : PySem.W.Frag} {H : Hp} {xs : List V} {ts : List Tm} (r : DpAll K H xs (datas ts)) {i : Nat} {x : V} (h : xs[i]? = some x) : ∃ u, ts[i]? = some u ∧ Dp K H x u.data := DpAll.kid r h
/-- a deed's word stands behind its tag -/
theorem deed_open {K : PySem.W.Frag} {H : Hp} {x : V} {u : Tm} (d : Dp K H x u.data) : ∃ a xs, x = .ref a ∧ SqT K H a (V.str u.hd.tag :: xs) ∧
    ((u.hd.num = 0 ∧ ∃ w ys, wordOf u = some w ∧ xs = .str w :: ys) ∨ (u.hd.num ≠ 0 ∧ wordOf u = none)) ∧ ((u.hd.is2 = true ∧ ∃ w ys, useOf u = some w ∧ xs = .str w :: ys) ∨ (u.hd.is2 = false ∧ useOf u = none)) := by
  obtain ⟨h, ks⟩ := u
  obtain ⟨a, rs, kv, rfl, sq, r1, r2⟩ := tm_open d
  refine ⟨a, rs ++ kv, rfl, sq, ?_, ?_⟩
  · cases h with
    | deed w t =>
      cases r1 with
      | cons x1 r =>
        cases Dp.str_inv x1
        exact .inl ⟨rfl, w, _, rfl, rfl⟩
    | seq => exact .inr ⟨(fun z : (1:Nat) = 0 => nomatch z), rfl⟩
    | alt => exact .inr ⟨(fun z : (2:Nat) = 0 => nomatch z), rfl⟩
    | run x => exact .inr ⟨(fun z : (3:Nat) = 0 => nomatch z), rfl⟩
    | call n => exact .inr ⟨(fun z : (4:Nat) = 0 => nomatch z), rfl⟩
    | wrp => exact .inr ⟨(fun z : (5:Nat) = 0 => nomatch z), rfl⟩
    | own x => exact .inr ⟨(fun z : (6:Nat) = 0 => nomatch z), rfl⟩
    | wth n => exact .inr ⟨(fun z : (7:Nat) = 0 => nomatch z), rfl⟩
  · cases h with
    | call n =>
      cases r1 with
      | cons x1 r =>
        cases Dp.str_inv x1
        exact .inl ⟨rfl, n, _, rfl, rfl⟩
    | wth n =>
      cases r1 with
      | cons x1 r =>
        cases Dp.str_inv x1
        exact .inl ⟨rfl, n, _, rfl, rfl⟩
    | deed w t => exact .inr ⟨rfl, rfl⟩
    | seq => exact .inr ⟨rfl, rfl⟩
    | alt => exact .inr ⟨rfl, rfl⟩
    | run x => exact .inr ⟨rfl, rfl⟩
    | wrp => exact .inr ⟨rfl, rfl⟩
    | own x => exact .inr ⟨rfl, rfl⟩
theorem uniq_small {l : List Str} {n : Nat} (h : l.length ≤ n) (hn : n ≤ 200) : (uniq l).length + 1 < scanBound := by
  have := uniq_len l
  have e : scanBound = 4096 := rfl
  omega
theorem putA {f g : Str} {v x : V} {r : List (Str × V)} (h : ¬ g = f) : putF f v ((g, x) :: r) = (g, x) :: putF f v r := if_neg h
theorem pf2 {a v : V} : putF "_parameters" v [("_named", a)] = ([("_named", a), ("_parameters", v)] : List (Str × V)) := by
  rw [putA (by decide +kernel)]
  rfl
theorem pf3 {a b v : V} : putF "_body" v [("_named", a), ("_parameters", b)] = ([("_named", a), ("_parameters", b), ("_body", v)] : List (Str × V)) := by
  rw [putA (by decide +kernel), putA (by decide +kernel)]
  rfl
theorem pf4 {a b c v : V} : putF "_parts" v [("_named", a), ("_parameters", b), ("_body", c)] = ([("_named", a), ("_parameters", b), ("_body", c), ("_parts", v)] : List (Str × V)) := by
  rw [putA (by decide +kernel), putA (by decide +kernel), putA (by decide +kernel)]
  rfl
theorem pf5 {a b c d v : V} : putF "_kinds" v [("_named", a), ("_parameters", b), ("_body", c), ("_parts", d)] = ([("_named", a), ("_parameters", b), ("_body", c), ("_parts", d), ("_kinds", v)] : List (Str × V)) := by
  rw [putA (by decide +kernel), putA (by decide +kernel), putA (by decide +kernel), putA (by decide +kernel)]
  rfl
theorem pf6 {a b c d e v : V} : putF "_words" v [("_named", a), ("_parameters", b), ("_body", c), ("_parts", d), ("_kinds", e)] = ([("_named", a), ("_parameters", b), ("_body", c), ("_parts", d), ("_kinds", e), ("_words", v)] : List (Str × V)) := by
  rw [putA (by decide +kernel), putA (by decide +kernel), putA (by decide +kernel), putA (by decide +kernel), putA (by decide +kernel)]
  rfl
theorem pf7 {a b c d e f v : V} : putF "_uses" v [("_named", a), ("_parameters", b), ("_body", c), ("_parts", d), ("_kinds", e), ("_words", f)] = ([("_named", a), ("_parameters", b), ("_body", c), ("_parts", d), ("_kinds", e), ("_words", f), ("_uses", v)] : List (Str × V)) := by
  rw [putA (by decide +kernel), putA (by decide +kernel), putA (by decide +kernel), putA (by decide +kernel), putA (by decide +kernel), putA (by decide +kernel)]
  rfl
theorem lkH {k : Str} {v : V} {r : List (Str × V)} : List.lookup k ((k, v) :: r) = some v := by
  have e : (k == k) = true := beq_self_eq_true k
  simp only [List.lookup, e]
theorem lkP {k g : Str} {v : V} {r : List (Str × V)} (h : (k == g) = false) : List.lookup k ((g, v) :: r) = List.lookup k r := by
  simp only [List.lookup, h]
theorem lkq4 {a b c d e : V} : ([("_named", a), ("_parameters", b), ("_body", c), ("_parts", d), ("_kinds", e)] : List (Str × V)).lookup ("_parts" : Str) = some d := (lkP (by decide +kernel)).trans ((lkP (by decide +kernel)).trans ((lkP (by decide +kernel)).trans lkH))
theorem lkr4 {a b c d e f : V} : ([("_named", a), ("_parameters", b), ("_body", c), ("_parts", d), ("_kinds", e), ("_words", f)] : List (Str × V)).lookup ("_parts" : Str) = some d := (lkP (by decide +kernel)).trans ((lkP (by decide +kernel)).trans ((lkP (by decide +kernel)).trans lkH))
section
variable {nm : Str} {pv bv : V} {pa ka wa ua : Addr}
theorem lk1 : (prF nm pv bv pa ka wa ua).lookup ("_named" : Str) = some (.str nm) := lkH
theorem lk2 : (prF nm pv bv pa ka wa ua).lookup ("_parameters" : Str) = some pv := (lkP (by decide +kernel)).trans lkH
theorem lk3 : (prF nm pv bv pa ka wa ua).lookup ("_body" : Str) = some bv := (lkP (by decide +kernel)).trans ((lkP (by decide +kernel)).trans lkH)
theorem lk4 : (prF nm pv bv pa ka wa ua).lookup ("_parts" : Str) = some (.ref pa) := (lkP (by decide +kernel)).trans ((lkP (by decide +kernel)).trans ((lkP (by decide +kernel)).trans lkH))
theorem lk5 : (prF nm pv bv pa ka wa ua).lookup ("_kinds" : Str) = some (.ref ka) := (lkP (by decide +kernel)).trans ((lkP (by decide +kernel)).trans ((lkP (by decide +kernel)).trans ((lkP (by decide +kernel)).trans lkH)))
theorem lk6 : (prF nm pv bv pa ka wa ua).lookup ("_words" : Str) = some (.ref wa) := (lkP (by decide +kernel)).trans ((lkP (by decide +kernel)).trans ((lkP (by decide +kernel)).trans ((lkP (by decide +kernel)).trans ((lkP (by decide +kernel)).trans lkH))))
theorem lk7 : (prF nm pv bv pa ka wa ua).lookup ("_uses" : Str) = some (.ref ua) := (lkP (by decide +kernel)).trans ((lkP (by decide +kernel)).trans ((lkP (by decide +kernel)).trans ((lkP (by decide +kernel)).trans ((lkP (by decide +kernel)).trans ((lkP (by decide +kernel)).trans lkH)))))
end
end FS
namespace FS
open PySem PySem.Spec PyProof.Rows L2
theorem len_app (a b : Str) : (a ++ b).length = a.length + b.length := by
  show (a.cps ++ b.cps).size = a.cps.size + b.cps.size
  exact Array.size_append ..
theorem small_log (n : Nat) (h : n < 100) : ((n : Int)).natAbs.log2 < 1920 := by
  have e : ((n : Int)).natAbs = n := rfl
  rw [e]
  exact Nat.lt_of_le_of_lt (Nat.log2_le_self n) (by omega)
end FS

set_option Elab.async false
set_option linter.all false
namespace FS
open PySem PySem.Spec PyProof.Rows L2
def topS (i : Nat) : Stmt := PySem.Challenge.pw_blockshanded_k00_errors_and_what_they_ke.main.body.getD i (.Pass ⟨0, 0, 0, 0⟩)
abbrev sHandError : Stmt := topS 1
abbrev sInvalidProgram : Stmt := topS 2
abbrev sInvalidMeaning : Stmt := topS 3
abbrev sInvalidOperation : Stmt := topS 4
abbrev sInvalidCommand : Stmt := topS 5
abbrev sParseError : Stmt := topS 6
abbrev sParseError__init__ : Stmt := inClass sParseError 0
abbrev sUnknownName : Stmt := topS 7
abbrev sUnknownName__init__ : Stmt := inClass sUnknownName 0
abbrev sInvalidNumber : Stmt := topS 8
abbrev sInvalidNumber__init__ : Stmt := inClass sInvalidNumber 0
abbrev sNothingToUndo : Stmt := topS 9
abbrev sNothingToUndo__init__ : Stmt := inClass sNothingToUndo 0
abbrev sRefused : Stmt := topS 10
abbrev sRefused__init__ : Stmt := inClass sRefused 0
abbrev sTooMany : Stmt := topS 11
abbrev sTooMany__init__ : Stmt := inClass sTooMany 0
abbrev s_law_numbers : Stmt := topS 13
abbrev s_law_cast : Stmt := topS 14
abbrev s_law_pick : Stmt := topS 15
abbrev s_law_of_hands : Stmt := topS 16
abbrev s_law_of_others : Stmt := topS 17
abbrev s_law_right : Stmt := topS 18
abbrev slaw : Stmt := topS 19
end FS

set_option Elab.async false
set_option linter.all false
set_option maxRecDepth 100000
set_option maxHeartbeats 4000000
/-! the law's side: dice, drawn values, tables of parameters -/
namespace FS
open PySem PySem.Spec PyProof.Rows L2
section
variable {X : Cx}
def CPowW (i j : Int) : Prop := 0 ≤ j ∧ (Builtin.Int.intBits i : Int) * j ≤ 2 ^ 27
theorem op_powW : OpR X (binaryOp .Pow) (rI CPowW fun i j => .int (i ^ j.toNat)) := opI fun _ _ _ _ _ _ _ hc q => pow_int hc.1 hc.2 q
end
section
variable {X : Cx} {K : PySem.W.Frag}
theorem ix_listK (h : X.K = K) : IxR X (rIxL K) := by
  subst h
  exact ix_list
theorem sl_tupK (h : X.K = K) : SlR X (rSlA K) := by
  subst h
  exact sl_tupA
theorem op_catAK (h : X.K = K) : OpR X (binaryOp .Add) (rCatA K) := by
  subst h
  exact op_catA
theorem call_lenK (h : X.K = K) : CallR X (.builtin "len") (fun xs H Q => ∃ x n, xs = [x] ∧ LenV K x H n ∧ Q (.int n) H) := by
  subst h
  exact call_len
theorem op_eqDK (h : X.K = K) (hu : X.A.units + 64 < cLine) : OpR X (compareOp .Eq) (rEqD K) := by
  subst h
  exact op_eqD hu
theorem op_neDK (h : X.K = K) (hu : X.A.units + 64 < cLine) : OpR X (compareOp .NotEq) (rNeD K) := by
  subst h
  exact op_neD hu
theorem op_inTK (h : X.K = K) (hu : X.A.units + 65 < cLine) : OpR X (compareOp .In) (rInT K false) := by
  subst h
  exact op_inT hu
theorem pe_bmK {o e : Expr} {es : List Expr} {to : TE} {t : TA} {name : Str} {apos cpos : Pos} {T id : String} {r : V → List V → Hp → VK → Prop} (h : X.K = K) (pa : PlainAttrs T) (slot : Slot T name id) (hty : typeOf (.builtin id) = pure (.type "method_descriptor")) (hm : MtR X id r) (ho : PE X o to) (ha : PA X (e :: es) t)
    (hbase : attributeBase o name X.env (eval o X.env) = eval o X.env := by rfl)
    (hfew : ((backTo cpos (starEach (e :: es) X.env)).all (fun x => !x.1) && (backToKw cpos (keywordEach [] X.env)).all (fun x => x.1.isSome)
      && decide ((e :: es).length + ([] : List Keyword).length + (if ([] : List Keyword).isEmpty then 0 else 1) < 30)) = true := by rfl)
    (hline : (apos.endLine == cpos.line) = true := by rfl) (hs : starEach (e :: es) X.env = (false, eval e X.env) :: starEach es X.env := by rfl) (hplain : (backTo cpos (starEach es X.env)).any (·.1) = false := by rfl) :
    PE X (.Call (.Attribute o name apos) (e :: es) [] cpos) (tBM K T r to t) := by
  subst h
  exact pe_bm pa slot hty hm ho ha hbase hfew hline hs hplain
end
def Die (H : Hp) (a : Addr) : Prop := ∃ x y z : Int, H a = some (.lst [.int x, .int y, .int z])
/-- all but a is as it was, and a is a die -/
def Go (a : Addr) (H H' : Hp) : Prop := (∀ b o, b ≠ a → H b = some o → H' b = some o) ∧ Die H' a
theorem Die.same {H H' : Hp} {a : Addr} (d : Die H a) (s : Same H H') : Die H' a := by
  obtain ⟨x, y, z, e⟩ := d
  exact ⟨x, y, z, s _ _ e⟩
theorem Go.of {H H' : Hp} {a : Addr} (d : Die H a) (s : Same H H') : Go a H H' := ⟨fun b o _ e => s b o e, d.same s⟩
theorem Go.refl {H : Hp} {a : Addr} (d : Die H a) : Go a H H := .of d (.refl H)
theorem Go.trans {H H1 H2 : Hp} {a : Addr} (x : Go a H H1) (y : Go a H1 H2) : Go a H H2 := ⟨fun b o n e => y.1 b o n (x.1 b o n e), y.2⟩
theorem Go.same {H H1 H2 : Hp} {a : Addr} (x : Go a H H1) (y : Same H1 H2) : Go a H H2 := x.trans (.of x.2 y)
theorem Go.setDie {H : Hp} {a : Addr} {x y z : Int} : Go a H (upd H a (.lst [.int x, .int y, .int z])) := ⟨fun b o n e => by rw [upd_ne n]; exact e, x, y, z, upd_same⟩
theorem Go.new {H : Hp} {a p : Addr} {o : HO} (d : Die H a) (h : H p = none) : Go a H (upd H p o) := .of d (same_upd h)
theorem Die.ne {H : Hp} {a p : Addr} (d : Die H a) (h : H p = none) : p ≠ a := fun e => by
  obtain ⟨x, y, z, q⟩ := d
  rw [← e, h] at q
  cases q
/-- a fresh thing may change -/
theorem Go.upd {H H1 : Hp} {a p : Addr} {o : HO} (g : Go a H H1) (np : H p = none) (n : p ≠ a) : Go a H (upd H1 p o) := ⟨fun b u nb e => by
  rw [upd_ne (ne_of_none e np)]
  exact g.1 b u nb e, by
  obtain ⟨x, y, z, e⟩ := g.2
  exact ⟨x, y, z, by rw [upd_ne n.symm]; exact e⟩⟩
theorem Go.seq {K : PySem.W.Frag} {H H' : Hp} {a b : Addr} {xs : List V} (g : Go a H H') (n : b ≠ a) (h : SqL K H b xs) : SqL K H' b xs := by
  rcases h with (h | ⟨o, h⟩) | h
  · exact .inl (.inl (g.1 _ _ n h))
  · exact .inl (.inr ⟨o, g.1 _ _ n h⟩)
  · exact .inr h
theorem Go.tk {H H' : Hp} {a : Addr} (d : Die H a) (g : Go a H H') : TK H H' := fun b o t e => g.1 b o (fun z => by
  subst z
  obtain ⟨x, y, w, q⟩ := d
  rw [q] at e
  cases Option.some.inj e
  cases t) e
def Asc (z : Str) : Prop := ∀ c ∈ z.cps.toList, c < 128
/-- the values that are drawn: none of them the die -/
inductive Knd (H : Hp) (a : Addr) : V → Prop
  | non : Knd H a .non
  | bl (b : Bool) : Knd H a (.bl b)
  | int (i : Int) : Knd H a (.int i)
  | str (z : Str) (h : z.length ≤ 30000) (h2 : Asc z) : Knd H a (.str z)
  | tup {p : Addr} {xs : List V} (n : p ≠ a) (e : H p = some (.tup xs)) : Knd H a (.ref p)
  | lst {p : Addr} {xs : List V} (n : p ≠ a) (e : H p = some (.lst xs)) : Knd H a (.ref p)
  | dct {p : Addr} {kvs : List (Key × V)} (n : p ≠ a) (e : H p = some (.dK kvs)) : Knd H a (.ref p)
theorem Knd.go {H H' : Hp} {a : Addr} {v : V} (k : Knd H a v) (g : Go a H H') : Knd H' a v := by
  cases k with
  | non => exact .non
  | bl b => exact .bl b
  | int i => exact .int i
  | str z h h2 => exact .str z h h2
  | tup n e => exact .tup n (g.1 _ _ n e)
  | lst n e => exact .lst n (g.1 _ _ n e)
  | dct n e => exact .dct n (g.1 _ _ n e)
theorem Knd.nw {H : Hp} {a p : Addr} {o : HO} {v : V} (d : Die H a) (h : H p = none) (k : Knd H a v) : Knd (upd H p o) a v := k.go (.new d h)
def KL (H : Hp) (a : Addr) (xs : List V) : Prop := ∀ v ∈ xs, Knd H a v
theorem KL.go {H H' : Hp} {a : Addr} {xs : List V} (k : KL H a xs) (g : Go a H H') : KL H' a xs := fun v h => (k v h).go g
theorem KL.nil {H : Hp} {a : Addr} : KL H a [] := fun v h => nomatch h
theorem KL.cons {H : Hp} {a : Addr} {x : V} {xs : List V} (h : Knd H a x) (k : KL H a xs) : KL H a (x :: xs) := fun v hv => by
  rcases List.mem_cons.mp hv with rfl | e
  · exact h
  · exact k v e
/-- one new object more among the known ones; which heap it is is forgotten -/
theorem nwT {H0 H H' : Hp} {a p : Addr} {xs ys : List V} (e : upd H p (.tup ys) = H') (g : Go a H0 H) (k : KL H a xs) (h : H p = none) : Go a H0 H' ∧ KL H' a (.ref p :: xs) ∧ Go a H H' ∧ H' p = some (.tup ys) ∧ p ≠ a := by
  subst e
  exact ⟨g.trans (.new g.2 h), .cons (.tup (g.2.ne h) upd_same) (k.go (.new g.2 h)), .new g.2 h, upd_same, g.2.ne h⟩
theorem nwL {H0 H H' : Hp} {a p : Addr} {xs ys : List V} (e : upd H p (.lst ys) = H') (g : Go a H0 H) (k : KL H a xs) (h : H p = none) : Go a H0 H' ∧ KL H' a (.ref p :: xs) ∧ Go a H H' ∧ H' p = some (.lst ys) ∧ p ≠ a := by
  subst e
  exact ⟨g.trans (.new g.2 h), .cons (.lst (g.2.ne h) upd_same) (k.go (.new g.2 h)), .new g.2 h, upd_same, g.2.ne h⟩
theorem nwD {H0 H H' : Hp} {a p : Addr} {xs : List V} {ys : List (Key × V)} (e : upd H p (.dK ys) = H') (g : Go a H0 H) (k : KL H a xs) (h : H p = none) : Go a H0 H' ∧ KL H' a (.ref p :: xs) ∧ Go a H H' ∧ H' p = some (.dK ys) ∧ p ≠ a := by
  subst e
  exact ⟨g.trans (.new g.2 h), .cons (.dct (g.2.ne h) upd_same) (k.go (.new g.2 h)), .new g.2 h, upd_same, g.2.ne h⟩
/-- the drawn values are no procedures -/
structure NoP (K : PySem.W.Frag) (C : Addr) : Prop where
  kn : PySem.W.kitOne K (.type "NoneType") (.ref C) = some false
  kb : PySem.W.kitOne K (.type "bool") (.ref C) = some false
  ki : PySem.W.kitOne K (.type "int") (.ref C) = some false
  ks : PySem.W.kitOne K (.type "str") (.ref C) = some false
  kt : PySem.W.kitOne K (.type "tuple") (.ref C) = some false
  kl : PySem.W.kitOne K (.type "list") (.ref C) = some false
  kd : PySem.W.kitOne K (.type "dict") (.ref C) = some false
  nn : PySem.W.notFirst K C (.type "NoneType") = true
  nb : PySem.W.notFirst K C (.type "bool") = true
  ni : PySem.W.notFirst K C (.type "int") = true
  ns : PySem.W.notFirst K C (.type "str") = true
  nt : PySem.W.notFirst K C (.type "tuple") = true
  nl : PySem.W.notFirst K C (.type "list") = true
  nd : PySem.W.notFirst K C (.type "dict") = true
theorem Knd.nop {K : PySem.W.Frag} {C : Addr} {H : Hp} {a : Addr} {v : V} (k : Knd H a v) (n : NoP K C) : ∃ t, TyX K H v t ∧ PySem.W.kitOne K t (.ref C) = some false ∧ PySem.W.notFirst K C t = true := by
  cases k with
  | non => exact ⟨_, .base .non, n.kn, n.nn⟩
  | bl b => exact ⟨_, .base (.bl b), n.kb, n.nb⟩
  | int i => exact ⟨_, .base (.int i), n.ki, n.ni⟩
  | str z h h2 => exact ⟨_, .base (.str z), n.ks, n.ns⟩
  | tup _ e => exact ⟨_, .base (.tup e), n.kt, n.nt⟩
  | lst _ e => exact ⟨_, .base (.lst e), n.kl, n.nl⟩
  | dct _ e => exact ⟨_, .base (.dK e), n.kd, n.nd⟩
theorem seq_at {k n : Nat} (h : k < n) : seqIndex? (k : Int) n = some k := by
  unfold seqIndex?
  have h1 : ¬ ((k : Int) < 0) := by omega
  rw [if_neg h1]
  have h2 : (decide ((0 : Int) ≤ (k : Int)) && decide ((k : Int) < (n : Int))) = true := by
    rw [decide_eq_true (by omega : (0 : Int) ≤ (k : Int)), decide_eq_true (by omega : (k : Int) < (n : Int))]
    rfl
  simp only [h2, if_true]
  rfl
theorem erase_perm {α : Type} : ∀ {l : List α} {k : Nat} (h : k < l.length), (l[k] :: l.eraseIdx k).Perm l
  | x :: r, 0, _ => .refl _
  | x :: r, k + 1, h => by
    show (r[k]'(by simpa using h) :: x :: r.eraseIdx k).Perm (x :: r)
    exact (List.Perm.swap _ _ _).trans ((erase_perm (l := r) (k := k) (by simpa using h)).cons x)
theorem erase_map {α β : Type} (f : α → β) : ∀ (l : List α) (k : Nat), (l.map f).eraseIdx k = (l.eraseIdx k).map f
  | [], _ => rfl
  | _ :: _, 0 => rfl
  | x :: r, k + 1 => by
    show f x :: (r.map f).eraseIdx k = f x :: (r.eraseIdx k).map f
    rw [erase_map f r k]
theorem cut_ne {α : Type} {xs : List α} {k : Nat} (hk : 0 < k) (hne : xs ≠ []) : HT.sIx xs.length 0 (some (k : Int)) ≠ 0 := by
  rw [HT.sIx_nat]
  have : 0 < xs.length := List.length_pos_iff.mpr hne
  omega
/-! ### tables of parameters -/
abbrev Tbl := List (Str × List (Str × Bool))
inductive TabV (K : PySem.W.Frag) (H : Hp) : List (Key × V) → Tbl → Prop
  | nil : TabV K H [] []
  | cons {x : Str} {v : V} {own : List (Str × Bool)} {kvs : List (Key × V)} {tb : Tbl} (h : Dp K H v (parsD own)) (po : ParOk own) (wd : wordB x = true) (r : TabV K H kvs tb) : TabV K H ((Sum.inr x, v) :: kvs) ((x, own) :: tb)
def TabAt (K : PySem.W.Frag) (H : Hp) (a : Addr) (tb : Tbl) : Prop := ∃ kvs, H a = some (.dK kvs) ∧ TabV K H kvs tb ∧ tb.length ≤ 8
theorem TabV.tk {K : PySem.W.Frag} {H H' : Hp} (e : TK H H') {kvs : List (Key × V)} {tb : Tbl} (t : TabV K H kvs tb) : TabV K H' kvs tb := by
  induction t with
  | nil => exact .nil
  | cons h po wd r ih => exact .cons (Dp.tk e (pars_noL _) h) po wd ih
theorem TabV.keys {K : PySem.W.Frag} {H : Hp} {kvs : List (Key × V)} {tb : Tbl} (t : TabV K H kvs tb) : kvs.map (·.1) = (tb.map (·.1)).map Sum.inr := by
  induction t with
  | nil => rfl
  | cons h po wd r ih => rw [List.map_cons, ih]; rfl
theorem TabV.get {K : PySem.W.Frag} {H : Hp} {kvs : List (Key × V)} {tb : Tbl} (t : TabV K H kvs tb) {x : Str} (h : x ∈ tb.map (·.1)) : ∃ v own, valV kvs (Sum.inr x) = some v ∧ Dp K H v (parsD own) ∧ ParOk own ∧ (x, own) ∈ tb ∧ wordB x = true ∧ tb.lookup x = some own := by
  induction t with
  | nil => cases h
  | @cons y v own kvs tb hd po wd r ih =>
    by_cases e : y = x
    · subst e
      exact ⟨v, own, valV_pos rfl, hd, po, List.mem_cons_self, wd, by simp [List.lookup]⟩
    · have h2 : x ∈ tb.map (·.1) := by
        rcases List.mem_cons.mp h with z | z
        · exact absurd z.symm e
        · exact z
      obtain ⟨v2, own2, h3, h4, h5, h6, h7, h8⟩ := ih h2
      refine ⟨v2, own2, ?_, h4, h5, List.mem_cons_of_mem _ h6, h7, ?_⟩
      · rw [valV_neg (fun z => e (Sum.inr.inj z))]
        exact h3
      · have : (x == y) = false := by simpa using fun z : x = y => e z.symm
        simp only [List.lookup, this]
        exact h8
theorem TabAt.go {K : PySem.W.Frag} {H H' : Hp} {D a : Addr} {tb : Tbl} (d : Die H D) (g : Go D H H') (t : TabAt K H a tb) : TabAt K H' a tb := by
  obtain ⟨kvs, h1, h2, h3⟩ := t
  refine ⟨kvs, g.1 _ _ (fun z => ?_) h1, h2.tk (g.tk d), h3⟩
  subst z
  obtain ⟨x, y, w, q⟩ := d
  rw [q] at h1
  cases h1
theorem TabAt.same {K : PySem.W.Frag} {H H' : Hp} {a : Addr} {tb : Tbl} (s : Same H H') (t : TabAt K H a tb) : TabAt K H' a tb := by
  obtain ⟨kvs, h1, h2, h3⟩ := t
  exact ⟨kvs, s _ _ h1, h2.tk (.of s), h3⟩
/-! ### the promises -/
def spNumbers (K : PySem.W.Frag) : Sp := fun vs H Q _ => ∃ (a : Addr) (ns : List Int) (i : Nat), vs = [.ref a, .int (i : Int)] ∧ SqL K H a (ns.map V.int) ∧ i ≤ 1000 ∧ ∀ H' p, Same H H' → H p = none → Die H' p → Q (.ref p) H'
def spCast : Sp := fun vs H Q _ => ∃ (a : Addr) (n : Int), vs = [.ref a, .int n] ∧ Die H a ∧ 0 < n ∧ n < 1000000 ∧ ∀ r H', 0 ≤ r → r < n → Go a H H' → (∀ b, b ≠ a → H' b = H b) → Q (.int r) H'
def spPick (K : PySem.W.Frag) : Sp := fun vs H Q _ => ∃ (a b : Addr) (xs : List V), Die H a ∧ vs = [.ref a, .ref b] ∧ SqL K H b xs ∧ b ≠ a ∧ xs ≠ [] ∧ xs.length < 1000 ∧ ∀ v H', v ∈ xs → Go a H H' → (∀ b, b ≠ a → H' b = H b) → Q v H'
def spOdd : Sp := fun vs H Q _ => ∃ (a : Addr), vs = [.ref a] ∧ Die H a ∧ ∀ v H', Go a H H' → Knd H' a v → Q v H'
def spShuffle (K : PySem.W.Frag) : Sp := fun vs H Q _ => ∃ (a b : Addr) (ys : List Str), vs = [.ref a, .ref b] ∧ Die H a ∧ SqL K H b (ys.map V.str) ∧ b ≠ a ∧ ys.length ≤ 100 ∧ ∀ (zs : List Str) H' p, zs.Perm ys → Go a H H' → H p = none → p ≠ a → H' p = some (.lst (zs.map V.str)) → Q (.ref p) H'
def namesOf (own : List (Str × Bool)) (k : Bool) : List Str := (own.filter fun p => p.2 == k).map (·.1)
def spOwn (K : PySem.W.Frag) : Sp := fun vs H Q _ => ∃ (v : V) (own : List (Str × Bool)) (k : Bool), vs = [v, .str (kd k)] ∧ Dp K H v (parsD own) ∧ own.length ≤ 100 ∧ ∀ H' p, Same H H' → H p = none → H' p = some (.lst ((namesOf own k).map V.str)) → Q (.ref p) H'
def cb : Nat → Nat
  | 0 => 0
  | n + 1 => 1 + 3 * cb n
/-- how a head fits the modes and the table -/
def fitH (m : Int) (tb : Tbl) : Hd → List Bool → Bool
  | .deed _ t, _ => decide ((t.length : Int) = m) && t.all (fun e => match e with | none => true | some n => decide ((n : Int) < m))
  | .call x, ks => decide ((tb.lookup x).map (fun o => o.map (·.2)) = some ks)
  | .wth x, ks => decide ((tb.lookup x).map (fun o => o.map (·.2)) = some (ks ++ [false]))
  | _, _ => true
/-- right by its form, and fits -/
inductive GF (m : Int) (tb : Tbl) (own : List (Str × Bool)) : Tm → Prop
  | mk {h : Hd} {ks : List Tm} (ok : h.ok own ks.length = true) (kk : h.kidsOk (ks.map Tm.isW) = true) (kids : ∀ t ∈ ks, GF m tb own t) (fit : fitH m tb h (ks.map Tm.isW) = true) : GF m tb own (.mk h ks)
theorem GF.good {m : Int} {tb : Tbl} {own : List (Str × Bool)} {t : Tm} (g : GF m tb own t) : Good own t := by
  induction g with
  | mk ok kk _ _ ih => exact .mk ok kk ih
mutual
theorem fits_all {m : Int} {tb : Tbl} {own : List (Str × Bool)} : ∀ (t : Tm), GF m tb own t → ∀ u ∈ t.all, fitH m tb u.hd (u.kids.map Tm.isW) = true
  | .mk h ks, g, u, hu => by
    cases g with
    | mk ok kk kids fit =>
      rcases List.mem_cons.mp (show u ∈ Tm.mk h ks :: alls ks from hu) with rfl | hu
      · exact fit
      · exact fits_alls ks kids u hu
theorem fits_alls {m : Int} {tb : Tbl} {own : List (Str × Bool)} : ∀ (ks : List Tm), (∀ t ∈ ks, GF m tb own t) → ∀ u ∈ alls ks, fitH m tb u.hd (u.kids.map Tm.isW) = true
  | t :: r, g, u, hu => by
    rcases List.mem_append.mp (show u ∈ t.all ++ alls r from hu) with hu | hu
    · exact fits_all t (g t List.mem_cons_self) u hu
    · exact fits_alls r (fun x hx => g x (List.mem_cons_of_mem _ hx)) u hu
end
/-- v is a drawn part -/
structure Got (K : PySem.W.Frag) (H : Hp) (m : Int) (tb : Tbl) (own : List (Str × Bool)) (n : Nat) (b : Bool) (v : V) (t : Tm) : Prop where
  dp : Dp K H v t.data
  good : GF m tb own t
  kind : t.isW = b
  deep : t.deep ≤ n
  few : t.count ≤ cb n
theorem Got.tk {K : PySem.W.Frag} {H H' : Hp} {m : Int} {tb : Tbl} {own : List (Str × Bool)} {n : Nat} {b : Bool} {v : V} {t : Tm} (g : Got K H m tb own n b v t) (e : TK H H') : Got K H' m tb own n b v t := ⟨Dp.tk e t.noL g.dp, g.good, g.kind, g.deep, g.few⟩
theorem got_ne {K : PySem.W.Frag} {H : Hp} {m : Int} {tb : Tbl} {own : List (Str × Bool)} {n : Nat} {b : Bool} {v : V} {t : Tm} (g : Got K H m tb own n b v t) : v ≠ .non := fun z => by
  obtain ⟨h, ks⟩ := t
  obtain ⟨a, rs, kv, e, _⟩ := tm_open g.dp
  rw [z] at e
  cases e
/-- what a drawer of parts is called with -/
structure Ask (K : PySem.W.Frag) (H : Hp) (D ta : Addr) (m : Int) (tb : Tbl) (ov : V) (own : List (Str × Bool)) : Prop where
  die : Die H D
  tab : TabAt K H ta tb
  ne : tb ≠ []
  par : Dp K H ov (parsD own)
  po : ParOk own
  m1 : 1 ≤ m
  m3 : m ≤ 3
theorem Ask.go {K : PySem.W.Frag} {H H' : Hp} {D ta : Addr} {m : Int} {tb : Tbl} {ov : V} {own : List (Str × Bool)} (a : Ask K H D ta m tb ov own) (g : Go D H H') : Ask K H' D ta m tb ov own :=
  ⟨g.2, a.tab.go a.die g, a.ne, Dp.tk (g.tk a.die) (pars_noL own) a.par, a.po, a.m1, a.m3⟩
theorem Ask.same {K : PySem.W.Frag} {H H' : Hp} {D ta : Addr} {m : Int} {tb : Tbl} {ov : V} {own : List (Str × Bool)} (a : Ask K H D ta m tb ov own) (s : Same H H') : Ask K H' D ta m tb ov own := a.go (.of a.die s)
def entB (e : Option Nat) : Bool := match e with | none => true | some n => decide (n < 3)
def entryV : Option Nat → V
  | none => .non
  | some n => .int n
def entK (k : Nat) (e : Option Nat) : Bool := match e with | none => true | some n => decide (n < k)
theorem entK_B {k : Nat} {e : Option Nat} (h3 : k ≤ 3) (h : entK k e = true) : entB e = true := by
  cases e with
  | none => rfl
  | some n => exact decide_eq_true (Nat.lt_of_lt_of_le (of_decide_eq_true h) h3)
theorem deed_fit {k : Nat} {z : Str} {es : List (Option Nat)} {tb : Tbl} (l : es.length = k) (h : ∀ e ∈ es, entK k e = true) : fitH (k : Int) tb (.deed z es) [] = true := by
  show (decide ((es.length : Int) = (k : Int)) && es.all (fun e => match e with | none => true | some n => decide ((n : Int) < (k : Int)))) = true
  rw [decide_eq_true (by omega), List.all_eq_true.mpr fun e he => ?_]
  · rfl
  · have := h e he
    cases e with
    | none => rfl
    | some n =>
      have l := of_decide_eq_true this
      exact decide_eq_true (by omega)
def spDeed (K : PySem.W.Frag) : Sp := fun vs H Q _ => ∃ (D : Addr) (m : Int), vs = [.ref D, .int m] ∧ Die H D ∧ 1 ≤ m ∧ m ≤ 3 ∧ ∀ v H' t, Go D H H' → (∀ tb own, Got K H' m tb own 1 false v t) → Q v H'
/-- the parts that are given for some kinds -/
def Gives (K : PySem.W.Frag) (H : Hp) (m : Int) (tb : Tbl) (own : List (Str × Bool)) (n : Nat) (ks : List Bool) (us : List Tm) : Prop := (∀ u ∈ us, GF m tb own u ∧ u.deep ≤ n ∧ u.count ≤ cb n) ∧ us.map Tm.isW = ks
def spTermD (K : PySem.W.Frag) (n : Nat) : Sp := fun vs H Q _ => ∃ (D ta : Addr) (m : Int) (tb : Tbl) (ov : V) (own : List (Str × Bool)), vs = [.ref D, .int m, .ref ta, ov, .int (n : Int)] ∧ Ask K H D ta m tb ov own ∧ 1 ≤ n ∧ n ≤ 6 ∧ ∀ v H' t, Go D H H' → Got K H' m tb own n false v t → Q v H'
def spWrap (K : PySem.W.Frag) (n : Nat) : Sp := fun vs H Q _ => ∃ (D ta : Addr) (m : Int) (tb : Tbl) (ov : V) (own : List (Str × Bool)), vs = [.ref D, .int m, .ref ta, ov, .int (n : Int)] ∧ Ask K H D ta m tb ov own ∧ 1 ≤ n ∧ n ≤ 6 ∧
  (∀ H', Go D H H' → Q .non H') ∧ ∀ v H' t, Go D H H' → Got K H' m tb own n true v t → Q v H'
def spGiven (K : PySem.W.Frag) (n : Nat) : Sp := fun vs H Q _ => ∃ (D ta kl : Addr) (m : Int) (tb : Tbl) (ov : V) (own : List (Str × Bool)) (ks : List Bool), vs = [.ref D, .int m, .ref ta, ov, .ref kl, .int (n : Int)] ∧ Ask K H D ta m tb ov own ∧ n ≤ 6 ∧ H kl = some (.lst ((ks.map kd).map V.str)) ∧ kl ≠ D ∧ ks.length ≤ 3 ∧
  (∀ H', Go D H H' → Q .non H') ∧ ∀ p vs' us H', Go D H H' → SqT K H' p vs' → DpAll K H' vs' (datas us) → Gives K H' m tb own n ks us → Q (.ref p) H'
end FS

set_option Elab.async false
set_option linter.all false
set_option maxRecDepth 100000
set_option maxHeartbeats 4000000
namespace FS
open PySem PySem.Spec PyProof.Rows L2
theorem u1 {k : Nat} {A : Around} (r : L2.Room k A) : A.units + 1 < cLine := by
  have := r.un
  omega
theorem strs_lay : ∀ ys : List Str, (∀ z ∈ ys, PyData.strOk z = true) → PyData.canLayAll0 (ys.map PyData.str) = true ∧ PyData.depthAll (ys.map PyData.str) = 0
  | [], _ => ⟨rfl, rfl⟩
  | y :: r, h => by
    obtain ⟨h1, h2⟩ := strs_lay r fun z hz => h z (List.mem_cons_of_mem _ hz)
    refine ⟨?_, ?_⟩
    · show (PyData.strOk y && PyData.canLayAll0 (r.map PyData.str)) = true
      rw [h y List.mem_cons_self, h1]
      rfl
    · show max 0 (PyData.depthAll (r.map PyData.str)) = 0
      rw [h2]
      rfl
theorem list_shaped {ys : List Str} (h : ∀ z ∈ ys, PyData.strOk z = true) : SeqAt.shaped (.list (ys.map PyData.str)) = true := by
  obtain ⟨h1, h2⟩ := strs_lay ys h
  unfold SeqAt.shaped
  rw [show PyData.canLay0 (.list (ys.map PyData.str)) = true from h1, decide_eq_true (show PyData.depth (.list (ys.map PyData.str)) ≤ 64 by
    show PyData.depthAll (ys.map PyData.str) + 1 ≤ 64
    omega)]
  rfl
theorem ne_nil {K : PySem.W.Frag} {H : Hp} {p q : Addr} {ys : List Str} {Q : VK} (e : H p = some (.lst (ys.map V.str))) (f : H q = some (.lst [])) (ok : ∀ z ∈ ys, PyData.strOk z = true) (h : Q (.bl (!ys.isEmpty)) H) : rNeD K (.ref p) (.ref q) H Q := by
  refine ⟨.list (ys.map PyData.str), .list [], .lst (.inl (.inl e)) (dp_strs ys), .lst (.inl (.inl f)) .nil, list_shaped ok, rfl, ?_⟩
  have : PyData.eqv (.list (ys.map PyData.str)) (.list []) = ys.isEmpty := by
    cases ys <;> rfl
  rw [this]
  exact h
theorem neg_ix (n d : Nat) : HT.sIx n d (some (-1)) = n - 1 := by
  show (if (-1 : Int) < 0 then ((-1 : Int) + (n : Int)).toNat else min (-1 : Int).toNat n) = n - 1
  rw [if_pos (by omega)]
  omega
/-- xs[-1:] -/
theorem cut_last {K : PySem.W.Frag} {H : Hp} {a : Addr} {xs : List V} {Q : VK} (sq : SqT K H a xs) (q : ∀ H' p, Same H H' → SqT K H' p (xs.drop (xs.length - 1)) → Q (.ref p) H') : rSlA K (.ref a) (some (-1)) none H Q := by
  refine ⟨a, xs, rfl, sq, fun z => ?_, fun _ p np => q _ p (same_upd np) (.inl (.inl ?_))⟩
  · have e := z.1
    rw [neg_ix] at e
    have := q H a (.refl H)
    rw [e] at this
    exact this sq
  · rw [upd_same]
    show some (HO.tup ((xs.drop (HT.sIx xs.length 0 (some (-1)))).take (xs.length - HT.sIx xs.length 0 (some (-1))))) = _
    rw [neg_ix, List.take_of_length_le (by rw [List.length_drop]; exact Nat.le_refl _)]
/-- xs[:-1] -/
theorem cut_init {K : PySem.W.Frag} {H : Hp} {a : Addr} {xs : List V} {Q : VK} (sq : SqT K H a xs) (q : ∀ H' p, Same H H' → SqT K H' p (xs.take (xs.length - 1)) → Q (.ref p) H') : rSlA K (.ref a) none (some (-1)) H Q := by
  refine ⟨a, xs, rfl, sq, fun z => ?_, fun _ p np => q _ p (same_upd np) (.inl (.inl ?_))⟩
  · have e := z.2
    rw [neg_ix] at e
    have := q H a (.refl H)
    rw [e, List.take_length] at this
    exact this sq
  · rw [upd_same]
    show some (HO.tup ((xs.drop 0).take (HT.sIx xs.length xs.length (some (-1)) - 0))) = _
    rw [neg_ix]
    rfl
/-- xs + ys, of tuples -/
theorem cat_tup {K : PySem.W.Frag} {H : Hp} {a b : Addr} {xs ys : List V} {Q : VK} (sx : SqT K H a xs) (sy : SqT K H b ys) (hne : xs ≠ []) (hl : xs.length + ys.length < 16000) (q : ∀ H' p, Same H H' → SqT K H' p (xs ++ ys) → Q (.ref p) H') : rCatA K (.ref a) (.ref b) H Q := by
  refine ⟨a, b, xs, ys, rfl, rfl, sx, sy, Nat.le_of_lt (small16 hl), fun z => absurd z hne, fun _ e => ?_, fun _ _ p np => q _ p (same_upd np) (.inl (.inl upd_same))⟩
  subst e
  have := q H a (.refl H)
  rw [List.append_nil] at this
  exact this sx
theorem gives_deep {us : List Tm} {j c : Nat} (h : ∀ u ∈ us, u.deep ≤ j ∧ u.count ≤ c) : deeps us ≤ j ∧ counts us ≤ us.length * c := by
  induction us with
  | nil => exact ⟨Nat.zero_le _, Nat.zero_le _⟩
  | cons u r ih =>
    obtain ⟨h1, h2⟩ := ih fun z hz => h z (List.mem_cons_of_mem _ hz)
    obtain ⟨h3, h4⟩ := h u List.mem_cons_self
    refine ⟨?_, ?_⟩
    · show max u.deep (deeps r) ≤ j
      omega
    · rw [counts_cons, List.length_cons, Nat.succ_mul]
      omega
theorem names_ok {own : List (Str × Bool)} {k : Bool} {z : Str} (h : z ∈ namesOf own k) : (z, k) ∈ own := by
  obtain ⟨p, hp, rfl⟩ := List.mem_map.mp h
  obtain ⟨h1, h2⟩ := List.mem_filter.mp hp
  rw [← beq_iff_eq.mp h2]
  exact h1
theorem names_word {own : List (Str × Bool)} (po : ParOk own) {k : Bool} {z : Str} (h : z ∈ namesOf own k) : PyData.strOk z = true := (word_ok (po.nms _ (names_ok h))).1
theorem names_few {own : List (Str × Bool)} (po : ParOk own) (k : Bool) : (namesOf own k).length ≤ 3 := by
  unfold namesOf
  rw [List.length_map]
  exact Nat.le_trans (List.length_filter_le _ _) po.few
theorem cb_pos {n : Nat} (h : 1 ≤ n) : 1 ≤ cb n := by
  cases n with
  | zero => omega
  | succ n =>
    show 1 ≤ 1 + 3 * cb n
    omega
/-- own and run -/
theorem got_leaf {K : PySem.W.Frag} {H : Hp} {mo : Int} {tb : Tbl} {own : List (Str × Bool)} {n : Nat} {p : Addr} {z : Str} {k : Bool} (hn : 1 ≤ n) (e : SqT K H p [V.str (if k then "own" else "run"), V.str z]) (m : (z, k) ∈ own) : ∃ t, Got K H mo tb own n k (.ref p) t := by
  have c1 := cb_pos hn
  cases k with
  | true => exact ⟨.mk (.own z) [], .tup e (.cons (.str _) (.cons (.str _) .nil)), .mk (by show (decide ((z, true) ∈ own) && decide (([] : List Tm).length = 0)) = true; rw [decide_eq_true m]; rfl) rfl (fun t h => nomatch h) rfl, rfl, hn, c1⟩
  | false => exact ⟨.mk (.run z) [], .tup e (.cons (.str _) (.cons (.str _) .nil)), .mk (by show (decide ((z, false) ∈ own) && decide (([] : List Tm).length = 0)) = true; rw [decide_eq_true m]; rfl) rfl (fun t h => nomatch h) rfl, rfl, hn, c1⟩
/-- a call, or with, of given parts -/
theorem got_call {K : PySem.W.Frag} {H : Hp} {mo : Int} {tb : Tbl} {own : List (Str × Bool)} {j : Nat} {p : Addr} {x : Str} {vs : List V} {us : List Tm} {ks : List Bool} (b : Bool) (wd : wordB x = true) (e : SqT K H p (V.str (if b then "with" else "call") :: V.str x :: vs)) (r : DpAll K H vs (datas us)) (g : Gives K H mo tb own j ks us) (k3 : ks.length ≤ 3) (ft : (tb.lookup x).map (fun o => o.map (·.2)) = some (if b then ks ++ [false] else ks)) : ∃ t, Got K H mo tb own (j + 1) b (.ref p) t := by
  obtain ⟨g1, g2⟩ := g
  obtain ⟨d1, d2⟩ := gives_deep fun u hu => (g1 u hu).2
  have l : us.length ≤ 3 := by rw [← g2, List.length_map] at k3; exact k3
  have c : 1 + counts us ≤ cb (j + 1) := by
    show 1 + counts us ≤ 1 + 3 * cb j
    have := Nat.mul_le_mul_right (cb j) l
    omega
  cases b with
  | true => exact ⟨.mk (.wth x) us, .tup e (.cons (.str _) (.cons (.str _) r)), .mk wd rfl (fun u hu => (g1 u hu).1) (by rw [g2]; exact decide_eq_true ft), rfl, Nat.succ_le_succ d1, by rw [count_eq]; exact c⟩
  | false => exact ⟨.mk (.call x) us, .tup e (.cons (.str _) (.cons (.str _) r)), .mk wd rfl (fun u hu => (g1 u hu).1) (by rw [g2]; exact decide_eq_true ft), rfl, Nat.succ_le_succ d1, by rw [count_eq]; exact c⟩
end FS
namespace FS
open PySem PySem.Spec PyProof.Rows L2
theorem ParOk.sub {o l : List (Str × Bool)} (h : ParOk o) (s : l.Sublist o) : ParOk l := ⟨Nat.le_trans s.length_le h.few, fun p hp => h.nms p (s.mem hp), (h.nd.sublist (s.map _))⟩
theorem eqv_pars (l : List (Str × Bool)) : PyData.eqv (.tuple (l.map parD)) (.tuple []) = l.isEmpty := by
  cases l <;> rfl
theorem last_empty {α : Type} (l : List α) : (l.drop (l.length - 1)).isEmpty = l.isEmpty := by
  cases l with
  | nil => rfl
  | cons x r =>
    have h : ((x :: r).drop ((x :: r).length - 1)).length = 1 := by
      rw [List.length_drop, List.length_cons]
      omega
    cases e : (x :: r).drop ((x :: r).length - 1) with
    | nil => rw [e] at h; cases h
    | cons a b => rfl
theorem at_last {l : List V} {x : V} (h : l[l.length - 1]? = some x) : atI l (-1) = some x := by
  have hl : 0 < l.length := by
    have := (List.getElem?_eq_some_iff.mp h).1
    omega
  unfold atI ixN
  rw [if_neg (by omega)]
  have e : (((-1 : Int) + (l.length : Int)).toNat) = l.length - 1 := by omega
  first
    | (rw [if_pos (by omega)]; show l[((-1 : Int) + (l.length : Int)).toNat]? = _; rw [e]; exact h)
    | (simp; rw [e]; exact h)
theorem DpAll.take9 {K : PySem.W.Frag} {H : Hp} : ∀ (n : Nat) {vs : List V} {ds : List PyData}, DpAll K H vs ds → DpAll K H (vs.take n) (ds.take n)
  | 0, _, _, _ => .nil
  | n + 1, _, _, .nil => .nil
  | n + 1, _, _, .cons h r => .cons h (DpAll.take9 n r)
theorem cb_mono {n : Nat} : cb 1 ≤ cb (n + 1) := by
  show 1 + 3 * 0 ≤ 1 + 3 * cb n
  omega
theorem got_up {K : PySem.W.Frag} {H : Hp} {mo : Int} {tb : Tbl} {own : List (Str × Bool)} {n : Nat} {b : Bool} {v : V} {t : Tm} (g : Got K H mo tb own 1 b v t) : Got K H mo tb own (n + 1) b v t := ⟨g.dp, g.good, g.kind, Nat.le_trans g.deep (by omega), Nat.le_trans g.few cb_mono⟩
/-- seq and or -/
theorem got_seq {K : PySem.W.Frag} {H : Hp} {mo : Int} {tb : Tbl} {own : List (Str × Bool)} {j : Nat} {p : Addr} {vs : List V} {us : List Tm} (b : Bool) (hb : b = true → 0 < us.length) (e : SqT K H p (V.str (if b then "or" else "seq") :: vs)) (r : DpAll K H vs (datas us)) (g : ∀ u ∈ us, GF mo tb own u ∧ u.isW = false ∧ u.deep ≤ j ∧ u.count ≤ cb j) (k3 : us.length ≤ 3) : ∃ t, Got K H mo tb own (j + 1) false (.ref p) t := by
  obtain ⟨d1, d2⟩ := gives_deep fun u hu => (g u hu).2.2
  have c : 1 + counts us ≤ cb (j + 1) := by
    show 1 + counts us ≤ 1 + 3 * cb j
    have := Nat.mul_le_mul_right (cb j) k3
    omega
  have al : (us.map Tm.isW).all (! ·) = true := by
    rw [List.all_map]
    exact List.all_eq_true.mpr fun u hu => by
      show (!u.isW) = true
      rw [(g u hu).2.1]
      rfl
  cases b with
  | true => exact ⟨.mk .alt us, .tup e (.cons (.str _) r), .mk (decide_eq_true (hb rfl)) al (fun u hu => (g u hu).1) rfl, rfl, Nat.succ_le_succ d1, by rw [count_eq]; exact c⟩
  | false => exact ⟨.mk .seq us, .tup e (.cons (.str _) r), .mk rfl al (fun u hu => (g u hu).1) rfl, rfl, Nat.succ_le_succ d1, by rw [count_eq]; exact c⟩
theorem got_wrap {K : PySem.W.Frag} {H : Hp} {mo : Int} {tb : Tbl} {own : List (Str × Bool)} {j : Nat} {p : Addr} {v1 v2 : V} {t1 t2 : Tm} (e : SqT K H p [V.str "wrap", v1, v2]) (g1 : Got K H mo tb own j true v1 t1) (g2 : Got K H mo tb own j false v2 t2) : ∃ t, Got K H mo tb own (j + 1) false (.ref p) t := by
  refine ⟨.mk .wrp [t1, t2], .tup e (.cons (.str _) (.cons g1.dp (.cons g2.dp .nil))), .mk rfl ?_ ?_ rfl, rfl, ?_, ?_⟩
  · show decide ([t1.isW, t2.isW] = [true, false]) = true
    rw [g1.kind, g2.kind]
    rfl
  · intro u hu
    rcases List.mem_cons.mp hu with rfl | hu
    · exact g1.good
    · rw [List.mem_singleton.mp hu]
      exact g2.good
  · show max t1.deep (max t2.deep 0) + 1 ≤ j + 1
    have := g1.deep
    have := g2.deep
    omega
  · rw [count_eq]
    show 1 + counts [t1, t2] ≤ 1 + 3 * cb j
    have := g1.few
    have := g2.few
    rw [counts_cons, counts_cons]
    show 1 + (t1.count + (t2.count + 0)) ≤ _
    omega
theorem last_block {o : List (Str × Bool)} (h : o.length - 1 < o.length) (e : (o[o.length - 1]).2 = false) : o.map (·.2) = (o.take (o.length - 1)).map (·.2) ++ [false] := by
  have : o.take (o.length - 1) ++ [o[o.length - 1]] = o := by
    rw [List.take_append_getElem h, show o.length - 1 + 1 = o.length by omega, List.take_length]
  conv => lhs; rw [← this, List.map_append]
  show _ ++ [(o[o.length - 1]).2] = _
  rw [e]
theorem kd_block {b : Bool} (h : decide (V.str (kd b) = V.str "block") = true) : b = false := by
  cases b with
  | false => rfl
  | true => exact absurd (V.str.inj (of_decide_eq_true h)) (by decide +kernel)
end FS

set_option Elab.async false
set_option linter.all false
set_option maxRecDepth 100000
set_option maxHeartbeats 4000000
namespace FS
open PySem PySem.Spec PyProof.Rows L2
section
variable {P : Program} {w : World} {K : PySem.W.Frag} {mg : Str → Option Value} {base : Heap}
abbrev N_law_numbers : List Str := ["_law_script", "_law_at", "_law_cell", "_law_whole", "_law_mixed"]
theorem sc_law_numbers : FnScope N_law_numbers ["_law_script", "_law_at"] (defScope s_law_numbers) := ⟨rfl, rfl, rfl, by decide +kernel, rfl, by decide +kernel, by decide +kernel⟩
theorem ok_l_numbers {f : Addr} {fd : FuncData} (F : Fun K "_law_numbers" "_law_numbers" s_law_numbers f fd) (T : Nm K mg) : FnOk P w K mg base CX0 1 f fd ["_law_script", "_law_at"] (spNumbers K) := by
  have nd := sc_law_numbers.nd
  refine F.ok sc_law_numbers (fun vs H Q E h => ?_) (fun cdv A outer s H vs Q E hr h => ?_)
  · obtain ⟨a, ns, i, rfl, sq, hi, q⟩ := h
    rfl
  · obtain ⟨a, ns, i, rfl, sq, hi, q⟩ := h
    skip
    refine ⟨_, (pss_cons (ps_set (i := 2) nd rfl (Or.inl rfl) (pe_ifExp (pt_cmpR op_lt (pv 1) (pe_callB call_len (by rfl) T.b_len PySem.boot_len (pa_cons (pv 0) pa_nil)) (nomark _)) (pe_ix ix_list (pv 0) (pv 1) (fun _ _ => rfl)) (pe_op op_add (pe_op op_mul pe_int (pv 1)) pe_int)))
  (pss_cons (ps_set (i := 3) nd rfl (Or.inl rfl) (pe_op op_mod (pe_callTy call_int1 (by rfl) T.b_int (by decide +kernel) (pa_cons (pe_callB call_abs (by rfl) T.b_abs (by decide +kernel) (pa_cons (pv 2) pa_nil)) pa_nil)) (pe_op op_powW (pe_op op_pow pe_int pe_int) pe_int)))
  (pss_cons (ps_set (i := 4) nd rfl (Or.inl rfl) (pe_op op_add (pe_op op_add (pe_op op_add (pe_op op_mul (pv 3) pe_int) (pe_op op_mul pe_int (pv 1))) (pe_op op_mul pe_int (pe_callTy call_int1 (by rfl) T.b_int (by decide +kernel) (pa_cons (pe_cmpR op_lt (pv 2) pe_int (nomark _)) pa_nil)))) pe_int))
  (pss_one (ps_ret (pe_lst (pa_cons (pe_callB (call_max2 rfl) (by rfl) T.b_max (by decide +kernel) (pa_cons pe_int (pa_cons (pe_op op_sub (pv 3) (pe_op op_pow pe_int pe_int)) pa_nil))) (pa_cons (pe_op op_mod (pe_callTy call_int1 (by rfl) T.b_int (by decide +kernel) (pa_cons (pv 4) pa_nil)) pe_int) (pa_cons pe_int pa_nil))))))))), ?_⟩

    -- the cell
    refine ⟨_, rfl, _, rfl, _, _, rfl, .inl ⟨_, sq, rfl⟩, _, _, rfl, rfl, _, rfl, ite2 (fun e => ?A) (fun _ => ?B)⟩
    case' A =>
      have hl : i < ns.length := by
        have e1 := of_decide_eq_true e
        rw [List.length_map] at e1
        omega
      have g : (ns.map V.int)[i]? = some (.int ns[i]) := by
        rw [List.getElem?_map, List.getElem?_eq_getElem hl]
        rfl
      refine ⟨_, rfl, _, rfl, a, _, (i : Int), _, rfl, rfl, sq, atI_nat g, ?_⟩
      generalize ns[i] = c
    case' B =>
      refine ⟨_, rfl, _, _, rfl, rfl, .inl ⟨by decide, by decide⟩, _, _, rfl, rfl, ?_⟩
      generalize (73 : Int) * (i : Int) + 41 = c
    all_goals
      refine ⟨_, rfl, _, rfl, .inl ⟨_, rfl, ?_⟩⟩
      generalize (if c < 0 then -c else c) = c1
      refine ⟨_, _, rfl, rfl, ⟨by decide, by decide, by decide⟩, _, _, rfl, rfl, ⟨by decide, by decide +kernel⟩, ?_⟩
      refine ⟨_, _, rfl, rfl, Int.pow_pos (Int.pow_pos (by decide)), ?_⟩
      generalize c1 % _ = c2
      refine ⟨_, rfl, _, _, rfl, rfl, .inr ⟨by decide, by decide⟩, ?_⟩
      refine ⟨_, rfl, _, _, rfl, rfl, .inl ⟨by decide, by decide⟩, ?_⟩
      refine ⟨_, _, rfl, rfl, ?_⟩
      refine ⟨_, rfl, _, _, rfl, rfl, .inr ⟨_, rfl, ?_⟩⟩
      refine ⟨_, _, rfl, rfl, .inl ⟨by decide, by decide⟩, _, _, rfl, rfl, _, _, rfl, rfl, ?_⟩
      refine ⟨_, rfl, _, _, rfl, rfl, ⟨by decide, by decide, by decide⟩, ?_⟩
      refine ⟨_, _, rfl, rfl, _, _, rfl, ?_⟩
      refine ⟨_, rfl, .inl ⟨_, rfl, ?_⟩⟩
      refine ⟨_, _, rfl, rfl, (by show (0:Int) < 1152921504606846931; decide), ?_⟩
      refine ⟨(by show 3 ≤ sizeLine; decide), fun p hp => q _ p (same_upd hp) hp ⟨_, _, _, upd_same⟩⟩
end
end FS

set_option Elab.async false
set_option linter.all false
set_option maxRecDepth 100000
set_option maxHeartbeats 4000000
namespace FS
open PySem PySem.Spec PyProof.Rows L2
section
variable {P : Program} {w : World} {K : PySem.W.Frag} {mg : Str → Option Value} {base : Heap}
abbrev N_law_cast : List Str := ["_law_die", "_law_total", "_law_found", "_law_one", "_law_two"]
theorem sc_law_cast : FnScope N_law_cast ["_law_die", "_law_total"] (defScope s_law_cast) := ⟨rfl, rfl, rfl, by decide +kernel, rfl, by decide +kernel, by decide +kernel⟩
theorem ok_l_cast {f : Addr} {fd : FuncData} (F : Fun K "_law_cast" "_law_cast" s_law_cast f fd) (T : Nm K mg) : FnOk P w K mg base CX0 1 f fd ["_law_die", "_law_total"] (spCast) := by
  have nd := sc_law_cast.nd
  refine F.ok sc_law_cast (fun vs H Q E h => ?_) (fun cdv A outer s H vs Q E hr h => ?_)
  · obtain ⟨a, n, rfl, ⟨x, y, z, hd⟩, n0, n1, q⟩ := h
    rfl
  · obtain ⟨a, n, rfl, ⟨x, y, z, hd⟩, n0, n1, q⟩ := h
    skip
    refine ⟨_, (pss_cons (ps_if (pt_cmpR op_gt (pe_ix ix_list (pv 0) pe_int (fun _ _ => rfl)) pe_int (nomark _))
  (pss_cons (ps_set (i := 2) nd rfl (Or.inl rfl) (pe_op op_mod (pe_callTy call_int1 (by rfl) T.b_int (by decide +kernel) (pa_cons (pe_ix ix_list (pv 0) pe_int (fun _ _ => rfl)) pa_nil)) (pv 1)))
  (pss_cons (ps_asg (pe_op op_fdiv (pe_ix ix_list (pv 0) pe_int (fun _ _ => rfl)) (pv 1)) (pg_sub (pv 0) pe_int L2.set_list))
  (pss_one (ps_ret (pv 2)))))
  pss_nil)
  (pss_cons (ps_asg (pe_op op_add (pe_ix ix_list (pv 0) pe_int (fun _ _ => rfl)) pe_int) (pg_sub (pv 0) pe_int L2.set_list))
  (pss_cons (ps_set (i := 3) nd rfl (Or.inl rfl) (pe_op op_mod (pe_callTy call_int1 (by rfl) T.b_int (by decide +kernel) (pa_cons (pe_op op_add (pe_ix ix_list (pv 0) pe_int (fun _ _ => rfl)) (pe_op op_mul pe_int (pe_ix ix_list (pv 0) pe_int (fun _ _ => rfl)))) pa_nil)) pe_int))
  (pss_cons (ps_set (i := 4) nd rfl (Or.inl rfl) (pe_op op_add (pe_op op_mul (pe_op op_mod (pe_callTy call_int1 (by rfl) T.b_int (by decide +kernel) (pa_cons (pe_op op_mul (pv 3) (pv 3)) pa_nil)) pe_int) (pv 3)) (pe_op op_mul pe_int (pe_ix ix_list (pv 0) pe_int (fun _ _ => rfl)))))
  (pss_one (ps_ret (pe_op op_mod (pe_callTy call_int1 (by rfl) T.b_int (by decide +kernel) (pa_cons (pe_op op_fdiv (pe_op op_mod (pe_callTy call_int1 (by rfl) T.b_int (by decide +kernel) (pa_cons (pe_op op_add (pv 4) (pe_ix ix_list (pv 0) pe_int (fun _ _ => rfl))) pa_nil)) pe_int) pe_int) pa_nil)) (pv 1)))))))), ?_⟩

    have sq : SqL K H a [.int x, .int y, .int z] := .inl (.inl hd)
    have a0 : ∀ {p q r : V}, atI [p, q, r] 0 = some p := atI_nat (j := 0) rfl
    have a1 : ∀ {p q r : V}, atI [p, q, r] 1 = some q := atI_nat (j := 1) rfl
    have a2 : ∀ {p q r : V}, atI [p, q, r] 2 = some r := atI_nat (j := 2) rfl
    -- die[0] > 0
    refine ⟨_, rfl, a, _, 0, _, rfl, rfl, sq, a0, _, _, rfl, rfl, _, rfl, ite2 (fun _ => ?_) (fun _ => ?_)⟩
    · refine ⟨_, rfl, a, _, 0, _, rfl, rfl, sq, a0, .inl ⟨_, rfl, ?_⟩⟩
      refine ⟨_, rfl, _, _, rfl, rfl, n0, ?_⟩
      refine ⟨_, rfl, a, _, 0, _, rfl, rfl, sq, a0, _, rfl, _, _, rfl, rfl, ⟨n0, by omega⟩, ?_⟩
      refine ⟨_, rfl, a, _, 0, 0, rfl, rfl, hd, rfl, ?_⟩
      refine ⟨_, rfl, ?_⟩
      exact q _ _ (Int.emod_nonneg _ (by omega)) (Int.emod_lt_of_pos _ n0) Go.setDie (fun b hb => upd_ne hb)
    · refine ⟨_, rfl, a, _, 2, _, rfl, rfl, sq, a2, _, _, rfl, rfl, _, rfl, a, _, 2, 2, rfl, rfl, hd, rfl, ?_⟩
      have sq2 : SqL K (upd H a (.lst [.int x, .int y, .int (z + 1)])) a [.int x, .int y, .int (z + 1)] := .inl (.inl upd_same)
      refine ⟨_, rfl, a, _, 1, _, rfl, rfl, sq2, a1, _, rfl, a, _, 2, _, rfl, rfl, sq2, a2, _, _, rfl, rfl, .inl (by decide), _, _, rfl, rfl, .inl ⟨_, rfl, ?_⟩⟩
      refine ⟨_, _, rfl, rfl, by show (0:Int) < 2305843009213693879; decide, ?_⟩
      have b1 : (0:Int) ≤ (y + 681463489 * (z + 1)) % 2305843009213693879 := Int.emod_nonneg _ (by decide)
      have b2 : (y + 681463489 * (z + 1)) % 2305843009213693879 < 2305843009213693879 := Int.emod_lt_of_pos _ (by decide)
      generalize (y + 681463489 * (z + 1)) % 2305843009213693879 = o at b1 b2 ⊢
      refine ⟨_, rfl, _, rfl, _, _, rfl, rfl, .inl ⟨by omega, by omega⟩, .inl ⟨_, rfl, ?_⟩⟩
      refine ⟨_, _, rfl, rfl, by show (0:Int) < 1152921504606846739; decide, ?_⟩
      refine ⟨_, rfl, _, _, rfl, rfl, .inr ⟨by omega, by omega⟩, ?_⟩
      refine ⟨_, rfl, a, _, 2, _, rfl, rfl, sq2, a2, _, _, rfl, rfl, .inl (by decide), ?_⟩
      refine ⟨_, _, rfl, rfl, ?_⟩
      refine ⟨_, rfl, _, rfl, a, _, 1, _, rfl, rfl, sq2, a1, _, _, rfl, rfl, .inl ⟨_, rfl, ?_⟩⟩
      refine ⟨_, _, rfl, rfl, by show (0:Int) < 8796093022141; decide, ?_⟩
      refine ⟨_, _, rfl, rfl, by constructor <;> decide, .inl ⟨_, rfl, ?_⟩⟩
      refine ⟨_, rfl, _, _, rfl, rfl, n0, ?_⟩
      exact q _ _ (Int.emod_nonneg _ (by omega)) (Int.emod_lt_of_pos _ n0) Go.setDie (fun b hb => upd_ne hb)
end
end FS

set_option Elab.async false
set_option linter.all false
set_option maxRecDepth 100000
set_option maxHeartbeats 4000000
namespace FS
open PySem PySem.Spec PyProof.Rows L2
section
variable {P : Program} {w : World} {K : PySem.W.Frag} {mg : Str → Option Value} {base : Heap}
abbrev N_law_pick : List Str := ["_law_die", "_law_items"]
theorem sc_law_pick : FnScope N_law_pick ["_law_die", "_law_items"] (defScope s_law_pick) := ⟨rfl, rfl, rfl, by decide +kernel, rfl, by decide +kernel, by decide +kernel⟩
theorem ok_l_pick {f : Addr} {fd : FuncData} (F : Fun K "_law_pick" "_law_pick" s_law_pick f fd) (T : Nm K mg) (Cl_cast : Cal P w K mg base 1 "_law_cast" ["_law_die", "_law_total"] spCast) : FnOk P w K mg base CX0 2 f fd ["_law_die", "_law_items"] ((spPick K)) := by
  have nd := sc_law_pick.nd
  refine F.ok sc_law_pick (fun vs H Q E h => ?_) (fun cdv A outer s H vs Q E hr h => ?_)
  · obtain ⟨a, b, xs, d, rfl, sq, nb, hne, hlen, q⟩ := h
    rfl
  · obtain ⟨a, b, xs, d, rfl, sq, nb, hne, hlen, q⟩ := h
    skip
    refine ⟨_, (pss_one (ps_ret (pe_ix ix_list (pv 1) (pe_own Cl_cast (hr.mono (by decide)) (by rfl) (pa_cons (pv 0) (pa_cons (pe_callB call_len (by rfl) T.b_len PySem.boot_len (pa_cons (pv 1) pa_nil)) pa_nil))) (fun _ _ => rfl)))), ?_⟩

    have hl : 0 < xs.length := List.length_pos_iff.mpr hne
    refine ⟨_, rfl, _, rfl, _, rfl, _, _, rfl, .inl ⟨_, sq, rfl⟩, a, _, rfl, d, by omega, by omega, fun r H' r0 r1 g fr => ?_⟩
    obtain ⟨j, rfl⟩ : ∃ j : Nat, r = (j : Int) := ⟨r.toNat, by omega⟩
    have hj : j < xs.length := by omega
    refine ⟨b, xs, _, xs[j], rfl, rfl, g.seq nb sq, atI_nat (List.getElem?_eq_getElem hj), ?_⟩
    exact q _ _ (List.getElem_mem hj) g fr
end
end FS

set_option Elab.async false
set_option linter.all false
set_option maxRecDepth 100000
set_option maxHeartbeats 4000000
/-! defs that may show containers: nothing is being shown above them -/
namespace FS
open PySem PySem.Spec PyProof.Rows L2
/-- as FnOk, where no container is being shown -/
structure FnG (P : Program) (w : World) (K : PySem.W.Frag) (mg : Str → Option Value) (base : Heap) (CX : CXT) (k : Nat) (f : Addr) (fd : FuncData) (ps : List Str) (sp : Sp) : Prop where
  len : ∀ vs H Q E, sp vs H Q E → vs.length = ps.length
  go : ∀ {A : Around} {outer : List Env} {s : Shared} {H : Hp} {args : Args} {us : List Value} {vs : List V} {Q : VK} {E : XK}, A.guards = some [] → Room k A → Env0 P w K mg base A outer s H → BindsTo s fd args (ps.zip us) → Vals vs us → sp vs H Q E →
    codeAny (model P w) A (.call (.ref f) args) (CR CX outer P w H s Q E) s
section
variable {P : Program} {w : World} {K : PySem.W.Frag} {mg : Str → Option Value} {base : Heap}
theorem FnG.mono {CX : CXT} {j k : Nat} {f : Addr} {fd : FuncData} {ps : List Str} {sp : Sp} (F : FnG P w K mg base CX j f fd ps sp) (h : j ≤ k) : FnG P w K mg base CX k f fd ps sp :=
  ⟨F.len, fun g r => F.go g (r.mono h)⟩
theorem _root_.L2.FnOk.toG {CX : CXT} {k : Nat} {f : Addr} {fd : FuncData} {ps : List Str} {sp : Sp} (F : FnOk P w K mg base CX k f fd ps sp) : FnG P w K mg base CX k f fd ps sp :=
  ⟨F.len, fun _ r e b v p => F.run _ _ _ _ _ _ _ _ _ r e b v p⟩
theorem _root_.L2.Fun.okG {x qual : Str} {st : Stmt} {f : Addr} {fd : FuncData} {N ps : List Str} {k : Nat} {sp : Sp} (F : Fun K x qual st f fd) (S : FnScope N ps (defScope st)) (len : ∀ vs H Q E, sp vs H Q E → vs.length = ps.length)
    (body : ∀ (cdv : Value) (A : Around) (outer : List Env) (s : Shared) (H : Hp) (vs : List V) (Q : VK) (E : XK), A.guards = some [] → Room k (A.deeper (envOfC qual (defScope st) s.heap.objs.size f cdv)) → sp vs H Q E →
      ∃ t, PSs (cxOf CX0 P w K mg base N qual (defScope st) f cdv A outer s H E).nox (defBody st) t ∧ t { nx := fun _ H' => Q .non H', rt := Q } (start N vs) H) : FnG P w K mg base CX0 (k + 1) f fd ps sp := by
  obtain ⟨oc, od, kV, doc, pm, an, cdv, ct, osl, rfl, lk, hcd⟩ := F.ex
  refine ⟨len, fun {A outer s H args us vs Q E} g hr e0 hb r p => ?_⟩
  refine LamX.run_ofS lk hcd S hr e0 hb r (len _ _ _ _ p) fun hr' => ?_
  obtain ⟨t, h, q⟩ := body cdv A outer s H vs Q E g hr' p
  exact ⟨t, h.nox, q⟩
theorem _root_.L2.Fun.okGX {x qual : Str} {st : Stmt} {f : Addr} {fd : FuncData} {N ps : List Str} {k : Nat} {sp : Sp} (F : Fun K x qual st f fd) (S : FnScope N ps (defScope st)) (len : ∀ vs H Q E, sp vs H Q E → vs.length = ps.length)
    (body : ∀ (cdv : Value) (A : Around) (outer : List Env) (s : Shared) (H : Hp) (vs : List V) (Q : VK) (E : XK), A.guards = some [] → Room k (A.deeper (envOfC qual (defScope st) s.heap.objs.size f cdv)) → sp vs H Q E →
      ∃ t, PSs (cxOf (L2.CX P w) P w K mg base N qual (defScope st) f cdv A outer s H E) (defBody st) t ∧ t { nx := fun _ H' => Q .non H', rt := Q } (start N vs) H) : FnG P w K mg base (L2.CX P w) (k + 1) f fd ps sp := by
  obtain ⟨oc, od, kV, doc, pm, an, cdv, ct, osl, rfl, lk, hcd⟩ := F.ex
  exact ⟨len, fun {A outer s H args us vs Q E} g hr e0 hb r p => LamX.run_ofS lk hcd S hr e0 hb r (len _ _ _ _ p) fun hr' => body cdv A outer s H vs Q E g hr' p⟩
/-- what a caller needs -/
structure CalG (P : Program) (w : World) (K : PySem.W.Frag) (mg : Str → Option Value) (base : Heap) (k : Nat) (x : Str) (ps : List Str) (sp : Sp) : Prop where
  ex : ∃ (f : Addr) (fd : FuncData), FnG P w K mg base CX0 k f fd ps sp ∧ mg x = some (.ref f) ∧ PySem.W.keepIn K (.ref f) = true ∧ Binds K fd ps []
end
section
variable {X : Cx} {e : Expr} {es : List Expr} {t : TA} {x : Str} {p pos : Pos}
theorem pe_ownG {k : Nat} {ps : List Str} {sp : Sp} (C : CalG X.prog X.w X.K X.mg X.base k x ps sp) (gd : X.A.guards = some []) (hr : Room (k + 1) X.A) (hg : Gl X x) (ha : PA X (e :: es) t) (hdb : (x == ("__debug__" : Str)) = false := by decide)
    (he : starEach (e :: es) X.env = (false, eval e X.env) :: starEach es X.env := by rfl) (hpl : (backTo pos (starEach es X.env)).any (·.1) = false := by rfl) : PE X (.Call (.Name x p) (e :: es) [] pos) (tCall sp [] E0 t) := by
  obtain ⟨f, fd, F, m, kp, b⟩ := C.ex
  refine ⟨fun pins s σ H Q I h => wpAny_Call_Name_kw (ld_glob I hg m ?_ hdb)⟩
  refine PySem.W.callWith_K (h₀ := X.base) I.ok.mod.kin kp (thn (ha.run pos pins s σ H _ I h) fun us s1 ⟨vs, H1, I1, r, q⟩ => ⟨I1.kIn, ?_⟩) he hpl
  have r2 : Vals (vs ++ []) (us ++ []) := r.append .nil
  have hl : (us ++ []).length = ps.length := by
    rw [← r2.length]
    exact F.len _ _ _ _ q
  have run := F.go gd (hr.mono (Nat.le_succ k)) I1.env0 (b s1 us I1.kIn hl) r2 q
  refine wpAny_call (codeAny_mono run fun res s' told => ?_)
  cases res with
  | error ex => exact told.elim
  | ok fl =>
    cases fl with
    | ret u => exact I1.after told
    | next => exact told.elim
    | brk => exact told.elim
    | cont => exact told.elim
end
/-! ### repr of data -/
mutual
/-- data, empty dicts among it -/
inductive Dq (K : PySem.W.Frag) (H : Hp) : V → PyData → Prop
  | non : Dq K H .non .none
  | bl (b : Bool) : Dq K H (.bl b) (.bool b)
  | int (i : Int) : Dq K H (.int i) (.int i)
  | str (x : Str) : Dq K H (.str x) (.str x)
  | lst {a : Addr} {xs : List V} {ds : List PyData} : H a = some (.lst xs) → DqAll K H xs ds → Dq K H (.ref a) (.list ds)
  | tup {a : Addr} {xs : List V} {ds : List PyData} : SqT K H a xs → DqAll K H xs ds → Dq K H (.ref a) (.tuple ds)
  | dct {a : Addr} : H a = some (.dK []) → Dq K H (.ref a) (.dict [])
inductive DqAll (K : PySem.W.Frag) (H : Hp) : List V → List PyData → Prop
  | nil : DqAll K H [] []
  | cons {v : V} {vs : List V} {d : PyData} {ds : List PyData} : Dq K H v d → DqAll K H vs ds → DqAll K H (v :: vs) (d :: ds)
end
section
variable {X : Cx} {pins : List (Addr × Obj)} {σ : L2.St} {H : Hp} {s : Shared}
theorem no_sys (I : Inv X pins σ H s) (hs : ∃ mm, X.base.Ns sysModules mm) {a : Addr} {o : HO} (e : H a = some o) : a ≠ sysModules := fun z => by
  obtain ⟨mm, ob, es, ep, at_, _⟩ := hs
  have n := (I.bs _ _ at_).2
  rw [← z, e] at n
  cases n
mutual
theorem Dq.reads (I : Inv X pins σ H s) (hs : ∃ mm, X.base.Ns sysModules mm) : ∀ (d : PyData) {v : V} {u : Value}, Dq X.K H v d → RelV v u → ∃ as, Reads s.heap u d as ∧ sysModules ∉ as
  | .none, _, _, h, r => by
    cases h
    obtain rfl := (show _ = Value.none from r)
    exact ⟨[], Reads.none, fun z => nomatch z⟩
  | .bool b, _, _, h, r => by
    cases h
    obtain rfl := (show _ = Value.bool b from r)
    exact ⟨[], Reads.bool b, fun z => nomatch z⟩
  | .int i, _, _, h, r => by
    cases h
    obtain ⟨t, rfl⟩ := r
    exact ⟨[], Reads.int i t, fun z => nomatch z⟩
  | .str x, _, _, h, r => by
    cases h
    obtain ⟨t, rfl⟩ := r
    exact ⟨[], Reads.str x t, fun z => nomatch z⟩
  | .list ds, _, u, h, r => by
    cases h with
    | @lst a xs _ e q =>
      obtain rfl : u = Value.ref a := r
      obtain ⟨its, n, rv, at_, _⟩ := I.lst e
      obtain ⟨as, rd, no⟩ := Dq.readsAll I hs ds q rv
      refine ⟨a :: as, Reads.list at_ rfl rfl rd, fun z => ?_⟩
      rcases List.mem_cons.mp z with z | z
      · exact no_sys I hs e z.symm
      · exact no z
  | .tuple ds, _, u, h, r => by
    cases h with
    | @tup a xs _ e q =>
      obtain rfl : u = Value.ref a := r
      obtain ⟨its, rv, ⟨o, at_, kind, n, data⟩, _⟩ := I.tuple e
      obtain ⟨as, rd, no⟩ := Dq.readsAll I hs ds q rv
      exact ⟨as, Reads.tuple at_ kind data rd, no⟩
  | .dict kvs, _, u, h, r => by
    cases h with
    | @dct a e =>
      obtain rfl : u = Value.ref a := r
      obtain ⟨_, _, vs, kv, o, es, ep, e1, e2, e3, e4, e5, e6⟩ := I.hok a _ e
      cases kv
      have en : es.toList = [] := by
        cases q : es.toList with
        | nil => rfl
        | cons x l =>
          rw [q] at e5
          cases e5
      refine ⟨a :: [] ++ [], Reads.dict (kvs := []) (as := []) (bs := []) e1 e2.1 e3 ?_ ?_, ?_⟩
      · rw [en]
        exact .nil
      · rw [en]
        exact .nil
      · intro z
        rcases List.mem_cons.mp z with z | z
        · exact no_sys I hs e z.symm
        · exact absurd z (by simp)
theorem Dq.readsAll (I : Inv X pins σ H s) (hs : ∃ mm, X.base.Ns sysModules mm) : ∀ (ds : List PyData) {vs : List V} {us : List Value}, DqAll X.K H vs ds → Vals vs us → ∃ as, ReadsAll s.heap us ds as ∧ sysModules ∉ as
  | [], _, _, h, r => by
    cases h
    cases r
    exact ⟨[], .nil, fun z => nomatch z⟩
  | d :: ds, _, _, h, r => by
    cases h with
    | cons h1 h2 =>
      cases r with
      | cons r1 r2 =>
        obtain ⟨as, q1, n1⟩ := Dq.reads I hs d h1 r1
        obtain ⟨bs, q2, n2⟩ := Dq.readsAll I hs ds h2 r2
        exact ⟨as ++ bs, .cons q1 q2, fun z => (List.mem_append.mp z).elim n1 n2⟩
end
end
theorem call_reprD {X : Cx} {k : Nat} (gd : X.A.guards = some []) (hs : ∃ mm, X.base.Ns sysModules mm) (hr : Room k X.A) : CallR X (.builtin "repr") (fun xs H Q => ∃ v d, xs = [v] ∧ Dq X.K H v d ∧ d.showable = true ∧ d.shown.length ≤ sizeLine ∧ d.depth ≤ 60 ∧ Q (.str d.shown) H) := by
  intro pins s σ H xs us Q I r h
  obtain ⟨v, d, rfl, hd, sh, sz, dp, q⟩ := h
  obtain ⟨u, rfl, t⟩ := vals1 r
  have hu : X.A.units + (d.depth + 1) < cLine := by
    have := hr.un
    omega
  obtain ⟨as, rd, no⟩ := Dq.reads I hs d hd t
  have ns : d.hasDict = true → sysModules ∉ as := fun _ => no
  cases rd with
  | none => exact PySem.P.repr_of_none ⟨.str _, H, I.tok _, ⟨_, rfl⟩, q⟩
  | bool b => exact PySem.P.repr_of_bool ⟨.str _, H, I.tok _, ⟨_, rfl⟩, q⟩
  | int i tk => exact PySem.P.repr_of_int (by simpa [PyData.showable] using sh) ⟨.str _, H, I.tok _, ⟨_, rfl⟩, q⟩
  | str x tk => exact PySem.P.repr_of_str ⟨.str _, H, I.tok _, ⟨_, rfl⟩, q⟩ sz
  | list h1 h2 h3 h4 => exact repr_of_reads' (.list h1 h2 h3 h4) sh ns gd hu (fun _ _ e => e) (fun h' u tk kp => ⟨.str _, H, I.kept kp, ⟨_, rfl⟩, q⟩) sz
  | tuple h1 h2 h3 h4 => exact repr_of_reads' (.tuple h1 h2 h3 h4) sh ns gd hu (fun _ _ e => e) (fun h' u tk kp => ⟨.str _, H, I.kept kp, ⟨_, rfl⟩, q⟩) sz
  | dict h1 h2 h3 h4 h5 => exact repr_of_reads' (.dict h1 h2 h3 h4 h5) sh ns gd hu (fun _ _ e => e) (fun h' u tk kp => ⟨.str _, H, I.kept kp, ⟨_, rfl⟩, q⟩) sz
end FS

set_option Elab.async false
set_option linter.all false
set_option maxRecDepth 100000
set_option maxHeartbeats 4000000
/-! the end of a law whose defs may show containers -/
namespace FS
open PySem PySem.Spec PyProof.Rows L2 LamX
/-- the module as the law is called -/
structure TopS (K : PySem.W.Frag) (mg : Str → Option Value) (tabs : List (Addr × Addr)) (scr : Addr) (us : List Value) (t : Shared) : Prop where
  kin : K.In t.heap
  globals : t.heap.Ns mainGlobals mg
  built : ∃ mb, t.heap.Ns builtinsNs mb ∧ ∀ x : Str, x ≠ "__name__" → mb x = bootBuiltins x
  free : t.heap.NoLimit
  still : t.gens = #[]
  empty : ∀ c ∈ tabs, t.heap.get? c.2 = some { cls := .none, data := .fields #[] }
  apart : ∀ c ∈ tabs, K.lookup c.2 = none
  codes : ∀ c ∈ tabs, PySem.W.CodeHd t.heap c.1 c.2
  module : ∃ (bm : Addr) (ob : Obj), mg "__builtins__" = some (.ref bm) ∧ bm ≠ builtinsNs ∧ t.heap.get? bm = some ob ∧ ob.cls = .type "module" ∧ ob.dict = some builtinsNs ∧ ob.data = .plain
  script : t.heap.get? scr = some { cls := .type "list", data := .seq us.toArray }
section
variable {P : Program} {w : World} {K : PySem.W.Frag} {mg : Str → Option Value} {tabs : List (Addr × Addr)} {scr : Addr} {us : List Value} {t : Shared} {H : Hp}
/-- only these are tracked -/
def Few (tabs : List (Addr × Addr)) (scr : Addr) (H : Hp) : Prop := ∀ b, H b ≠ none → b = scr ∨ ∃ c ∈ tabs, b = c.2
theorem TopS.away (T : TopS K mg tabs scr us t) (few : Few tabs scr H) {b : Addr} {o : Obj} (at_ : t.heap.get? b = some o) (n1 : ∀ vs n, o.data ≠ .seq vs n) (n2 : o.data ≠ .fields #[]) : H b = none := by
  refine Classical.byContradiction fun tracked => ?_
  rcases few b tracked with rfl | ⟨c, hc, rfl⟩
  · rw [T.script] at at_
    exact n1 _ _ (congrArg Obj.data (Option.some.inj at_)).symm
  · rw [T.empty c hc] at at_
    exact n2 (congrArg Obj.data (Option.some.inj at_)).symm
theorem TopS.ns (T : TopS K mg tabs scr us t) (few : Few tabs scr H) {b : Addr} {m : Str → Option Value} (h : t.heap.Ns b m) : (hidT t.heap H).Ns b m := by
  obtain ⟨o, es, ep, at_, dict, r⟩ := h
  refine ⟨o, es, ep, hidT_get at_ (T.away few at_ (fun vs n z => ?_) fun z => ?_), dict, r⟩
  · rw [dict] at z
    cases z
  · rw [dict] at z
    cases z
theorem TopS.base_in (T : TopS K mg tabs scr us t) (few : Few tabs scr H) (own : H scr ≠ none → K.lookup scr = none) : K.In (hidT t.heap H) := fun b o at_ => by
  refine hidT_get (T.kin b o at_) (Classical.byContradiction fun tracked => ?_)
  rcases few b tracked with rfl | ⟨c, hc, rfl⟩
  · rw [own tracked] at at_
    cases at_
  · rw [T.apart c hc] at at_
    cases at_
theorem TopS.base_tab (T : TopS K mg tabs scr us t) (few : Few tabs scr H) (c : Addr × Addr) (hc : c ∈ tabs) : TabB (hidT t.heap H) mg c.1 c.2 := by
  have empty := T.empty c hc
  refine ⟨?code, ?module, ?glob⟩
  case code =>
    obtain ⟨o, vs, file, tf, flags, tg, inF, text, tt, at_, kind, fields, r4, r5, r⟩ := T.codes c hc
    refine ⟨o, vs, file, tf, flags, tg, inF, text, tt, hidT_get at_ (T.away few at_ (fun xs n z => ?_) fun z => ?_), kind, fields, r4, r5, r⟩
    · rw [fields] at z
      cases z
    · rw [fields] at z
      cases z
      simp at r4
  case module =>
    obtain ⟨bm, ob, inG, notB, at_, kind, dict, plain⟩ := T.module
    refine ⟨bm, ob, inG, notB, fun z => ?_, fun z => ?_, hidT_get at_ (T.away few at_ (fun xs n z => ?_) fun z => ?_), kind, dict, plain⟩
    · obtain ⟨o, es, ep, gAt, gDict, _⟩ := T.globals
      rw [z, gAt] at at_
      rw [Option.some.inj at_, plain] at gDict
      cases gDict
    · rw [z, empty] at at_
      rw [← Option.some.inj at_] at plain
      cases plain
    · rw [plain] at z
      cases z
    · rw [plain] at z
      cases z
  case glob =>
    intro z
    obtain ⟨o, es, ep, gAt, gDict, _⟩ := T.globals
    rw [z, empty] at gAt
    rw [← Option.some.inj gAt] at gDict
    cases gDict
theorem TopS.env (T : TopS K mg tabs scr us t) (few : Few tabs scr H) (own : H scr ≠ none → K.lookup scr = none) (ok : HOk P w H t.heap) : Env0 P w K mg (hidT t.heap H) callerA [] t H where
  frames := rfl
  mod := by
    obtain ⟨mb, b1, b2⟩ := T.built
    obtain ⟨mc, l1, l2⟩ := T.free
    exact ⟨T.base_in few own, T.ns few T.globals, ⟨mb, T.ns few b1, b2⟩, ⟨mc, T.ns few l1, l2⟩⟩
  bs := fun b o at_ => of_hidT at_
  bsz := Nat.le_of_eq (hidT_size _ _)
  funs := trivial
  frf := fun b hb => nomatch hb
  hok := ok
  bare := .of_eq T.still
/-- the law's call, from some abstract heap -/
theorem TopS.run (T : TopS K mg tabs scr us t) (few : Few tabs scr H) (own : H scr ≠ none → K.lookup scr = none) (ok : HOk P w H t.heap) {k : Nat} {fa : Addr} {fd : FuncData} {x : Str} {sp : Sp}
    (F : FnG P w K mg (hidT t.heap H) CX0 k fa fd [x] sp) (room : Room k callerA) (bind : BindsTo t fd ⟨[.ref scr], []⟩ [(x, .ref scr)]) (pr : sp [.ref scr] H (fun v _ => v = .bl true) fun _ _ _ => False)
    (htab : ∀ c ∈ tabs, H c.2 = some (.tbl #[])) (hscr : H scr = none ∨ (∃ c ∈ tabs, scr = c.2) ∨ ∃ o xs, H scr = some (.frz o (.lst xs))) :
    codeAny (model P w) callerA (.call (.ref fa) ⟨[.ref scr], []⟩) (fun r s' => r = .ok (.ret (.bool true)) ∧ OldK t.heap s'.heap ∧ s'.os = t.os ∧ AllBare s'.gens) t := by
  have told := F.go (outer := []) (us := [.ref scr]) (vs := [.ref scr]) rfl room (T.env few own ok) bind (.cons rfl .nil) pr
  refine codeAny_mono told fun r s' h => ?_
  match r, h with
  | .error e, h => exact h.elim
  | .ok .next, h => exact h.elim
  | .ok .brk, h => exact h.elim
  | .ok .cont, h => exact h.elim
  | .ok (.ret u), ⟨v, H', os, bare, un, ok', rel, is⟩ =>
    have is : v = .bl true := is
    subst is
    obtain rfl : u = Value.bool true := rel
    have keeps : ∀ b o, (¬ ∃ c ∈ tabs, b = c.2) → t.heap.get? b = some o → s'.heap.get? b = some o := fun b o nt at_ => by
      cases tr : H b with
      | none => exact un.keep b o at_ tr (fun z => nomatch z) (fun z => nomatch z)
      | some y =>
        rcases few b (by rw [tr]; exact Option.some_ne_none _) with rfl | q
        · rcases hscr with z | z | ⟨ob, xs, z⟩
          · rw [z] at tr
            cases tr
          · exact absurd z nt
          · have before := (ok b _ z).1
            rw [at_] at before
            rw [Option.some.inj before]
            exact (ok' b _ (un.frzs b ob _ z)).1
        · exact absurd q nt
    have grown : ∀ c ∈ tabs, ∃ more : Array Value, s'.heap.get? c.2 = some { cls := .none, data := .fields more } := fun c hc => by
      obtain ⟨more, z⟩ := un.tbls c.2 #[] (htab c hc)
      exact ⟨_, ok' c.2 _ z⟩
    refine ⟨rfl, ⟨fun b o at_ => ?_, fun b o at_ => ?_⟩, os, bare⟩
    · by_cases tb : ∃ c ∈ tabs, b = c.2
      · obtain ⟨c, hc, rfl⟩ := tb
        rw [T.empty c hc] at at_
        obtain ⟨more, hm⟩ := grown c hc
        cases at_
        exact .inr (.inl ⟨((T.codes c hc).tab (T.empty c hc)).isCodeTable, rfl, #[], more, rfl, by rw [Array.empty_append]; exact hm⟩)
      · exact .inl (keeps b o tb at_)
    · by_cases tb : ∃ c ∈ tabs, b = c.2
      · obtain ⟨c, hc, rfl⟩ := tb
        obtain ⟨more, hm⟩ := grown c hc
        exact ⟨_, hm⟩
      · exact ⟨o, keeps b o tb at_⟩
end
end FS

set_option Elab.async false
set_option linter.all false
set_option maxRecDepth 100000
set_option maxHeartbeats 4000000
namespace FS
open PySem PySem.Spec PyProof.Rows L2 LamX
/-- what is to be told of the law at the head's heap -/
structure LawG (l : PySem.W.OpenLaw) (w : World) (K : PySem.W.Frag) (k n : Nat) (x : Str) (mg : Str → Option Value) (fa : Addr) (h : Heap) (fd : FuncData) (tabs : List (Addr × Addr)) (sp : Sp) : Prop where
  empty : ∀ c ∈ tabs, h.get? c.2 = some { cls := .none, data := .fields #[] }
  apart : ∀ c ∈ tabs, K.lookup c.2 = none
  codes : ∀ c ∈ tabs, PySem.W.CodeHd h c.1 c.2
  binds : ∀ (s : Shared) (u : Value), BindsTo s fd ⟨[u], []⟩ [(x, u)]
  wants : ∀ (H : Hp) (a : Addr) (ns : List Int), ns.length ≤ n → (∀ z ∈ ns, Builtin.Int.intBits z ≤ 1048576) → (∀ c ∈ tabs, H c.2 = some (.tbl #[])) → SqL K H a (ns.map V.int) → sp [.ref a] H (fun v _ => v = .bl true) fun _ _ _ => False
  keeps : ∀ base : Heap, K.In base → base.Ns mainGlobals mg → (∀ c ∈ tabs, TabB base mg c.1 c.2) → (∃ mm, base.Ns sysModules mm) → FnG l.prog w K mg base CX0 k fa fd [x] sp
theorem walk_G {l : PySem.W.OpenLaw} {n k : Nat} {q : Program} {loose : List Str} {XP : (Str → Option Value) → Heap → Prop} {YP : World → Heap → Prop} {d : DefRec} {K : Params → PySem.W.Frag} {x : Str}
    (most : l.most = some n) (small : n ≤ sizeLine) (noDef : d.params.defaults = []) (room : Room k callerA) (plain : importsNone q = true) (isIn : ∀ (w : World) (h : Heap), YP w h → (K w.params).In h)
    (F : ∀ (w : World) (mg : Str → Option Value) (fa : Addr) (h : Heap), YP w h → (K w.params).In h → h.Ns mainGlobals mg → mg d.name = some (.ref fa) → ∃ fd tabs sp, LawG l w (K w.params) k n x mg fa h fd tabs sp) :
    PySem.W.WalkO q loose XP YP l.row.toRowW d [] (fun f vs => PySem.call f vs) := by
  refine Att.attach_callB most noDef fun w s₀ t mg mb fa o pm cd doc scr us ns G Y _ _ _ inG list areInts len bits still => ?_
  obtain ⟨fd, tabs, sp, L⟩ := F w mg fa _ Y (isIn w _ Y) G.T.g inG
  have T : TopS (K w.params) mg tabs scr us t := ⟨isIn w _ Y, G.T.g, ⟨mb, G.T.b, G.T.builtins⟩, G.T.nolimit, still, L.empty, L.apart, L.codes, G.T.bmain, list⟩
  have mods : ∃ mm, t.heap.Ns sysModules mm := by
    obtain ⟨mm, h, _⟩ := (G.T.seer plain).mods
    exact ⟨mm, h⟩
  have rel := vals_ints areInts
  have lenU : ns.length = us.length := areInts.length.symm
  have line : (ns.map V.int).length ≤ sizeLine := by
    rw [List.length_map]
    omega
  have notTab : ¬ ∃ c ∈ tabs, scr = c.2 := fun ⟨c, hc, z⟩ => by
    have e := L.empty c hc
    rw [← z, list] at e
    have e2 : Data.seq us.toArray _ = Data.fields #[] := congrArg Obj.data (Option.some.inj e)
    cases e2
  haveI : DecidablePred fun b : Addr => ∃ c ∈ tabs, b = c.2 := fun b => Classical.propDecidable _
  cases known : (K w.params).lookup scr with
  | some ob =>
    have same := (isIn w _ Y) scr ob known
    rw [list] at same
    cases same
    let H : Hp := fun b => if ∃ c ∈ tabs, b = c.2 then some (.tbl #[]) else none
    have noScr : H scr = none := if_neg notTab
    have few : Few tabs scr H := fun b tr => Classical.byContradiction fun no => tr (if_neg fun z => no (.inr z))
    have tabsH : ∀ c ∈ tabs, H c.2 = some (.tbl #[]) := fun c hc => if_pos ⟨c, hc, rfl⟩
    refine T.run few (fun tr => absurd noScr tr) (fun b u at_ => ?_) (L.keeps _ ?_ ?_ ?_ ?_) room (L.binds _ _) (L.wants H scr ns len bits tabsH (.inr ⟨_, us.toArray, _, known, rfl, rfl, rfl, ?_, ?_⟩)) tabsH (.inl noScr)
    · by_cases tb : ∃ c ∈ tabs, b = c.2
      · have e := (if_pos tb).symm.trans at_
        cases e
        obtain ⟨c, hc, rfl⟩ := tb
        exact L.empty c hc
      · have e := (if_neg tb).symm.trans at_
        cases e
    · exact T.base_in few fun tr => absurd noScr tr
    · exact T.ns few T.globals
    · exact fun c hc => T.base_tab few c hc
    · exact mods.elim fun mm h => ⟨mm, T.ns few h⟩
    · rw [List.size_toArray]
      omega
    · simpa using rel
  | none =>
    let H : Hp := fun b => if b = scr then some (.frz { cls := .type "list", data := .seq us.toArray } (.lst (ns.map V.int))) else if ∃ c ∈ tabs, b = c.2 then some (.tbl #[]) else none
    have scrH : H scr = some (.frz { cls := .type "list", data := .seq us.toArray } (.lst (ns.map V.int))) := if_pos rfl
    have few : Few tabs scr H := fun b tr => Classical.byContradiction fun no => tr ((if_neg fun z => no (.inl z)).trans (if_neg fun z => no (.inr z)))
    have tabsH : ∀ c ∈ tabs, H c.2 = some (.tbl #[]) := fun c hc => (if_neg fun z => notTab ⟨c, hc, z.symm⟩).trans (if_pos ⟨c, hc, rfl⟩)
    refine T.run few (fun _ => known) (fun b u at_ => ?_) (L.keeps _ ?_ ?_ ?_ ?_) room (L.binds _ _) (L.wants H scr ns len bits tabsH (.inl (.inr ⟨_, scrH⟩))) tabsH (.inr (.inr ⟨_, _, scrH⟩))
    · by_cases is : b = scr
      · subst is
        have e := scrH.symm.trans at_
        cases e
        exact ⟨list, line, us, 0, rel, list⟩
      · have e1 := (if_neg is).symm.trans at_
        by_cases tb : ∃ c ∈ tabs, b = c.2
        · have e := (if_pos tb).symm.trans e1
          cases e
          obtain ⟨c, hc, rfl⟩ := tb
          exact L.empty c hc
        · have e := (if_neg tb).symm.trans e1
          cases e
    · exact T.base_in few fun _ => known
    · exact T.ns few T.globals
    · exact fun c hc => T.base_tab few c hc
    · exact mods.elim fun mm h => ⟨mm, T.ns few h⟩
end FS

set_option Elab.async false
set_option linter.all false
set_option maxRecDepth 100000
set_option maxHeartbeats 4000000
/-! own error classes with an own __init__ over any of the built-in ones: made -/
namespace PySem
namespace FSX
open PySem.W PySem.Calls PyProof.Rows PySem.HandSPX
/-- what the making asks of the classes above -/
structure Above (bm : List Value) (B : String) : Prop where
  has : bm.contains (.type B) = true
  noA : bm.contains (.type "AttributeError") = false
  noN : bm.contains (.type "NameError") = false
section
variable {M : Model} {A : Around} {E : Value → Shared → Prop} {mem : Heap} {gs : Array GenState} {dr : Drawn} {tk : Nat} {os : OsState}
variable {nm q : Str} {C N : Addr} {bs bm bmB : List Value} {hdct : Bool} {sn : List Str} {sub : List Value} {ab : Bool} {col : Option Bool} {dd : Option Addr} {k0 k1 k2 k3 k5 : Option Value} {B newId initId : String}
theorem made_check (F : ExcBaseFacts B newId initId bmB) (U : Above bm B) {given : List Value} {Q : Unit → Shared → Prop} (at_ : mem.get? C = some (excClassObj nm q C N bs bm hdct sn sub ab col dd k0 k1 k2 k3 k5 newId)) (goal : Q () ⟨mem, gs, dr, tk, os⟩) :
    wpAny M A (checkBuiltinCall newId ⟨.ref C :: given, []⟩) Q E ⟨mem, gs, dr, tk, os⟩ := by
  have under : (Value.ref C :: bm).contains (.type B) = true := by
    rw [List.contains_cons, U.has]
    exact Bool.or_true _
  have noStar := F.noStar
  simp only [checkBuiltinCall, F.newKind, F.newSplit, F.newRow]
  repeat first
    | refine wpAny_loadPart_at at_ ?_
    | (refine wpAny_isSubtype_exc at_ ?_; rw [under])
    | refine wpAny_staticBase_exc at_ ?_
    | refine wpAny_madeBy_exc at_ ?_
    | simp only [bne_self_eq_false,
        Bool.false_eq_true, if_false]
    | wp_step
  exact goal
end
section
variable {prog : Program} {w : World} {A : Around} {E : Value → Shared → Prop} {R : Result → Shared → Prop} {mem : Heap} {gs : Array GenState} {dr : Drawn} {tk : Nat} {os : OsState}
variable {nm q : Str} {C N : Addr} {bs bm bmB : List Value} {hdct : Bool} {sn : List Str} {sub : List Value} {ab : Bool} {col : Option Bool} {dd : Option Addr} {k0 k1 k2 k3 k5 : Option Value} {B newId initId : String}
/-- the object and its args, laid -/
abbrev laidE (mem : Heap) (C : Addr) (given : List Value) : Heap := (mem.push (W.kdv_tup given)).push (excO C mem.objs.size)
theorem made_new (F : ExcBaseFacts B newId initId bmB) (U : Above bm B) {given : List Value} (at_ : mem.get? C = some (excClassObj nm q C N bs bm hdct sn sub ab col dd k0 k1 k2 k3 k5 newId)) (short : given.length ≤ sizeLine)
    (goal : R (.ok (.ret (.ref (mem.objs.size + 1)))) ⟨laidE mem C given, gs, dr, tk, os⟩) : codeAny (model prog w) A (.builtin newId ⟨.ref C :: given, []⟩) R ⟨mem, gs, dr, tk, os⟩ := by
  have yes : (Value.ref C :: bm).contains (.type B) = true := by
    rw [List.contains_cons, U.has]
    exact Bool.or_true _
  have no1 : (Value.ref C :: bm).contains (.type "AttributeError") = false := by
    rw [List.contains_cons, U.noA]
    rfl
  have no2 : (Value.ref C :: bm).contains (.type "NameError") = false := by
    rw [List.contains_cons, U.noN]
    rfl
  have ending := F.ends
  refine codeAny_builtinAt F.entry ?_
  unfold Builtin.«BaseException.__new__»
  refine wpAt_bind ?_
  show wpAt _ _ _
    (stack >>= _) _ _ _
  refine wpAt_bind (wpAt_stack fun p below =>
    wpAt_of_wpAny ?_)
  wp_walk
  refine wpAt_of_wpAny ?_
  rw [F.owner]
  repeat first
    | with_reducible refine wpAny_madeHere_exc F.canon at_ ?_
    | with_reducible refine wpAny_loadPart_at at_ ?_
    | (with_reducible refine wpAny_isSubtype_exc at_ ?_; first | rw [yes] | rw [no1] | rw [no2])
    | wp_step
  show R _ _
  rw [Heap.size_push]
  exact goal
theorem made_type (F : ExcBaseFacts B newId initId bmB) (U : Above bm B) {given : List Value} {fI : Addr} {Q : Fin → Shared → Prop} (at_ : mem.get? C = some (excClassObj nm q C N bs bm hdct sn sub ab col dd k0 k1 k2 k3 k5 newId))
    (own : W.Looks (model prog w) mem (typeLookup (.ref C) "__init__") (some (.ref fI))) (bound : ∀ self, W.Looks (model prog w) mem (bindSpecial (.ref fI) self) (.ref fI, [self])) (short : given.length ≤ sizeLine)
    (run : codeAny (model prog w) A (.call (.ref fI) ⟨.ref (mem.objs.size + 1) :: given, []⟩) (fun r s' => match r with | .ok (.ret v) => v = .none ∧ Q (.done (.ret (.ref (mem.objs.size + 1)))) s' | .ok _ => False | .error e => E e s') ⟨laidE mem C given, gs, dr, tk, os⟩) :
    wpAny (model prog w) A (Builtin.«type.__call__» ⟨.ref C :: given, []⟩) Q E ⟨mem, gs, dr, tk, os⟩ := by
  repeat first
    | with_reducible refine wpAny_loadPart_at at_ ?_
    | with_reducible refine wpAny_madeBy_exc at_ ?_
    | wp_step
  refine codeAny_call_builtin_code (Code.quiet_builtin _ F.quiet) (made_check F U at_ (made_new F U at_ short ?_))
  show wpAny _ _ _ _ _ _
  have grow : ∀ b o, mem.get? b = some o → (laidE mem C given).get? b = some o := fun b o e =>
    Heap.get?_push_of_some _ (Heap.get?_push_of_some _ e)
  have at2 := grow _ _ at_
  have obj : (laidE mem C given).get? (mem.objs.size + 1) = some (excO C mem.objs.size) := by
    show ((mem.push (W.kdv_tup given)).push _).get? _ = _
    heap_get
  have self : (Value.ref C :: bm).contains (.ref C) = true := by
    rw [List.contains_cons, beq_self_eq_true]
    rfl
  have look := own.keeps grow
  have bind := (bound (.ref (mem.objs.size + 1))).keeps grow
  unfold isInstance
  repeat first
    | with_reducible refine wpAny_loadPart_at obj ?_
    | (with_reducible refine wpAny_isSubtype_exc at2 ?_; rw [self])
    | wp_step
  show wpAny _ _ (typeLookup
    (.ref C) _) _ _ _
  refine look.at (wpAny_holding (wpAny_bind (bind.at (wpAny_bind (wpAny_call (codeAny_mono run fun r s' z => ?_))))))
  match r, z with
  | .error e, z => exact z
  | .ok .next, z => exact z.elim
  | .ok .brk, z => exact z.elim
  | .ok .cont, z => exact z.elim
  | .ok (.ret v), z =>
    obtain ⟨rfl, z⟩ := z
    first
      | exact wpAny_pure (wpAny_pure z)
      | (wp_walk; exact z)
theorem made_call (F : ExcBaseFacts B newId initId bmB) (U : Above bm B) {given : List Value} {fI : Addr} (at_ : mem.get? C = some (excClassObj nm q C N bs bm hdct sn sub ab col dd k0 k1 k2 k3 k5 newId))
    (own : W.Looks (model prog w) mem (typeLookup (.ref C) "__init__") (some (.ref fI))) (bound : ∀ self, W.Looks (model prog w) mem (bindSpecial (.ref fI) self) (.ref fI, [self])) (short : given.length ≤ sizeLine)
    (run : codeAny (model prog w) (A.under (.builtin "type.__call__" ⟨.ref C :: given, []⟩)) (.call (.ref fI) ⟨.ref (mem.objs.size + 1) :: given, []⟩) (W.InitBack (mem.objs.size + 1) R) ⟨laidE mem C given, gs, dr, tk, os⟩) :
    codeAny (model prog w) A (.call (.ref C) ⟨given, []⟩) R ⟨mem, gs, dr, tk, os⟩ := by
  have lookup := tc_lookup
  have binds := tc_bind (.ref C)
  have kind : (⟨mem, gs, dr, tk, os⟩ : Shared).TypeIs (.ref C) "type" := ⟨_, at_, rfl⟩
  refine codeAny_of_tree ?_
  show wpAny _ _ (callAny
    (.ref C) _) _ _ _
  repeat any_goals first
    | assumption
    | with_reducible refine wpAny_loadPart_at at_ ?_
    | wp_step
  refine ⟨rfl, codeAny_call_builtin_at (Code.quiet_builtin _ (by decide +kernel)) entry_typeCall
    (wpAny_check_type_call_sub at_ (made_type F U at_ own bound short (codeAny_mono run fun r s' z => ?_)))⟩
  match r, z with
  | .error e, z => exact z
  | .ok .next, z => exact z
  | .ok .brk, z => exact z
  | .ok .cont, z => exact z
  | .ok (.ret v), z => exact z
end
end FSX
end PySem

set_option Elab.async false
set_option linter.all false
set_option maxRecDepth 100000
set_option maxHeartbeats 4000000
namespace PySem
namespace FSX
open PySem.W PySem.Calls PyProof.Rows PySem.HandSPX
open Builtin Builtin.ObjectAttr
/-- stores on what stems from KeyError -/
theorem store_KeyErr : StoreFacts "KeyError" [.type "KeyError", .type "LookupError", .type "Exception", .type "BaseException", .type "object"] "object.__setattr__" "object" where
  mro := by
    rw [mroOf_type]
    kernel_rfl
  slot := by
    refine Slot.of (owner := "object") (n := "__setattr__") ?_ (by decide +kernel) (by decide +kernel) ?_ (Or.inl ?_) ?_
    · rw [typeLookup_type, builtinLookup_eq_fast]
      kernel_rfl
    · decide +kernel
    · decide +kernel
    · rw [isSubtype_type]
      kernel_rfl
  entry := F.store_object.entry
  kind := F.store_object.kind
  split := F.store_object.split
  hasOwner := by decide
  args := F.store_object.args
  passes := fun _ => by kernel_rfl
section
variable {prog : Program} {w : World} {A : Around} {R : Result → Shared → Prop} {mem : Heap} {gs : Array GenState} {dr : Drawn} {tk : Nat} {os : OsState}
/-- self.name = v, where the error has no dict yet -/
theorem first_field {K : W.Frag} {bmB : List Value} {B : String} {name : Str} {nt : Tok} {v : Value} {x C : Addr} {fv : Array Value} {cd : ClassData} (SF : StoreFacts B bmB "object.__setattr__" "object")
    (isIn : K.In mem) (at_ : mem.get? x = some { cls := .ref C, data := .fields fv }) (cls : W.clsIn K C = some cd) (over : excOver K C bmB = true) (dict : cd.hasDict = true) (no : W.findIn K (.ref C) name = some none)
    (goal : ∀ mem' tk' dx, (∀ b o, b ≠ x → mem.get? b = some o → mem'.get? b = some o) → mem.objs.size ≤ dx → dx ≠ x → mem'.get? x = some { cls := .ref C, dict := some dx, data := .fields fv } →
      mem'.Ns1 dx (fun y => if y = name then some v else none) → R (.ok (.ret .none)) ⟨mem', gs, dr, tk', os⟩) :
    codeAny (model prog w) A (.call (.builtin "object.__setattr__") ⟨[.ref x, .str name nt, v], []⟩) R ⟨mem, gs, dr, tk, os⟩ := by
  have I : W.InstAt mem x { cls := .ref C, data := .fields fv } C none := ⟨at_, rfl, rfl, trivial⟩
  have apart : x ≠ mem.objs.size := Nat.ne_of_lt (Heap.lt_size at_)
  have look : W.Looks (model prog w) mem (classData C) cd := W.looks_clsIn isIn cls
  refine osa_openX (s := ⟨mem, gs, dr, tk, os⟩) (r := none) SF isIn I over (by unfold takerIn; rw [no]; rfl) fun b => ?_
  obtain ⟨nm, bs, mro, ns, qn, hd, sn, sb, ab, col, del⟩ := cd
  replace dict : hd = true := dict
  subst dict
  show wpAny _ _ (storeInOwnDict _ _ _ _ _ _) _ _ _
  unfold storeInOwnDict ownDictForStores
  repeat first
    | with_reducible refine store_in_new ?_ ?_
    | with_reducible refine wpAny_loadPart_at at_ ?_
    | with_reducible refine look.at ?_
    | wp_step
  · exact ⟨_, #[], _, (Heap.get?_update_ne _ _ _ _ apart.symm).trans (Heap.get?_push_at rfl rfl), rfl,
      fun e z => absurd z (by simp), fun _ => rfl⟩
  · intro mem' tk' new same
    have before : (mem.push { cls := .type "dict", data := .dict #[] }).get? x = some { cls := .ref C, data := .fields fv } :=
      Heap.get?_push_of_some _ at_
    refine goal mem' tk' mem.objs.size (fun b o ne bo => ?_) (Nat.le_refl _) apart.symm ?_ new
    · exact (same.2 b (Nat.ne_of_lt (Heap.lt_size bo))).trans
        ((Heap.get?_update_ne _ _ _ _ ne).trans (Heap.get?_push_of_some _ bo))
    · exact (same.2 x apart).trans
        (Heap.get?_update_self _ before rfl)
end
end FSX
end PySem

set_option Elab.async false
set_option linter.all false
set_option maxRecDepth 100000
set_option maxHeartbeats 4000000
/-! own errors as values: made, their field read, their class asked -/
namespace FS
open PySem PySem.Spec PyProof.Rows L2
/-- what the built-in class above an own error gives -/
structure BaseE (newId : String) (bmB : List Value) : Prop where
  ex : ∃ (B initId B2 : String) (bmF : List Value), ExcBaseFacts B newId initId bmF ∧ bmB.contains (.type B) = true ∧ StoreFacts B2 bmB "object.__setattr__" "object"
  noA : bmB.contains (.type "AttributeError") = false
  noN : bmB.contains (.type "NameError") = false
/-- an own error with an own __init__ -/
structure OexW (K : PySem.W.Frag) (C : Addr) (newId : String) (bmB : List Value) : Prop where
  made : PySem.W.excInitIn K C bmB newId = true
  over : PySem.W.excOver K C bmB = true
  hd : PySem.W.hasDictIn K C = true
  sa : PySem.W.findIn K (.ref C) "__setattr__" = some (some (.builtin "object.__setattr__"))
  exC : PySem.W.subIn K (.ref C) (.type "BaseException") = some true
  tyC : PySem.W.typeIn K (.ref C) = some (.type "type")
  kC : PySem.W.keepIn K (.ref C) = true
  base : BaseE newId bmB
section
variable {X : Cx} {pins : List (Addr × Obj)} {σ : L2.St} {H : Hp} {s : Shared} {a C : Addr} {f : Str} {y : V} {u : Value} {Q : Unit → Shared → Prop} {E : Value → Shared → Prop} {A : Around} {newId : String} {bmB : List Value}
theorem field_new (T : OexW X.K C newId bmB) (I : Inv X pins σ H s) (e : H a = some (exo a C none)) (no : PySem.W.findIn X.K (.ref C) f = some none) (ry : RelV y u)
    (goal : ∀ dx s', H dx = none → dx ≠ a → Inv X pins σ (upd (upd H dx (exd dx [(f, y)])) a (exo a C (some dx))) s' → Q () s') : wpAny (model X.prog X.w) A (setAttr (.ref a) f u) Q E s := by
  obtain ⟨B, initId, B2, bmF, FB, has, SF⟩ := T.base.ex
  obtain ⟨cd, cls, dict⟩ := PySem.W.any_some T.hd
  obtain ⟨t1, at_⟩ := exo_at I.hok e
  obtain ⟨mem, gs, dr, tk, os⟩ := s
  refine PySem.W.set_plain I.kIn (ox := { cls := .ref C, dict := none, data := .fields #[.ref t1, .none, .none, .none, .bool false, .none] }) (od := none) ⟨at_, rfl, rfl, trivial⟩ T.sa ?_
  refine PySem.FSX.first_field SF I.kIn at_ cls T.over dict no fun mem' tk' dx keep fresh ne atX new => ?_
  have free : H dx = none := I.hok.fresh fresh
  have other : ∀ {b : Addr} {o : Obj}, mem.get? b = some o → b ≠ dx := fun {b o} q => Nat.ne_of_lt (Nat.lt_of_lt_of_le (Heap.lt_size q) fresh)
  have away : ∀ {b : Addr}, H b = none → b ≠ a := fun {b} n z => by
    rw [z, e] at n
    cases n
  have U : Un X.fs [] H (upd (upd H dx (exd dx [(f, y)])) a (exo a C (some dx))) mem mem' := by
    refine ⟨?_, ?_, ?_, ?_, ?_, ?_, ?_⟩
    · intro b o q n _ _
      exact keep b o (away n) q
    · intro b o q n _ _
      exact ⟨o.slots, keep b o (away n) q⟩
    · intro b o q n _
      rw [upd_ne (away n), upd_ne (other q)]
      exact n
    · intro b o q _
      rcases Classical.em (b = a) with rfl | nb
      · exact ⟨_, atX⟩
      · exact ⟨o, keep b o nb q⟩
    · intro b xs q
      rw [upd_ne (at_ne e q exo_tup), upd_ne (ne_of_none q free)]
      exact q
    · intro b o v q
      rw [upd_ne (at_ne e q exo_frz), upd_ne (ne_of_none q free)]
      exact q
    · intro b ps q
      refine ⟨#[], ?_⟩
      rw [upd_ne (at_ne e q exo_tbl), upd_ne (ne_of_none q free), q, Array.append_empty]
  refine goal dx _ free ne (I.un (t' := tk') U fun b o q => ?_)
  rcases Classical.em (b = a) with rfl | nb
  · rw [upd_same] at q
    cases q
    exact exo_ok atX
  rw [upd_ne nb] at q
  rcases Classical.em (b = dx) with rfl | nd
  · rw [upd_same] at q
    cases q
    exact exd_ok new (relO_put (fs := []) ry fun _ => True.intro)
  rw [upd_ne nd] at q
  refine (I.hok b o q).stay (fun c v hc z => keep c v ?_ z) (fun c hc => ?_) (fun c xs hc => ?_)
  · rcases hc with rfl | hc
    · exact nb
    · exact at_ne e hc exo_own
  · rw [upd_ne (at_ne e hc exo_own), upd_ne (ne_of_none hc free)]
    exact hc
  · rw [upd_ne (at_ne e hc exo_tup), upd_ne (ne_of_none hc free)]
    exact hc
end
/-- self.f = e, the first one -/
def tFst (K : PySem.W.Frag) (newId : String) (bmB : List Value) (f : Str) (to te : TE) : TS := fun D σ H => te σ H fun y H1 => to σ H1 fun x H2 => ∃ a C : Addr, x = .ref a ∧ OexW K C newId bmB ∧ PySem.W.findIn K (.ref C) f = some none ∧
  H2 a = some (exo a C none) ∧ ∀ dx, H2 dx = none → dx ≠ a → D.nx σ (upd (upd H2 dx (exd dx [(f, y)])) a (exo a C (some dx)))
/-- C(e), C's own __init__ keeping sp -/
def tErr (C : Addr) (sp : Sp) (ta : TA) : TE := fun σ H Q => ta σ H fun vs H1 => vs.length ≤ 1000 ∧ ∀ a, H1 a = none → sp (.ref a :: vs) (upd H1 a (exo a C none)) (fun v H2 => v = .non ∧ Q (.ref a) H2) E0
section
variable {X : Cx} {o e : Expr} {es : List Expr} {to te : TE} {ta : TA} {f : Str} {p p' pos : Pos} {newId : String} {bmB : List Value}
theorem ps_fst (ho : PE X o to) (he : PE X e te) (hs : swapsWith e (some (.Attribute o f p')) pos.line X.env = pure false := by rfl) : PS X (.Assign [.Attribute o f p'] e pos) (tFst X.K newId bmB f to te) := by
  refine ⟨fun pins s σ H D I h => ?_⟩
  refine plainObj_wpAny_Assign_Attribute (thn (he.run pins s σ H _ I h) fun v s1 ⟨y, H1, I1, r1, q1⟩ =>
    thn (ho.run pins s1 σ H1 _ I1 q1) fun u s2 ⟨x, H2, I2, r2, a, C, ex, T, no, ea, q⟩ => ?_) hs
  subst ex
  obtain rfl : u = Value.ref a := r2
  exact field_new T I2 ea no r1 fun dx s' n ne J => ⟨σ, _, J, q dx n ne⟩
theorem pe_err {x : Str} {C fI : Addr} {k : Nat} {fd : FuncData} {ps : List Str} {sp : Sp} (T : OexW X.K C newId bmB) (own : PySem.W.findIn X.K (.ref C) "__init__" = some (some (.ref fI))) (kind : PySem.W.typeIn X.K (.ref fI) = some (.type "function"))
    (F : FnOk X.prog X.w X.K X.mg X.base CX0 k fI fd ps sp) (hr : Room (k + 1) X.A) (hb : Binds X.K fd ps []) (hg : Gl X x) (hm : X.mg x = some (.ref C)) (ha : PA X (e :: es) ta)
    (hdb : (x == ("__debug__" : Str)) = false := by decide) (he : starEach (e :: es) X.env = (false, eval e X.env) :: starEach es X.env := by rfl) (hpl : (backTo pos (starEach es X.env)).any (·.1) = false := by rfl) :
    PE X (.Call (.Name x p) (e :: es) [] pos) (tErr C sp ta) := by
  refine ⟨fun pins s σ H Q I h => wpAny_Call_Name_kw (ld_glob I hg hm ?_ hdb)⟩
  refine PySem.W.callWith_K (h₀ := X.base) I.ok.mod.kin T.kC (thn (ha.run pos pins s σ H _ I h) fun us s1 ⟨vs, H1, I1, r1, hz, q1⟩ => ⟨I1.kIn, ?_⟩) he hpl
  obtain ⟨B, initId, B2, bmF, FB, has, SF⟩ := T.base.ex
  obtain ⟨nm, N, qn, bs, bm, hdct, sn, sub, ab, col, dd, k0, k1, k2, k3, k5, hC, hT⟩ := PySem.W.excInit_of I1.kIn T.made
  have up : PySem.FSX.Above bm B := ⟨by rw [hT, has], by rw [hT, T.base.noA], by rw [hT, T.base.noN]⟩
  show wpAny _ _ (call (.ref C) us) _ _ _
  obtain ⟨mem, gs, dr, tk, os⟩ := s1
  have past : mem.objs.size ≤ mem.objs.size + 1 := Nat.le_succ _
  have free : H1 (mem.objs.size + 1) = none := I1.hok.fresh past
  have told := q1 (mem.objs.size + 1) free
  have grow : ∀ b o, mem.get? b = some o → (PySem.FSX.laidE mem C us).get? b = some o := fun b o z => Heap.get?_push_of_some _ (Heap.get?_push_of_some _ z)
  have at_ : (PySem.FSX.laidE mem C us).get? (mem.objs.size + 1) = some (PySem.HandSPX.excO C mem.objs.size) := by
    show ((mem.push (PySem.W.kdv_tup us)).push _).get? _ = _
    heap_get
  have I2 : Inv X pins σ (upd H1 (mem.objs.size + 1) (exo (mem.objs.size + 1) C none)) ⟨PySem.FSX.laidE mem C us, gs, dr, tk, os⟩ := I1.laid (t' := tk) grow past (exo_ok at_)
  have r2 : Vals (V.ref (mem.objs.size + 1) :: vs) (Value.ref (mem.objs.size + 1) :: us) := .cons rfl r1
  have len : (Value.ref (mem.objs.size + 1) :: us ++ []).length = ps.length := by
    rw [List.append_nil, ← r2.length]
    exact F.len _ _ _ _ told
  have short : us.length ≤ sizeLine := by
    rw [← Paired.length r1, sizeLine_eq]
    omega
  have bind := hb _ (Value.ref (mem.objs.size + 1) :: us) I2.kIn len
  rw [List.append_nil] at bind
  have run := F.run _ X.stack _ _ ⟨Value.ref (mem.objs.size + 1) :: us, []⟩ _ _ _ E0 (hr.make C us []) (I2.env0.make C us []) bind r2 told
  refine wpAny_call (PySem.FSX.made_call FB up hC (PySem.W.looks_findIn I1.kIn own) (fun self => PySem.W.bind_fn I1.kIn self kind) short (codeAny_mono run fun r s' z => ?_))
  match r, z with
  | .error er, z => exact z.elim
  | .ok .next, z => exact z.elim
  | .ok .brk, z => exact z.elim
  | .ok .cont, z => exact z.elim
  | .ok (.ret u), z =>
    obtain ⟨v, H2, I3, rv, ev, q2⟩ := I2.after z
    subst ev
    exact ⟨rv, .ref _, H2, I3, rfl, q2⟩
end
end FS

set_option Elab.async false
set_option linter.all false
set_option maxRecDepth 100000
set_option maxHeartbeats 4000000
namespace FS
open PySem PySem.Spec PyProof.Rows L2
/-- what stands of an own error's class for its instances to be asked -/
structure Err (K : PySem.W.Frag) (C : Addr) : Prop where
  xf : XfC K C
  ha : PySem.W.findIn K (.ref C) "__class__" = some (some (.builtin "object.__class__"))
  hn : PySem.W.specialIn K (.builtin "object.__class__") "__get__" = some (some (.builtin "getset_descriptor.__get__"))
  htk : PySem.W.takesIn K (.builtin "object.__class__") = some true
  hm : PySem.W.mroIn K C (.type "object") = some true
theorem Err.cls {K : PySem.W.Frag} {C : Addr} (T : Err K C) : (PySem.W.clsIn K C).isSome = true := by
  obtain ⟨cd, h, _⟩ := PySem.W.any_some T.xf.hdC
  rw [h]
  rfl
/-- an error in the heap: its class, its field -/
def ErrAt (H : Hp) (a C : Addr) (fs : Option (List (Str × V))) : Prop := ∃ d : Option Addr, H a = some (exo a C d) ∧ match d, fs with
  | none, none => True
  | some dx, some l => H dx = some (exd dx l)
  | _, _ => False
section
variable {X : Cx} {pins : List (Addr × Obj)} {σ : L2.St} {H : Hp} {s : Shared}
theorem ErrAt.inst (I : Inv X pins σ H s) {a C : Addr} {fs : Option (List (Str × V))} (h : ErrAt H a C fs) : ∃ (ox : Obj) (od : Option Obj), PySem.W.InstAt s.heap a ox C od ∧ ∀ l f y, fs = some l → l.lookup f = some y → ∃ o u, od = some o ∧ PySem.W.lookIn f o = some (some u) ∧ RelV y u := by
  obtain ⟨d, e, m⟩ := h
  obtain ⟨t1, at_⟩ := exo_at I.hok e
  match d, fs, m with
  | none, none, _ => exact ⟨_, none, ⟨at_, rfl, rfl, trivial⟩, fun l f y z => nomatch z⟩
  | some dx, some l, m =>
    obtain ⟨mA, hns, rel⟩ := exd_at I.hok m
    obtain ⟨od, ho, hl⟩ := lookIn_ns hns
    refine ⟨_, some od, ⟨at_, rfl, rfl, ho⟩, fun l' f y z q => ?_⟩
    cases z
    obtain ⟨u, hu, ru⟩ := RelO.some_of (v := y) (o := mA f) (by rw [← q]; exact rel f)
    exact ⟨od, u, rfl, by rw [hl, hu], ru⟩
end
/-- isinstance(e, c), e an own error -/
def rIsiE (K : PySem.W.Frag) : List V → Hp → VK → Prop := fun xs H Q => ∃ (a C : Addr) (fs : Option (List (Str × V))) (c : V) (u : Value) (b : Bool), xs = [.ref a, c] ∧ ErrAt H a C fs ∧ Err K C ∧ ClsV c u ∧ PySem.W.kitOne K (.ref C) u = some b ∧ Q (.bl b) H
theorem call_isiE {X : Cx} : CallR X (.builtin "isinstance") (rIsiE X.K) := by
  intro pins s σ H xs us Q I r h
  obtain ⟨a, C, fs, c, u, b, rfl, ea, T, k, e, q⟩ := h
  obtain ⟨u1, u2, rfl, r1, r2⟩ := vals2 r
  obtain rfl := k.eq r2
  obtain rfl : u1 = Value.ref a := r1
  obtain ⟨ox, od, J, _⟩ := ea.inst I
  exact PySem.W.kia_one (PySem.W.kitx_exc (x := a) (ox := ox) (od := od) T.cls T.xf.ga T.xf.gg T.xf.exC T.ha T.hn T.htk T.hm) I.kIn J e (fun z => nomatch z) fun tk => ⟨.bl b, H, I.tok tk, rfl, q⟩
/-- e.f, e an own error -/
def tFldE (K : PySem.W.Frag) (f : Str) (te : TE) : TE := fun σ H Q => te σ H fun x H1 => ∃ (a C : Addr) (l : List (Str × V)) (y : V), x = .ref a ∧ ErrAt H1 a C (some l) ∧ Err K C ∧ PySem.W.findIn K (.ref C) f = some none ∧ l.lookup f = some y ∧ Q y H1
theorem pe_fldE {X : Cx} {e : Expr} {te : TE} {pos : Pos} {f : Str} (he : PE X e te) (hb : attributeBase e f X.env (eval e X.env) = eval e X.env := by rfl) : PE X (.Attribute e f pos) (tFldE X.K f te) := by
  refine ⟨fun pins s σ H Q I h => attr_of hb (thn (he.run pins s σ H _ I h) fun u s1 told => ?_)⟩
  obtain ⟨x, H1, I1, rx, a, C, l, y, ex, ea, T, no, look, q⟩ := told
  subst ex
  obtain rfl : u = Value.ref a := rx
  obtain ⟨ox, od, J, val⟩ := ea.inst I1
  obtain ⟨o, u, rfl, hl, ru⟩ := val l f y rfl look
  exact HandSPX.exc_get I1.kIn J T.xf.ga T.xf.gg T.xf.exC (PySem.W.findObj_own T.xf.hdC no rfl hl) (handed_of ru) ⟨y, H1, I1.tok _, ru, q⟩
/-- C(e), no own __init__ -/
def tErrB (C : Addr) (te : TE) : TE := fun σ H Q => te σ H fun _ H1 => ∀ a, H1 a = none → Q (.ref a) (upd H1 a (exo a C none))
theorem pe_errB {X : Cx} {C : Addr} {bmB : List Value} {B newId initId : String} {x : Str} {e : Expr} {te : TE} {p pos : Pos} (F : ExcBaseFacts B newId initId bmB) (is : PySem.W.excIn X.K C bmB newId = true) (gC : X.mg x = some (.ref C)) (kC : PySem.W.keepIn X.K (.ref C) = true) (hg : Gl X x)
    (he : PE X e te) (hs : starEach [e] X.env = (false, eval e X.env) :: starEach [] X.env := by rfl) (hdb : (x == ("__debug__" : Str)) = false := by decide) : PE X (.Call (.Name x p) [e] [] pos) (tErrB C te) := by
  refine ⟨fun pins s σ H Q I h => wpAny_Call_Name_kw (ld_glob I hg gC ?_ hdb)⟩
  refine PySem.W.callWith_K (h₀ := X.base) I.ok.mod.kin kC ?_ hs (by rfl)
  rw [hs]
  show wpAny _ _ (spliced ((false, eval e X.env) ::
    backTo pos (starEach [] X.env))) _ _ s
  refine Calls.spliced_cons (thn (he.run pins s σ H _ I h) fun u s1 ⟨v, H1, I1, r1, q1⟩ => Calls.spliced_nil ⟨I1.kIn, ?_⟩)
  obtain ⟨bm, N, nm, qn, bs, hdct, sn, sub, ab, col, dd, k0, k1, k2, k3, k5, mN, hC, hN, hni, T⟩ := exc_obj I1.kIn is
  show wpAny _ _ (call (.ref C) [u]) _ _ _
  obtain ⟨mem, gs, dr, tk, os⟩ := s1
  refine wpAny_call_exc_subT F T hC hN hni (fun mem' a hm => ?_) (by show 1 ≤ sizeLine; decide)
  have free : H1 a = none := I1.hok.gone hm.new
  obtain ⟨t, at_, _⟩ := hm.there
  have other : ∀ {b : Addr} {o : Obj}, mem.get? b = some o → b ≠ a := fun {b o} z y => by
    rw [y, hm.new] at z
    cases z
  have U : Un X.fs [] H1 (upd H1 a (exo a C none)) mem mem' := by
    refine ⟨fun b o z _ _ _ => hm.keeps b o z, fun b o z _ _ _ => ⟨o.slots, hm.keeps b o z⟩, fun b o z n _ => ?_, fun b o z _ => ⟨o, hm.keeps b o z⟩, fun b xs z => ?_, fun b o v z => ?_, fun b ps z => ⟨#[], ?_⟩⟩
    · rw [upd_ne (other z)]
      exact n
    · rw [upd_ne (ne_of_none z free)]
      exact z
    · rw [upd_ne (ne_of_none z free)]
      exact z
    · rw [upd_ne (ne_of_none z free), z, Array.append_empty]
  refine ⟨.ref a, _, I1.un (t' := tk) U (fun b o z => ?_), rfl, q1 a free⟩
  rcases Classical.em (b = a) with rfl | nb
  · rw [upd_same] at z
    cases z
    exact exo_ok at_
  rw [upd_ne nb] at z
  refine (I1.hok b o z).stay (fun c v _ y => hm.keeps c v y) (fun c hc => ?_) (fun c xs hc => ?_)
  · rw [upd_ne (ne_of_none hc free)]
    exact hc
  · rw [upd_ne (ne_of_none hc free)]
    exact hc
/-! ### the built-in ones -/
theorem base_Value : BaseE "ValueError.__new__" [.type "ValueError", .type "Exception", .type "BaseException", .type "object"] := ⟨⟨_, _, _, _, F.excBase_ValueError, by decide +kernel, F.store_ValueError⟩, by decide +kernel, by decide +kernel⟩
theorem base_Lookup : BaseE "LookupError.__new__" [.type "LookupError", .type "Exception", .type "BaseException", .type "object"] := ⟨⟨_, _, _, _, F.excBase_LookupError, by decide +kernel, F.store_LookupError⟩, by decide +kernel, by decide +kernel⟩
theorem base_Key : BaseE "LookupError.__new__" [.type "KeyError", .type "LookupError", .type "Exception", .type "BaseException", .type "object"] := ⟨⟨_, _, _, _, F.excBase_LookupError, by decide +kernel, PySem.FSX.store_KeyErr⟩, by decide +kernel, by decide +kernel⟩
theorem base_Index : BaseE "IndexError.__new__" [.type "IndexError", .type "LookupError", .type "Exception", .type "BaseException", .type "object"] := ⟨⟨_, _, _, _, F.excBase_IndexError, by decide +kernel, F.store_IndexError⟩, by decide +kernel, by decide +kernel⟩
theorem base_Arith : BaseE "ArithmeticError.__new__" [.type "ArithmeticError", .type "Exception", .type "BaseException", .type "object"] := ⟨⟨_, _, _, _, F.excBase_ArithmeticError, by decide +kernel, F.store_ArithmeticError⟩, by decide +kernel, by decide +kernel⟩
theorem base_Over : BaseE "OverflowError.__new__" [.type "OverflowError", .type "ArithmeticError", .type "Exception", .type "BaseException", .type "object"] := ⟨⟨_, _, _, _, F.excBase_OverflowError, by decide +kernel, F.store_OverflowError⟩, by decide +kernel, by decide +kernel⟩
end FS

set_option Elab.async false
set_option linter.all false
set_option maxRecDepth 100000
set_option maxHeartbeats 4000000
/-! the classes of the errors, by number -/
namespace FS
open PySem PySem.Spec PyProof.Rows L2
def subB (i j : Nat) : Bool := i == j || (j == 0 && decide (i ≤ 5))
def tysE : List String := ["ValueError", "KeyError", "IndexError", "LookupError", "ArithmeticError", "OverflowError"]
def bltB (i : Nat) (t : String) : Bool :=
  (decide (i ≤ 5) && t == "ValueError") || (i == 6 && (t == "KeyError" || t == "LookupError")) || (i == 7 && (t == "IndexError" || t == "LookupError")) || (i == 8 && t == "LookupError") || (i == 9 && t == "ArithmeticError") ||
    (i == 10 && (t == "OverflowError" || t == "ArithmeticError"))
def errB (K : PySem.W.Frag) (C : Addr) : Bool := xfB K C && (decide (PySem.W.findIn K (.ref C) "__class__" = some (some (.builtin "object.__class__"))) && decide (PySem.W.mroIn K C (.type "object") = some true))
structure Kinds (K : PySem.W.Frag) (cs : Nat → Addr) : Prop where
  own : ∀ i j, i < 11 → j < 11 → PySem.W.kitOne K (.ref (cs i)) (.ref (cs j)) = some (subB i j)
  blt : ∀ i t, i < 11 → t ∈ tysE → PySem.W.kitOne K (.ref (cs i)) (.type t) = some (bltB i t)
  err : ∀ i, i < 11 → Err K (cs i)
def kindsB (K : PySem.W.Frag) (cs : Nat → Addr) : Bool := (List.range 11).all fun i => ((List.range 11).all fun j => decide (PySem.W.kitOne K (.ref (cs i)) (.ref (cs j)) = some (subB i j))) && (tysE.all fun t => decide (PySem.W.kitOne K (.ref (cs i)) (.type t) = some (bltB i t))) && errB K (cs i)
theorem kinds_of {K : PySem.W.Frag} {cs : Nat → Addr} (h : kindsB K cs = true) (hn : PySem.W.specialIn K (.builtin "object.__class__") "__get__" = some (some (.builtin "getset_descriptor.__get__"))) (ht : PySem.W.takesIn K (.builtin "object.__class__") = some true) : Kinds K cs := by
  have all : ∀ i, i < 11 → _ := fun i hi => List.all_eq_true.mp h i (List.mem_range.mpr hi)
  refine ⟨fun i j hi hj => ?_, fun i t hi ht => ?_, fun i hi => ?_⟩
  · exact of_decide_eq_true (List.all_eq_true.mp (Bool.and_eq_true_iff.mp (Bool.and_eq_true_iff.mp (all i hi)).1).1 j (List.mem_range.mpr hj))
  · exact of_decide_eq_true (List.all_eq_true.mp (Bool.and_eq_true_iff.mp (Bool.and_eq_true_iff.mp (all i hi)).1).2 t ht)
  · obtain ⟨h1, h2⟩ := Bool.and_eq_true_iff.mp (Bool.and_eq_true_iff.mp (all i hi)).2
    obtain ⟨h2, h3⟩ := Bool.and_eq_true_iff.mp h2
    exact ⟨xfB_ok h1, of_decide_eq_true h2, hn, ht, of_decide_eq_true h3⟩
structure Globs (mg : Str → Option Value) (cs : Nat → Addr) : Prop where
  g0 : mg "HandError" = some (.ref (cs 0))
  g1 : mg "InvalidProgram" = some (.ref (cs 1))
  g2 : mg "InvalidMeaning" = some (.ref (cs 2))
  g3 : mg "InvalidOperation" = some (.ref (cs 3))
  g4 : mg "InvalidCommand" = some (.ref (cs 4))
  g5 : mg "ParseError" = some (.ref (cs 5))
  g6 : mg "UnknownName" = some (.ref (cs 6))
  g7 : mg "InvalidNumber" = some (.ref (cs 7))
  g8 : mg "NothingToUndo" = some (.ref (cs 8))
  g9 : mg "Refused" = some (.ref (cs 9))
  g10 : mg "TooMany" = some (.ref (cs 10))
  b_ValueError : mg "ValueError" = none
  b_KeyError : mg "KeyError" = none
  b_IndexError : mg "IndexError" = none
  b_LookupError : mg "LookupError" = none
  b_ArithmeticError : mg "ArithmeticError" = none
  b_OverflowError : mg "OverflowError" = none
theorem Same.non {H H' : Hp} (s : Same H H') {b : Addr} (n : H' b = none) : H b = none := by
  cases e : H b with
  | none => rfl
  | some o =>
    rw [s _ _ e] at n
    cases n
def handsOf (i : Nat) : List Nat := (List.range 6).filter (subB i)
/-- the error number i -/
def ErrN (cs : Nat → Addr) (H : Hp) (v : V) (i : Nat) : Prop := ∃ a fs, v = .ref a ∧ ErrAt H a (cs i) fs
def ilist (l : List Nat) : List V := l.map fun n : Nat => V.int (n : Int)
def spHands (cs : Nat → Addr) : Sp := fun vs H Q _ => ∃ (v : V) (i : Nat), vs = [v] ∧ i < 11 ∧ ErrN cs H v i ∧ ∀ H' p, Same H H' → H p = none → H' p = some (.lst (ilist (handsOf i))) → Q (.ref p) H'
def onlyIf (b : Bool) (z : Str) : List Str := if b then [z] else []
def othersOf (i : Nat) : List Str :=
  onlyIf (subB i 6) "name" ++ onlyIf (subB i 7) "number" ++ onlyIf (subB i 8) "undo" ++ onlyIf (subB i 9) "refused" ++ onlyIf (subB i 10) "over" ++ onlyIf (bltB i "ValueError") "value" ++ onlyIf (bltB i "KeyError") "key" ++
  onlyIf (bltB i "IndexError") "index" ++ onlyIf (bltB i "LookupError") "lookup" ++ onlyIf (bltB i "ArithmeticError") "arithmetic" ++ onlyIf (bltB i "OverflowError") "overflow"
theorem rep_if (b : Bool) (z : Str) : (List.replicate (if b = true then (1 : Int) else 0).toNat [V.str z]).flatten = (onlyIf b z).map V.str := by cases b <;> rfl
theorem if_lo (b : Bool) : -(2 ^ 63) ≤ (if b = true then (1 : Int) else 0) := by cases b <;> decide
theorem if_hi (b : Bool) : (if b = true then (1 : Int) else 0) < 2 ^ 63 := by cases b <;> decide
theorem if_sz (b : Bool) (z : Str) : [V.str z].length * (if b = true then (1 : Int) else 0).toNat ≤ sizeLine := by
  cases b
  · exact Nat.zero_le _
  · exact (show 1 ≤ sizeLine by decide)
theorem only_len (b : Bool) (z : Str) : (onlyIf b z).length ≤ 1 := by
  cases b
  · exact Nat.zero_le _
  · exact Nat.le_refl _
theorem cat_sz {xs ys : List Str} {n : Nat} (h : (xs ++ ys).length ≤ n) (hn : n ≤ 100 := by decide) : (xs.map V.str).length + (ys.map V.str).length ≤ sizeLine := by
  rw [List.length_map, List.length_map, ← List.length_append]
  exact Nat.le_trans h (Nat.le_trans hn (by decide))
def spOthers (cs : Nat → Addr) : Sp := fun vs H Q _ => ∃ (v : V) (i : Nat), vs = [v] ∧ i < 11 ∧ ErrN cs H v i ∧ ∀ H' p, Same H H' → H p = none → H' p = some (.lst ((othersOf i).map V.str)) → Q (.ref p) H'
theorem ErrAt.same {H H' : Hp} {a C : Addr} {fs : Option (List (Str × V))} (h : ErrAt H a C fs) (s : Same H H') : ErrAt H' a C fs := by
  obtain ⟨d, e, m⟩ := h
  refine ⟨d, s _ _ e, ?_⟩
  match d, fs, m with
  | none, none, _ => trivial
  | some dx, some l, m => exact s _ _ m
theorem ErrN.same {cs : Nat → Addr} {H H' : Hp} {v : V} {i : Nat} (h : ErrN cs H v i) (s : Same H H') : ErrN cs H' v i := by
  obtain ⟨a, fs, e, h⟩ := h
  exact ⟨a, fs, e, h.same s⟩
end FS

set_option Elab.async false
set_option linter.all false
set_option maxRecDepth 100000
set_option maxHeartbeats 4000000
namespace FS
open PySem PySem.Spec PyProof.Rows L2
section
variable {P : Program} {w : World} {K : PySem.W.Frag} {mg : Str → Option Value} {base : Heap}
abbrev N_law_of_hands : List Str := ["_law_error", "_law_told", "_law_at"]
theorem sc_law_of_hands : FnScope N_law_of_hands ["_law_error"] (defScope s_law_of_hands) := ⟨rfl, rfl, rfl, by decide +kernel, rfl, by decide +kernel, by decide +kernel⟩
theorem ok_l_of_hands {f : Addr} {fd : FuncData} (F : Fun K "_law_of_hands" "_law_of_hands" s_law_of_hands f fd) (T : Nm K mg) {cs : Nat → Addr} (G : Globs mg cs) (KD : Kinds K cs) : FnOk P w K mg base CX0 1 f fd ["_law_error"] (spHands cs) := by
  have nd := sc_law_of_hands.nd
  refine F.ok sc_law_of_hands (fun vs H Q E h => ?_) (fun cdv A outer s H vs Q E hr h => ?_)
  · obtain ⟨v, i, rfl, hi, hv, q⟩ := h
    rfl
  · obtain ⟨v, i, rfl, hi, hv, q⟩ := h
    skip
    refine ⟨_, (pss_cons (ps_set (i := 1) nd rfl (Or.inr rfl) (pe_lst (pa_cons (pe_callB call_isiE (by rfl) T.b_isinstance (by decide +kernel) (pa_cons (pv 0) (pa_cons (pe_glob (v := .ref (cs 0)) (by rfl) G.g0 rfl) pa_nil))) (pa_cons (pe_callB call_isiE (by rfl) T.b_isinstance (by decide +kernel) (pa_cons (pv 0) (pa_cons (pe_glob (v := .ref (cs 1)) (by rfl) G.g1 rfl) pa_nil))) (pa_cons (pe_callB call_isiE (by rfl) T.b_isinstance (by decide +kernel) (pa_cons (pv 0) (pa_cons (pe_glob (v := .ref (cs 2)) (by rfl) G.g2 rfl) pa_nil))) pa_nil)))))
  (pss_cons (ps_set (i := 1) nd rfl (Or.inr rfl) (pe_op op_cat (pv 1) (pe_lst (pa_cons (pe_callB call_isiE (by rfl) T.b_isinstance (by decide +kernel) (pa_cons (pv 0) (pa_cons (pe_glob (v := .ref (cs 3)) (by rfl) G.g3 rfl) pa_nil))) (pa_cons (pe_callB call_isiE (by rfl) T.b_isinstance (by decide +kernel) (pa_cons (pv 0) (pa_cons (pe_glob (v := .ref (cs 4)) (by rfl) G.g4 rfl) pa_nil))) pa_nil)))))
  (pss_cons (ps_expr (pe_bm PySem.F.plainAttrs_list PySem.F.slot_list_append PySem.F.type_list_append mt_append (pv 1) (pa_cons (pe_callB call_isiE (by rfl) T.b_isinstance (by decide +kernel) (pa_cons (pv 0) (pa_cons (pe_glob (v := .ref (cs 5)) (by rfl) G.g5 rfl) pa_nil))) pa_nil)))
  (pss_one (ps_ret (pe_lc (own := [("_law_at", 2)]) (g := gName 2) rfl nd (pi_range1 rfl T.b_range (pa_cons pe_int pa_nil)) (blkOk_by (own := [("_law_at", 2)]) (N := N_law_of_hands) (sc := defScope s_law_of_hands) (by decide +kernel)) (fun _ _ _ _ _ => (pg_name (i := 2) nd rfl (Or.inl rfl))) (fun _ _ _ _ _ => pts_one (pt_val (pe_ix (ix_listK (K := K) rfl) (pv 1) (pv 2) (fun _ _ => rfl)))) (fun _ _ _ _ _ => (pv 2)))))))), ?_⟩

    obtain ⟨a, fs, rfl, ea⟩ := hv
    have isi : ∀ j, j < 11 → PySem.W.kitOne K (.ref (cs i)) (.ref (cs j)) = some (subB i j) := fun j hj => KD.own i j hi hj
    refine ⟨_, rfl, a, cs i, fs, _, _, _, rfl, ea, KD.err i hi, .own _, isi 0 (by decide), ?_⟩
    refine ⟨_, rfl, a, cs i, fs, _, _, _, rfl, ea, KD.err i hi, .own _, isi 1 (by decide), ?_⟩
    refine ⟨_, rfl, a, cs i, fs, _, _, _, rfl, ea, KD.err i hi, .own _, isi 2 (by decide), ?_⟩
    refine ⟨by show 3 ≤ sizeLine; decide, fun l1 n1 => ?_⟩
    have s1 := same_upd (o := .lst [V.bl (subB i 0), V.bl (subB i 1), V.bl (subB i 2)]) n1
    have e1 : upd H l1 (.lst [V.bl (subB i 0), V.bl (subB i 1), V.bl (subB i 2)]) l1 = _ := upd_same
    generalize upd H l1 _ = H1 at s1 e1 ⊢
    replace ea := ea.same s1
    refine ⟨_, rfl, _, rfl, a, cs i, fs, _, _, _, rfl, ea, KD.err i hi, .own _, isi 3 (by decide), ?_⟩
    refine ⟨_, rfl, a, cs i, fs, _, _, _, rfl, ea, KD.err i hi, .own _, isi 4 (by decide), ?_⟩
    refine ⟨by show 2 ≤ sizeLine; decide, fun l2 n2 => ?_⟩
    have s2 := same_upd (o := .lst [V.bl (subB i 3), V.bl (subB i 4)]) n2
    have e2 : upd H1 l2 (.lst [V.bl (subB i 3), V.bl (subB i 4)]) l2 = _ := upd_same
    replace e1 := s2 _ _ e1
    generalize upd H1 l2 _ = H2 at s2 e1 e2 ⊢
    replace ea := ea.same s2
    refine ⟨l1, l2, _, _, rfl, rfl, e1, e2, by show 3 + 2 ≤ sizeLine; decide, fun l3 n3 => ?_⟩
    have free : H l3 = none := Same.non (s1.trans s2) n3
    generalize hh : upd H2 l3 _ = H3
    have s3 : Same H2 H3 := by rw [← hh]; exact same_upd n3
    have e3 : H3 l3 = some (.lst [V.bl (subB i 0), V.bl (subB i 1), V.bl (subB i 2), V.bl (subB i 3), V.bl (subB i 4)]) := by rw [← hh]; exact upd_same
    clear hh
    replace ea := ea.same s3
    have sH := s1.trans (s2.trans s3)
    clear s1 s2 s3 e1 e2 n1 n2
    refine ⟨_, rfl, .inl ⟨rfl, _, .inl (.inl e3)⟩, _, rfl, a, cs i, fs, _, _, _, rfl, ea, KD.err i hi, .own _, isi 5 (by decide), ?_⟩
    refine ⟨l3, _, _, rfl, rfl, e3, by show 5 < sizeLine; decide, ?_⟩
    have s4 : Same H (upd H3 l3 (.lst ([V.bl (subB i 0), V.bl (subB i 1), V.bl (subB i 2), V.bl (subB i 3), V.bl (subB i 4)] ++ [V.bl (subB i 5)]))) := Same.set sH free
    have e4 : upd H3 l3 (.lst ([V.bl (subB i 0), V.bl (subB i 1), V.bl (subB i 2), V.bl (subB i 3), V.bl (subB i 4)] ++ [V.bl (subB i 5)])) l3 = some (.lst ((List.range 6).map fun j => V.bl (subB i j))) := upd_same
    generalize upd H3 l3 _ = H4 at s4 e4 ⊢
    clear ea e3 sH n3
    refine ⟨_, rfl, by decide, by decide, fun L nL => ?_⟩
    refine lc_range (lo := 0) (n := 6) (fun j H' => Same H4 H' ∧ H' L = some (.lst (ilist ((List.range j).filter (subB i))))) ⟨same_upd nL, upd_same⟩ (fun j H5 hj hp => ?_) (fun H5 hp => ?_)
    · obtain ⟨sm, eL⟩ := hp
      rw [show (0 : Int) + (j : Int) = (j : Int) by omega]
      have hx : ((List.range 6).map fun j => V.bl (subB i j))[j]? = some (V.bl (subB i j)) := by
        rw [List.getElem?_map, List.getElem?_range hj]
        rfl
      refine ⟨rfl, _, rfl, _, rfl, l3, _, _, _, rfl, rfl, .inl (.inl (sm _ _ e4)), atI_nat hx, _, rfl, ?_⟩
      cases hb : subB i j with
      | true =>
        refine iteT ⟨_, rfl, _, eL, ?_, Same.set sm nL, ?_⟩
        · unfold ilist
          rw [List.length_map]
          have := List.length_filter_le (subB i) (List.range j)
          rw [List.length_range] at this
          exact small1000 (by omega)
        · rw [upd_same, List.range_succ, List.filter_append]
          unfold ilist
          rw [List.map_append, List.filter_cons_of_pos hb]
          rfl
      | false =>
        refine iteF ⟨sm, ?_⟩
        rw [eL, List.range_succ, List.filter_append, List.filter_cons_of_neg (by rw [hb]; decide)]
        simp
    · obtain ⟨sm, eL⟩ := hp
      exact q H5 L (s4.trans sm) (Same.non s4 nL) eL
end
end FS

set_option Elab.async false
set_option linter.all false
set_option maxRecDepth 100000
set_option maxHeartbeats 4000000
namespace FS
open PySem PySem.Spec PyProof.Rows L2
section
variable {P : Program} {w : World} {K : PySem.W.Frag} {mg : Str → Option Value} {base : Heap}
abbrev N_law_of_others : List Str := ["_law_error", "_law_found"]
theorem sc_law_of_others : FnScope N_law_of_others ["_law_error"] (defScope s_law_of_others) := ⟨rfl, rfl, rfl, by decide +kernel, rfl, by decide +kernel, by decide +kernel⟩
theorem ok_l_of_others {f : Addr} {fd : FuncData} (F : Fun K "_law_of_others" "_law_of_others" s_law_of_others f fd) (T : Nm K mg) {cs : Nat → Addr} (G : Globs mg cs) (KD : Kinds K cs) : FnOk P w K mg base CX0 1 f fd ["_law_error"] (spOthers cs) := by
  have nd := sc_law_of_others.nd
  refine F.ok sc_law_of_others (fun vs H Q E h => ?_) (fun cdv A outer s H vs Q E hr h => ?_)
  · obtain ⟨v, i, rfl, hi, hv, q⟩ := h
    rfl
  · obtain ⟨v, i, rfl, hi, hv, q⟩ := h
    skip
    refine ⟨_, (pss_cons (ps_set (i := 1) nd rfl (Or.inl rfl) (pe_op op_cat (pe_op op_rep (pe_lst (pa_cons pe_str pa_nil)) (pe_callTy call_int1 (by rfl) T.b_int (by decide +kernel) (pa_cons (pe_callB call_isiE (by rfl) T.b_isinstance (by decide +kernel) (pa_cons (pv 0) (pa_cons (pe_glob (v := .ref (cs 6)) (by rfl) G.g6 rfl) pa_nil))) pa_nil))) (pe_op op_rep (pe_lst (pa_cons pe_str pa_nil)) (pe_callTy call_int1 (by rfl) T.b_int (by decide +kernel) (pa_cons (pe_callB call_isiE (by rfl) T.b_isinstance (by decide +kernel) (pa_cons (pv 0) (pa_cons (pe_glob (v := .ref (cs 7)) (by rfl) G.g7 rfl) pa_nil))) pa_nil)))))
  (pss_cons (ps_set (i := 1) nd rfl (Or.inl rfl) (pe_op op_cat (pv 1) (pe_op op_rep (pe_lst (pa_cons pe_str pa_nil)) (pe_callTy call_int1 (by rfl) T.b_int (by decide +kernel) (pa_cons (pe_callB call_isiE (by rfl) T.b_isinstance (by decide +kernel) (pa_cons (pv 0) (pa_cons (pe_glob (v := .ref (cs 8)) (by rfl) G.g8 rfl) pa_nil))) pa_nil)))))
  (pss_cons (ps_set (i := 1) nd rfl (Or.inl rfl) (pe_op op_cat (pe_op op_cat (pv 1) (pe_op op_rep (pe_lst (pa_cons pe_str pa_nil)) (pe_callTy call_int1 (by rfl) T.b_int (by decide +kernel) (pa_cons (pe_callB call_isiE (by rfl) T.b_isinstance (by decide +kernel) (pa_cons (pv 0) (pa_cons (pe_glob (v := .ref (cs 9)) (by rfl) G.g9 rfl) pa_nil))) pa_nil)))) (pe_op op_rep (pe_lst (pa_cons pe_str pa_nil)) (pe_callTy call_int1 (by rfl) T.b_int (by decide +kernel) (pa_cons (pe_callB call_isiE (by rfl) T.b_isinstance (by decide +kernel) (pa_cons (pv 0) (pa_cons (pe_glob (v := .ref (cs 10)) (by rfl) G.g10 rfl) pa_nil))) pa_nil)))))
  (pss_cons (ps_set (i := 1) nd rfl (Or.inl rfl) (pe_op op_cat (pe_op op_cat (pv 1) (pe_op op_rep (pe_lst (pa_cons pe_str pa_nil)) (pe_callTy call_int1 (by rfl) T.b_int (by decide +kernel) (pa_cons (pe_callB call_isiE (by rfl) T.b_isinstance (by decide +kernel) (pa_cons (pv 0) (pa_cons (pe_bltn (v := .ty "ValueError") (by rfl) G.b_ValueError (by decide +kernel) rfl) pa_nil))) pa_nil)))) (pe_op op_rep (pe_lst (pa_cons pe_str pa_nil)) (pe_callTy call_int1 (by rfl) T.b_int (by decide +kernel) (pa_cons (pe_callB call_isiE (by rfl) T.b_isinstance (by decide +kernel) (pa_cons (pv 0) (pa_cons (pe_bltn (v := .ty "KeyError") (by rfl) G.b_KeyError (by decide +kernel) rfl) pa_nil))) pa_nil)))))
  (pss_cons (ps_set (i := 1) nd rfl (Or.inl rfl) (pe_op op_cat (pv 1) (pe_op op_rep (pe_lst (pa_cons pe_str pa_nil)) (pe_callTy call_int1 (by rfl) T.b_int (by decide +kernel) (pa_cons (pe_callB call_isiE (by rfl) T.b_isinstance (by decide +kernel) (pa_cons (pv 0) (pa_cons (pe_bltn (v := .ty "IndexError") (by rfl) G.b_IndexError (by decide +kernel) rfl) pa_nil))) pa_nil)))))
  (pss_cons (ps_set (i := 1) nd rfl (Or.inl rfl) (pe_op op_cat (pv 1) (pe_op op_rep (pe_lst (pa_cons pe_str pa_nil)) (pe_callTy call_int1 (by rfl) T.b_int (by decide +kernel) (pa_cons (pe_callB call_isiE (by rfl) T.b_isinstance (by decide +kernel) (pa_cons (pv 0) (pa_cons (pe_bltn (v := .ty "LookupError") (by rfl) G.b_LookupError (by decide +kernel) rfl) pa_nil))) pa_nil)))))
  (pss_cons (ps_set (i := 1) nd rfl (Or.inl rfl) (pe_op op_cat (pv 1) (pe_op op_rep (pe_lst (pa_cons pe_str pa_nil)) (pe_callTy call_int1 (by rfl) T.b_int (by decide +kernel) (pa_cons (pe_callB call_isiE (by rfl) T.b_isinstance (by decide +kernel) (pa_cons (pv 0) (pa_cons (pe_bltn (v := .ty "ArithmeticError") (by rfl) G.b_ArithmeticError (by decide +kernel) rfl) pa_nil))) pa_nil)))))
  (pss_one (ps_ret (pe_op op_cat (pv 1) (pe_op op_rep (pe_lst (pa_cons pe_str pa_nil)) (pe_callTy call_int1 (by rfl) T.b_int (by decide +kernel) (pa_cons (pe_callB call_isiE (by rfl) T.b_isinstance (by decide +kernel) (pa_cons (pv 0) (pa_cons (pe_bltn (v := .ty "OverflowError") (by rfl) G.b_OverflowError (by decide +kernel) rfl) pa_nil))) pa_nil))))))))))))), ?_⟩

    obtain ⟨a, fs, rfl, ea⟩ := hv
    refine ⟨by show 1 ≤ sizeLine; decide, fun p0 n0 => ?_⟩
    generalize hh : upd H p0 _ = P0
    have s0 : Same H P0 := by rw [← hh]; exact same_upd n0
    have e0 : P0 p0 = some (.lst [V.str "name"]) := by rw [← hh]; exact upd_same
    clear hh
    replace ea := ea.same s0
    refine ⟨_, rfl, a, cs i, fs, _, _, _, rfl, ea, KD.err i hi, .own _, KD.own i 6 hi (by decide), .inr ⟨_, rfl, ?_⟩⟩
    refine ⟨p0, _, _, rfl, rfl, e0, if_lo _, if_hi _, if_sz _ _, fun r0 m0 => ?_⟩
    generalize hh : upd P0 r0 _ = R0
    have t0 : Same P0 R0 := by rw [← hh]; exact same_upd m0
    have f0 : R0 r0 = some (.lst ((onlyIf (subB i 6) "name").map V.str)) := by rw [← hh, rep_if]; exact upd_same
    clear hh e0
    replace ea := ea.same t0
    have sH := s0.trans t0
    clear s0 t0
    refine ⟨by show 1 ≤ sizeLine; decide, fun p1 n1 => ?_⟩
    generalize hh : upd R0 p1 _ = P1
    have s1 : Same R0 P1 := by rw [← hh]; exact same_upd n1
    have e1 : P1 p1 = some (.lst [V.str "number"]) := by rw [← hh]; exact upd_same
    clear hh
    replace ea := ea.same s1
    replace f0 := s1 _ _ f0
    refine ⟨_, rfl, a, cs i, fs, _, _, _, rfl, ea, KD.err i hi, .own _, KD.own i 7 hi (by decide), .inr ⟨_, rfl, ?_⟩⟩
    refine ⟨p1, _, _, rfl, rfl, e1, if_lo _, if_hi _, if_sz _ _, fun r1 m1 => ?_⟩
    generalize hh : upd P1 r1 _ = R1
    have t1 : Same P1 R1 := by rw [← hh]; exact same_upd m1
    have f1 : R1 r1 = some (.lst ((onlyIf (subB i 7) "number").map V.str)) := by rw [← hh, rep_if]; exact upd_same
    clear hh e1
    replace ea := ea.same t1
    replace f0 := t1 _ _ f0
    replace sH := sH.trans (s1.trans t1)
    clear s1 t1
    have lz1 : (onlyIf (subB i 6) "name" ++ onlyIf (subB i 7) "number").length ≤ 2 := by rw [List.length_append]; have := (only_len (subB i 6) "name"); have := only_len (subB i 7) "number"; omega
    refine ⟨r0, r1, _, _, rfl, rfl, f0, f1, cat_sz lz1, fun c1 k1 => ?_⟩
    generalize hh : upd R1 c1 _ = C1
    have u1 : Same R1 C1 := by rw [← hh]; exact same_upd k1
    have g1 : C1 c1 = some (.lst ((onlyIf (subB i 6) "name" ++ onlyIf (subB i 7) "number").map V.str)) := by rw [← hh]; exact upd_same.trans (congrArg (fun z => some (HO.lst z)) List.map_append.symm)
    clear hh
    replace ea := ea.same u1
    have free1 := Same.non sH k1
    replace sH := sH.trans u1
    clear u1 f0
    refine ⟨_, rfl, ?_⟩
    refine ⟨by show 1 ≤ sizeLine; decide, fun p2 n2 => ?_⟩
    generalize hh : upd C1 p2 _ = P2
    have s2 : Same C1 P2 := by rw [← hh]; exact same_upd n2
    have e2 : P2 p2 = some (.lst [V.str "undo"]) := by rw [← hh]; exact upd_same
    clear hh
    replace ea := ea.same s2
    replace g1 := s2 _ _ g1
    refine ⟨_, rfl, a, cs i, fs, _, _, _, rfl, ea, KD.err i hi, .own _, KD.own i 8 hi (by decide), .inr ⟨_, rfl, ?_⟩⟩
    refine ⟨p2, _, _, rfl, rfl, e2, if_lo _, if_hi _, if_sz _ _, fun r2 m2 => ?_⟩
    generalize hh : upd P2 r2 _ = R2
    have t2 : Same P2 R2 := by rw [← hh]; exact same_upd m2
    have f2 : R2 r2 = some (.lst ((onlyIf (subB i 8) "undo").map V.str)) := by rw [← hh, rep_if]; exact upd_same
    clear hh e2
    replace ea := ea.same t2
    replace g1 := t2 _ _ g1
    replace sH := sH.trans (s2.trans t2)
    clear s2 t2
    have lz2 : ((onlyIf (subB i 6) "name" ++ onlyIf (subB i 7) "number") ++ onlyIf (subB i 8) "undo").length ≤ 3 := by rw [List.length_append]; have := lz1; have := only_len (subB i 8) "undo"; omega
    refine ⟨c1, r2, _, _, rfl, rfl, g1, f2, cat_sz lz2, fun c2 k2 => ?_⟩
    generalize hh : upd R2 c2 _ = C2
    have u2 : Same R2 C2 := by rw [← hh]; exact same_upd k2
    have g2 : C2 c2 = some (.lst (((onlyIf (subB i 6) "name" ++ onlyIf (subB i 7) "number") ++ onlyIf (subB i 8) "undo").map V.str)) := by rw [← hh]; exact upd_same.trans (congrArg (fun z => some (HO.lst z)) List.map_append.symm)
    clear hh
    replace ea := ea.same u2
    have free2 := Same.non sH k2
    replace sH := sH.trans u2
    clear u2 g1
    refine ⟨_, rfl, ?_⟩
    refine ⟨by show 1 ≤ sizeLine; decide, fun p3 n3 => ?_⟩
    generalize hh : upd C2 p3 _ = P3
    have s3 : Same C2 P3 := by rw [← hh]; exact same_upd n3
    have e3 : P3 p3 = some (.lst [V.str "refused"]) := by rw [← hh]; exact upd_same
    clear hh
    replace ea := ea.same s3
    replace g2 := s3 _ _ g2
    refine ⟨_, rfl, a, cs i, fs, _, _, _, rfl, ea, KD.err i hi, .own _, KD.own i 9 hi (by decide), .inr ⟨_, rfl, ?_⟩⟩
    refine ⟨p3, _, _, rfl, rfl, e3, if_lo _, if_hi _, if_sz _ _, fun r3 m3 => ?_⟩
    generalize hh : upd P3 r3 _ = R3
    have t3 : Same P3 R3 := by rw [← hh]; exact same_upd m3
    have f3 : R3 r3 = some (.lst ((onlyIf (subB i 9) "refused").map V.str)) := by rw [← hh, rep_if]; exact upd_same
    clear hh e3
    replace ea := ea.same t3
    replace g2 := t3 _ _ g2
    replace sH := sH.trans (s3.trans t3)
    clear s3 t3
    have lz3 : (((onlyIf (subB i 6) "name" ++ onlyIf (subB i 7) "number") ++ onlyIf (subB i 8) "undo") ++ onlyIf (subB i 9) "refused").length ≤ 4 := by rw [List.length_append]; have := lz2; have := only_len (subB i 9) "refused"; omega
    refine ⟨c2, r3, _, _, rfl, rfl, g2, f3, cat_sz lz3, fun c3 k3 => ?_⟩
    generalize hh : upd R3 c3 _ = C3
    have u3 : Same R3 C3 := by rw [← hh]; exact same_upd k3
    have g3 : C3 c3 = some (.lst ((((onlyIf (subB i 6) "name" ++ onlyIf (subB i 7) "number") ++ onlyIf (subB i 8) "undo") ++ onlyIf (subB i 9) "refused").map V.str)) := by rw [← hh]; exact upd_same.trans (congrArg (fun z => some (HO.lst z)) List.map_append.symm)
    clear hh
    replace ea := ea.same u3
    have free3 := Same.non sH k3
    replace sH := sH.trans u3
    clear u3 g2
    refine ⟨by show 1 ≤ sizeLine; decide, fun p4 n4 => ?_⟩
    generalize hh : upd C3 p4 _ = P4
    have s4 : Same C3 P4 := by rw [← hh]; exact same_upd n4
    have e4 : P4 p4 = some (.lst [V.str "over"]) := by rw [← hh]; exact upd_same
    clear hh
    replace ea := ea.same s4
    replace g3 := s4 _ _ g3
    refine ⟨_, rfl, a, cs i, fs, _, _, _, rfl, ea, KD.err i hi, .own _, KD.own i 10 hi (by decide), .inr ⟨_, rfl, ?_⟩⟩
    refine ⟨p4, _, _, rfl, rfl, e4, if_lo _, if_hi _, if_sz _ _, fun r4 m4 => ?_⟩
    generalize hh : upd P4 r4 _ = R4
    have t4 : Same P4 R4 := by rw [← hh]; exact same_upd m4
    have f4 : R4 r4 = some (.lst ((onlyIf (subB i 10) "over").map V.str)) := by rw [← hh, rep_if]; exact upd_same
    clear hh e4
    replace ea := ea.same t4
    replace g3 := t4 _ _ g3
    replace sH := sH.trans (s4.trans t4)
    clear s4 t4
    have lz4 : ((((onlyIf (subB i 6) "name" ++ onlyIf (subB i 7) "number") ++ onlyIf (subB i 8) "undo") ++ onlyIf (subB i 9) "refused") ++ onlyIf (subB i 10) "over").length ≤ 5 := by rw [List.length_append]; have := lz3; have := only_len (subB i 10) "over"; omega
    refine ⟨c3, r4, _, _, rfl, rfl, g3, f4, cat_sz lz4, fun c4 k4 => ?_⟩
    generalize hh : upd R4 c4 _ = C4
    have u4 : Same R4 C4 := by rw [← hh]; exact same_upd k4
    have g4 : C4 c4 = some (.lst (((((onlyIf (subB i 6) "name" ++ onlyIf (subB i 7) "number") ++ onlyIf (subB i 8) "undo") ++ onlyIf (subB i 9) "refused") ++ onlyIf (subB i 10) "over").map V.str)) := by rw [← hh]; exact upd_same.trans (congrArg (fun z => some (HO.lst z)) List.map_append.symm)
    clear hh
    replace ea := ea.same u4
    have free4 := Same.non sH k4
    replace sH := sH.trans u4
    clear u4 g3
    refine ⟨_, rfl, ?_⟩
    refine ⟨by show 1 ≤ sizeLine; decide, fun p5 n5 => ?_⟩
    generalize hh : upd C4 p5 _ = P5
    have s5 : Same C4 P5 := by rw [← hh]; exact same_upd n5
    have e5 : P5 p5 = some (.lst [V.str "value"]) := by rw [← hh]; exact upd_same
    clear hh
    replace ea := ea.same s5
    replace g4 := s5 _ _ g4
    refine ⟨_, rfl, a, cs i, fs, _, _, _, rfl, ea, KD.err i hi, .ty _, KD.blt i "ValueError" hi (by decide), .inr ⟨_, rfl, ?_⟩⟩
    refine ⟨p5, _, _, rfl, rfl, e5, if_lo _, if_hi _, if_sz _ _, fun r5 m5 => ?_⟩
    generalize hh : upd P5 r5 _ = R5
    have t5 : Same P5 R5 := by rw [← hh]; exact same_upd m5
    have f5 : R5 r5 = some (.lst ((onlyIf (bltB i "ValueError") "value").map V.str)) := by rw [← hh, rep_if]; exact upd_same
    clear hh e5
    replace ea := ea.same t5
    replace g4 := t5 _ _ g4
    replace sH := sH.trans (s5.trans t5)
    clear s5 t5
    have lz5 : (((((onlyIf (subB i 6) "name" ++ onlyIf (subB i 7) "number") ++ onlyIf (subB i 8) "undo") ++ onlyIf (subB i 9) "refused") ++ onlyIf (subB i 10) "over") ++ onlyIf (bltB i "ValueError") "value").length ≤ 6 := by rw [List.length_append]; have := lz4; have := only_len (bltB i "ValueError") "value"; omega
    refine ⟨c4, r5, _, _, rfl, rfl, g4, f5, cat_sz lz5, fun c5 k5 => ?_⟩
    generalize hh : upd R5 c5 _ = C5
    have u5 : Same R5 C5 := by rw [← hh]; exact same_upd k5
    have g5 : C5 c5 = some (.lst ((((((onlyIf (subB i 6) "name" ++ onlyIf (subB i 7) "number") ++ onlyIf (subB i 8) "undo") ++ onlyIf (subB i 9) "refused") ++ onlyIf (subB i 10) "over") ++ onlyIf (bltB i "ValueError") "value").map V.str)) := by rw [← hh]; exact upd_same.trans (congrArg (fun z => some (HO.lst z)) List.map_append.symm)
    clear hh
    replace ea := ea.same u5
    have free5 := Same.non sH k5
    replace sH := sH.trans u5
    clear u5 g4
    refine ⟨by show 1 ≤ sizeLine; decide, fun p6 n6 => ?_⟩
    generalize hh : upd C5 p6 _ = P6
    have s6 : Same C5 P6 := by rw [← hh]; exact same_upd n6
    have e6 : P6 p6 = some (.lst [V.str "key"]) := by rw [← hh]; exact upd_same
    clear hh
    replace ea := ea.same s6
    replace g5 := s6 _ _ g5
    refine ⟨_, rfl, a, cs i, fs, _, _, _, rfl, ea, KD.err i hi, .ty _, KD.blt i "KeyError" hi (by decide), .inr ⟨_, rfl, ?_⟩⟩
    refine ⟨p6, _, _, rfl, rfl, e6, if_lo _, if_hi _, if_sz _ _, fun r6 m6 => ?_⟩
    generalize hh : upd P6 r6 _ = R6
    have t6 : Same P6 R6 := by rw [← hh]; exact same_upd m6
    have f6 : R6 r6 = some (.lst ((onlyIf (bltB i "KeyError") "key").map V.str)) := by rw [← hh, rep_if]; exact upd_same
    clear hh e6
    replace ea := ea.same t6
    replace g5 := t6 _ _ g5
    replace sH := sH.trans (s6.trans t6)
    clear s6 t6
    have lz6 : ((((((onlyIf (subB i 6) "name" ++ onlyIf (subB i 7) "number") ++ onlyIf (subB i 8) "undo") ++ onlyIf (subB i 9) "refused") ++ onlyIf (subB i 10) "over") ++ onlyIf (bltB i "ValueError") "value") ++ onlyIf (bltB i "KeyError") "key").length ≤ 7 := by rw [List.length_append]; have := lz5; have := only_len (bltB i "KeyError") "key"; omega
    refine ⟨c5, r6, _, _, rfl, rfl, g5, f6, cat_sz lz6, fun c6 k6 => ?_⟩
    generalize hh : upd R6 c6 _ = C6
    have u6 : Same R6 C6 := by rw [← hh]; exact same_upd k6
    have g6 : C6 c6 = some (.lst (((((((onlyIf (subB i 6) "name" ++ onlyIf (subB i 7) "number") ++ onlyIf (subB i 8) "undo") ++ onlyIf (subB i 9) "refused") ++ onlyIf (subB i 10) "over") ++ onlyIf (bltB i "ValueError") "value") ++ onlyIf (bltB i "KeyError") "key").map V.str)) := by rw [← hh]; exact upd_same.trans (congrArg (fun z => some (HO.lst z)) List.map_append.symm)
    clear hh
    replace ea := ea.same u6
    have free6 := Same.non sH k6
    replace sH := sH.trans u6
    clear u6 g5
    refine ⟨_, rfl, ?_⟩
    refine ⟨by show 1 ≤ sizeLine; decide, fun p7 n7 => ?_⟩
    generalize hh : upd C6 p7 _ = P7
    have s7 : Same C6 P7 := by rw [← hh]; exact same_upd n7
    have e7 : P7 p7 = some (.lst [V.str "index"]) := by rw [← hh]; exact upd_same
    clear hh
    replace ea := ea.same s7
    replace g6 := s7 _ _ g6
    refine ⟨_, rfl, a, cs i, fs, _, _, _, rfl, ea, KD.err i hi, .ty _, KD.blt i "IndexError" hi (by decide), .inr ⟨_, rfl, ?_⟩⟩
    refine ⟨p7, _, _, rfl, rfl, e7, if_lo _, if_hi _, if_sz _ _, fun r7 m7 => ?_⟩
    generalize hh : upd P7 r7 _ = R7
    have t7 : Same P7 R7 := by rw [← hh]; exact same_upd m7
    have f7 : R7 r7 = some (.lst ((onlyIf (bltB i "IndexError") "index").map V.str)) := by rw [← hh, rep_if]; exact upd_same
    clear hh e7
    replace ea := ea.same t7
    replace g6 := t7 _ _ g6
    replace sH := sH.trans (s7.trans t7)
    clear s7 t7
    have lz7 : (((((((onlyIf (subB i 6) "name" ++ onlyIf (subB i 7) "number") ++ onlyIf (subB i 8) "undo") ++ onlyIf (subB i 9) "refused") ++ onlyIf (subB i 10) "over") ++ onlyIf (bltB i "ValueError") "value") ++ onlyIf (bltB i "KeyError") "key") ++ onlyIf (bltB i "IndexError") "index").length ≤ 8 := by rw [List.length_append]; have := lz6; have := only_len (bltB i "IndexError") "index"; omega
    refine ⟨c6, r7, _, _, rfl, rfl, g6, f7, cat_sz lz7, fun c7 k7 => ?_⟩
    generalize hh : upd R7 c7 _ = C7
    have u7 : Same R7 C7 := by rw [← hh]; exact same_upd k7
    have g7 : C7 c7 = some (.lst ((((((((onlyIf (subB i 6) "name" ++ onlyIf (subB i 7) "number") ++ onlyIf (subB i 8) "undo") ++ onlyIf (subB i 9) "refused") ++ onlyIf (subB i 10) "over") ++ onlyIf (bltB i "ValueError") "value") ++ onlyIf (bltB i "KeyError") "key") ++ onlyIf (bltB i "IndexError") "index").map V.str)) := by rw [← hh]; exact upd_same.trans (congrArg (fun z => some (HO.lst z)) List.map_append.symm)
    clear hh
    replace ea := ea.same u7
    have free7 := Same.non sH k7
    replace sH := sH.trans u7
    clear u7 g6
    refine ⟨_, rfl, ?_⟩
    refine ⟨by show 1 ≤ sizeLine; decide, fun p8 n8 => ?_⟩
    generalize hh : upd C7 p8 _ = P8
    have s8 : Same C7 P8 := by rw [← hh]; exact same_upd n8
    have e8 : P8 p8 = some (.lst [V.str "lookup"]) := by rw [← hh]; exact upd_same
    clear hh
    replace ea := ea.same s8
    replace g7 := s8 _ _ g7
    refine ⟨_, rfl, a, cs i, fs, _, _, _, rfl, ea, KD.err i hi, .ty _, KD.blt i "LookupError" hi (by decide), .inr ⟨_, rfl, ?_⟩⟩
    refine ⟨p8, _, _, rfl, rfl, e8, if_lo _, if_hi _, if_sz _ _, fun r8 m8 => ?_⟩
    generalize hh : upd P8 r8 _ = R8
    have t8 : Same P8 R8 := by rw [← hh]; exact same_upd m8
    have f8 : R8 r8 = some (.lst ((onlyIf (bltB i "LookupError") "lookup").map V.str)) := by rw [← hh, rep_if]; exact upd_same
    clear hh e8
    replace ea := ea.same t8
    replace g7 := t8 _ _ g7
    replace sH := sH.trans (s8.trans t8)
    clear s8 t8
    have lz8 : ((((((((onlyIf (subB i 6) "name" ++ onlyIf (subB i 7) "number") ++ onlyIf (subB i 8) "undo") ++ onlyIf (subB i 9) "refused") ++ onlyIf (subB i 10) "over") ++ onlyIf (bltB i "ValueError") "value") ++ onlyIf (bltB i "KeyError") "key") ++ onlyIf (bltB i "IndexError") "index") ++ onlyIf (bltB i "LookupError") "lookup").length ≤ 9 := by rw [List.length_append]; have := lz7; have := only_len (bltB i "LookupError") "lookup"; omega
    refine ⟨c7, r8, _, _, rfl, rfl, g7, f8, cat_sz lz8, fun c8 k8 => ?_⟩
    generalize hh : upd R8 c8 _ = C8
    have u8 : Same R8 C8 := by rw [← hh]; exact same_upd k8
    have g8 : C8 c8 = some (.lst (((((((((onlyIf (subB i 6) "name" ++ onlyIf (subB i 7) "number") ++ onlyIf (subB i 8) "undo") ++ onlyIf (subB i 9) "refused") ++ onlyIf (subB i 10) "over") ++ onlyIf (bltB i "ValueError") "value") ++ onlyIf (bltB i "KeyError") "key") ++ onlyIf (bltB i "IndexError") "index") ++ onlyIf (bltB i "LookupError") "lookup").map V.str)) := by rw [← hh]; exact upd_same.trans (congrArg (fun z => some (HO.lst z)) List.map_append.symm)
    clear hh
    replace ea := ea.same u8
    have free8 := Same.non sH k8
    replace sH := sH.trans u8
    clear u8 g7
    refine ⟨_, rfl, ?_⟩
    refine ⟨by show 1 ≤ sizeLine; decide, fun p9 n9 => ?_⟩
    generalize hh : upd C8 p9 _ = P9
    have s9 : Same C8 P9 := by rw [← hh]; exact same_upd n9
    have e9 : P9 p9 = some (.lst [V.str "arithmetic"]) := by rw [← hh]; exact upd_same
    clear hh
    replace ea := ea.same s9
    replace g8 := s9 _ _ g8
    refine ⟨_, rfl, a, cs i, fs, _, _, _, rfl, ea, KD.err i hi, .ty _, KD.blt i "ArithmeticError" hi (by decide), .inr ⟨_, rfl, ?_⟩⟩
    refine ⟨p9, _, _, rfl, rfl, e9, if_lo _, if_hi _, if_sz _ _, fun r9 m9 => ?_⟩
    generalize hh : upd P9 r9 _ = R9
    have t9 : Same P9 R9 := by rw [← hh]; exact same_upd m9
    have f9 : R9 r9 = some (.lst ((onlyIf (bltB i "ArithmeticError") "arithmetic").map V.str)) := by rw [← hh, rep_if]; exact upd_same
    clear hh e9
    replace ea := ea.same t9
    replace g8 := t9 _ _ g8
    replace sH := sH.trans (s9.trans t9)
    clear s9 t9
    have lz9 : (((((((((onlyIf (subB i 6) "name" ++ onlyIf (subB i 7) "number") ++ onlyIf (subB i 8) "undo") ++ onlyIf (subB i 9) "refused") ++ onlyIf (subB i 10) "over") ++ onlyIf (bltB i "ValueError") "value") ++ onlyIf (bltB i "KeyError") "key") ++ onlyIf (bltB i "IndexError") "index") ++ onlyIf (bltB i "LookupError") "lookup") ++ onlyIf (bltB i "ArithmeticError") "arithmetic").length ≤ 10 := by rw [List.length_append]; have := lz8; have := only_len (bltB i "ArithmeticError") "arithmetic"; omega
    refine ⟨c8, r9, _, _, rfl, rfl, g8, f9, cat_sz lz9, fun c9 k9 => ?_⟩
    generalize hh : upd R9 c9 _ = C9
    have u9 : Same R9 C9 := by rw [← hh]; exact same_upd k9
    have g9 : C9 c9 = some (.lst ((((((((((onlyIf (subB i 6) "name" ++ onlyIf (subB i 7) "number") ++ onlyIf (subB i 8) "undo") ++ onlyIf (subB i 9) "refused") ++ onlyIf (subB i 10) "over") ++ onlyIf (bltB i "ValueError") "value") ++ onlyIf (bltB i "KeyError") "key") ++ onlyIf (bltB i "IndexError") "index") ++ onlyIf (bltB i "LookupError") "lookup") ++ onlyIf (bltB i "ArithmeticError") "arithmetic").map V.str)) := by rw [← hh]; exact upd_same.trans (congrArg (fun z => some (HO.lst z)) List.map_append.symm)
    clear hh
    replace ea := ea.same u9
    have free9 := Same.non sH k9
    replace sH := sH.trans u9
    clear u9 g8
    refine ⟨_, rfl, ?_⟩
    refine ⟨by show 1 ≤ sizeLine; decide, fun p10 n10 => ?_⟩
    generalize hh : upd C9 p10 _ = P10
    have s10 : Same C9 P10 := by rw [← hh]; exact same_upd n10
    have e10 : P10 p10 = some (.lst [V.str "overflow"]) := by rw [← hh]; exact upd_same
    clear hh
    replace ea := ea.same s10
    replace g9 := s10 _ _ g9
    refine ⟨_, rfl, a, cs i, fs, _, _, _, rfl, ea, KD.err i hi, .ty _, KD.blt i "OverflowError" hi (by decide), .inr ⟨_, rfl, ?_⟩⟩
    refine ⟨p10, _, _, rfl, rfl, e10, if_lo _, if_hi _, if_sz _ _, fun r10 m10 => ?_⟩
    generalize hh : upd P10 r10 _ = R10
    have t10 : Same P10 R10 := by rw [← hh]; exact same_upd m10
    have f10 : R10 r10 = some (.lst ((onlyIf (bltB i "OverflowError") "overflow").map V.str)) := by rw [← hh, rep_if]; exact upd_same
    clear hh e10
    replace ea := ea.same t10
    replace g9 := t10 _ _ g9
    replace sH := sH.trans (s10.trans t10)
    clear s10 t10
    have lz10 : ((((((((((onlyIf (subB i 6) "name" ++ onlyIf (subB i 7) "number") ++ onlyIf (subB i 8) "undo") ++ onlyIf (subB i 9) "refused") ++ onlyIf (subB i 10) "over") ++ onlyIf (bltB i "ValueError") "value") ++ onlyIf (bltB i "KeyError") "key") ++ onlyIf (bltB i "IndexError") "index") ++ onlyIf (bltB i "LookupError") "lookup") ++ onlyIf (bltB i "ArithmeticError") "arithmetic") ++ onlyIf (bltB i "OverflowError") "overflow").length ≤ 11 := by rw [List.length_append]; have := lz9; have := only_len (bltB i "OverflowError") "overflow"; omega
    refine ⟨c9, r10, _, _, rfl, rfl, g9, f10, cat_sz lz10, fun c10 k10 => ?_⟩
    generalize hh : upd R10 c10 _ = C10
    have u10 : Same R10 C10 := by rw [← hh]; exact same_upd k10
    have g10 : C10 c10 = some (.lst (((((((((((onlyIf (subB i 6) "name" ++ onlyIf (subB i 7) "number") ++ onlyIf (subB i 8) "undo") ++ onlyIf (subB i 9) "refused") ++ onlyIf (subB i 10) "over") ++ onlyIf (bltB i "ValueError") "value") ++ onlyIf (bltB i "KeyError") "key") ++ onlyIf (bltB i "IndexError") "index") ++ onlyIf (bltB i "LookupError") "lookup") ++ onlyIf (bltB i "ArithmeticError") "arithmetic") ++ onlyIf (bltB i "OverflowError") "overflow").map V.str)) := by rw [← hh]; exact upd_same.trans (congrArg (fun z => some (HO.lst z)) List.map_append.symm)
    clear hh
    replace ea := ea.same u10
    have free10 := Same.non sH k10
    replace sH := sH.trans u10
    clear u10 g9
    exact q _ c10 sH free10 g10
end
end FS

set_option Elab.async false
set_option linter.all false
set_option maxRecDepth 100000
set_option maxHeartbeats 4000000
/-! lists of new lists -/
namespace FS
open PySem PySem.Spec PyProof.Rows L2
structure Lists (H : Hp) (ps : List Addr) (fl : Nat → List V) (n : Nat) : Prop where
  len : ps.length = n
  at_ : ∀ j p, ps[j]? = some p → H p = some (.lst (fl j))
theorem Lists.same {H H' : Hp} {ps : List Addr} {fl : Nat → List V} {n : Nat} (l : Lists H ps fl n) (s : Same H H') : Lists H' ps fl n := ⟨l.len, fun j p h => s _ _ (l.at_ j p h)⟩
theorem dpAll_of {K : PySem.W.Frag} {H : Hp} : ∀ {vs : List V} {ds : List PyData}, vs.length = ds.length → (∀ (j : Nat) (v : V) (d : PyData), vs[j]? = some v → ds[j]? = some d → Dp K H v d) → DpAll K H vs ds
  | [], [], _, _ => .nil
  | v :: vs, d :: ds, h, f => .cons (f 0 v d rfl rfl) (dpAll_of (Nat.succ.inj h) fun j v d h1 h2 => f (j + 1) v d h1 h2)
theorem Lists.dp {K : PySem.W.Frag} {H : Hp} {ps : List Addr} {fl : Nat → List V} {n : Nat} (l : Lists H ps fl n) (dl : Nat → List PyData) (h : ∀ j, j < n → DpAll K H (fl j) (dl j)) : DpAll K H (ps.map V.ref) ((List.range n).map fun j => .list (dl j)) := by
  refine dpAll_of (by rw [List.length_map, List.length_map, List.length_range, l.len]) fun j v d h1 h2 => ?_
  rw [List.getElem?_map] at h1 h2
  obtain ⟨p, hp, rfl⟩ := Option.map_eq_some_iff.mp h1
  obtain ⟨k, hk, rfl⟩ := Option.map_eq_some_iff.mp h2
  obtain ⟨hj, e⟩ := List.getElem?_eq_some_iff.mp hk
  rw [List.getElem_range] at e
  subst e
  rw [List.length_range] at hj
  exact .lst (.inl (.inl (l.at_ j p hp))) (h j hj)
theorem dp_ilist {K : PySem.W.Frag} {H : Hp} : ∀ l : List Nat, DpAll K H (ilist l) (l.map fun n : Nat => .int (n : Int))
  | [] => .nil
  | n :: l => .cons (.int _) (dp_ilist l)
section
variable {K : PySem.W.Frag} {a : Addr} {xs : List V} {g : TG} {te : TE} {vs : List Nat} {σ : L2.St} {H1 : Hp} {D : Addr} {Qd : Hp → Prop}
/-- the state between two turns -/
def MidL (H1 : Hp) (D : Addr) (fl : Nat → List V) (i : Nat) (H : Hp) : Prop := Same H1 H ∧ ∃ ps : List Addr, H D = some (.lst (ps.map V.ref)) ∧ Lists H ps fl i ∧ ∀ p ∈ ps, p ≠ D
theorem MidL.ini (n : H1 D = none) {fl : Nat → List V} : MidL H1 D fl 0 (upd H1 D (.lst [])) := ⟨same_upd n, [], upd_same, ⟨rfl, fun j p h => nomatch h⟩, fun p h => nomatch h⟩
theorem MidL.turn (n : H1 D = none) {fl : Nat → List V} {i : Nat} {H H4 : Hp} {p : Addr} (md : MidL H1 D fl i H) (sm : Same H H4) (np : H p = none) (at_ : H4 p = some (.lst (fl i))) :
    ∃ acc, H4 D = some (.lst acc) ∧ acc.length = i ∧ MidL H1 D fl (i + 1) (upd H4 D (.lst (acc ++ [.ref p]))) := by
  obtain ⟨s, ps, e, l, ne⟩ := md
  have pD : p ≠ D := fun z => by
    rw [z, e] at np
    cases np
  refine ⟨_, sm _ _ e, by rw [List.length_map, l.len], Same.set (s.trans sm) n, ps ++ [p], ?_, ⟨?_, fun j q h => ?_⟩, fun q h => ?_⟩
  · rw [upd_same, List.map_append]
    rfl
  · rw [List.length_append, l.len]
    rfl
  · rcases Nat.lt_or_ge j ps.length with lt | ge
    · rw [List.getElem?_append_left lt] at h
      rw [upd_ne (ne q (List.mem_of_getElem? h))]
      exact sm _ _ (l.at_ j q h)
    · rw [List.getElem?_append_right ge] at h
      have j0 : j - ps.length = 0 := by
        rcases Nat.eq_zero_or_pos (j - ps.length) with z | z
        · exact z
        · rw [List.getElem?_eq_none (show [p].length ≤ j - ps.length from z)] at h
          cases h
      rw [j0] at h
      cases h
      have ji : j = i := by rw [← l.len]; omega
      rw [upd_ne pD, ji]
      exact at_
  · rcases List.mem_append.mp h with h | h
    · exact ne q h
    · rw [List.mem_singleton.mp h]
      exact pD
/-- [f(x) for x in xs], each time a new list -/
theorem lcLists (fl : Nat → List V) (small : xs.length ≤ 1000) (n : H1 D = none) (sq : ∀ H, Same H1 H → SqL K H a xs)
    (turn : ∀ i x H (Ok : V → Hp → Prop), xs[i]? = some x → Same H1 H → (∀ p H', Same H H' → H p = none → H' p = some (.lst (fl i)) → Ok (.ref p) H') → g x (wipe σ vs) H fun σ2 H2 => wipe σ2 vs = wipe σ vs ∧ tYes σ2 H2 fun b H3 => if b = true then te σ2 H3 Ok else False)
    (done : ∀ H ps, Same H1 H → H D = some (.lst (ps.map V.ref)) → Lists H ps fl xs.length → Qd H) :
    ∃ W : Nat → Nat → Hp → Prop, (∃ m, W 0 m (upd H1 D (.lst []))) ∧ ∀ i m H, W i m H →
      ((Itl K a).stop i H ∧ Qd H) ∨ ((Itl K a).go i H ∧ ∃ Nx : Hp → Prop, (∀ H', Nx H' → ∃ m', m' < m ∧ W (i + 1) m' H') ∧ ∀ x H', (Itl K a).yld i H x H' → g x (wipe σ vs) H' fun σ2 H2 => wipe σ2 vs = wipe σ vs ∧ tYes σ2 H2 fun b H3 =>
        if b = true then te σ2 H3 fun y H4 => ∃ acc, H4 D = some (.lst acc) ∧ acc.length < sizeLine ∧ Nx (upd H4 D (.lst (acc ++ [y]))) else Nx H3) := by
  refine lc_list (xs := xs) (MidL H1 D fl) (MidL.ini n) (fun i H _ h => sq H h.1) (fun i x H hx md => ?_) fun H md => ?_
  · have lt : i < xs.length := (List.getElem?_eq_some_iff.mp hx).1
    have t := turn i x H (fun y H4 => ∃ acc, H4 D = some (.lst acc) ∧ acc.length < sizeLine ∧ MidL H1 D fl (i + 1) (upd H4 D (.lst (acc ++ [y])))) hx md.1 fun p H' sm np at_ => by
      obtain ⟨acc, e, len, m⟩ := md.turn n sm np at_
      exact ⟨acc, e, small1000 (by omega), m⟩
    exact t
  · obtain ⟨s, ps, e, l, _⟩ := md
    exact done H ps s e l
/-- .. over a range -/
theorem lcListsR {n : Nat} {lo : Int} (fl : Nat → List V) (small : n ≤ 1000) (nD : H1 D = none)
    (turn : ∀ i H (Ok : V → Hp → Prop), i < n → Same H1 H → (∀ p H', Same H H' → H p = none → H' p = some (.lst (fl i)) → Ok (.ref p) H') → g (.int (lo + (i : Int))) (wipe σ vs) H fun σ2 H2 => wipe σ2 vs = wipe σ vs ∧ tYes σ2 H2 fun b H3 => if b = true then te σ2 H3 Ok else False)
    (done : ∀ H ps, Same H1 H → H D = some (.lst (ps.map V.ref)) → Lists H ps fl n → Qd H) :
    ∃ W : Nat → Nat → Hp → Prop, (∃ m, W 0 m (upd H1 D (.lst []))) ∧ ∀ i m H, W i m H →
      ((Itr lo n).stop i H ∧ Qd H) ∨ ((Itr lo n).go i H ∧ ∃ Nx : Hp → Prop, (∀ H', Nx H' → ∃ m', m' < m ∧ W (i + 1) m' H') ∧ ∀ x H', (Itr lo n).yld i H x H' → g x (wipe σ vs) H' fun σ2 H2 => wipe σ2 vs = wipe σ vs ∧ tYes σ2 H2 fun b H3 =>
        if b = true then te σ2 H3 fun y H4 => ∃ acc, H4 D = some (.lst acc) ∧ acc.length < sizeLine ∧ Nx (upd H4 D (.lst (acc ++ [y]))) else Nx H3) := by
  refine lc_range (lo := lo) (n := n) (MidL H1 D fl) (MidL.ini nD) (fun i H hi md => ?_) fun H md => ?_
  · have t := turn i H (fun y H4 => ∃ acc, H4 D = some (.lst acc) ∧ acc.length < sizeLine ∧ MidL H1 D fl (i + 1) (upd H4 D (.lst (acc ++ [y])))) hi md.1 fun p H' sm np at_ => by
      obtain ⟨acc, e, len, m⟩ := md.turn nD sm np at_
      exact ⟨acc, e, small1000 (by omega), m⟩
    exact t
  · obtain ⟨s, ps, e, l, _⟩ := md
    exact done H ps s e l
end
end FS

set_option Elab.async false
set_option linter.all false
set_option maxRecDepth 100000
set_option maxHeartbeats 4000000
/-! the errors' own making -/
namespace FS
open PySem PySem.Spec PyProof.Rows L2
def spErr (C : Addr) (f : Str) : Sp := fun vs H Q _ => ∃ (a : Addr) (y : V), vs = [.ref a, y] ∧ H a = some (exo a C none) ∧ ∀ dx, H dx = none → dx ≠ a → Q .non (upd (upd H dx (exd dx [(f, y)])) a (exo a C (some dx)))
/-- a class of errors with an own making -/
structure ErrC (P : Program) (w : World) (K : PySem.W.Frag) (mg : Str → Option Value) (base : Heap) (x : Str) (C : Addr) (f : Str) : Prop where
  ex : ∃ (newId : String) (bmB : List Value) (fI : Addr) (fd : FuncData), OexW K C newId bmB ∧ PySem.W.findIn K (.ref C) "__init__" = some (some (.ref fI)) ∧ PySem.W.typeIn K (.ref fI) = some (.type "function") ∧
    FnOk P w K mg base CX0 1 fI fd ["self", f] (spErr C f) ∧ Binds K fd ["self", f] []
  gl : mg x = some (.ref C)
  no : PySem.W.findIn K (.ref C) f = some none
theorem pe_errC {X : Cx} {x f : Str} {C : Addr} {e : Expr} {ta : TE} {p pos : Pos} (G : ErrC X.prog X.w X.K X.mg X.base x C f) (hr : Room 2 X.A) (hg : Gl X x) (ha : PE X e ta) (hdb : (x == ("__debug__" : Str)) = false := by decide) (he : starEach [e] X.env = (false, eval e X.env) :: starEach [] X.env := by rfl)
    (hpl : (backTo pos (starEach [] X.env)).any (·.1) = false := by rfl) : PE X (.Call (.Name x p) [e] [] pos) (tErr C (spErr C f) (tCons ta tNil)) := by
  obtain ⟨newId, bmB, fI, fd, T, own, kind, F, b⟩ := G.ex
  exact pe_err T own kind F hr b hg G.gl (pa_cons ha pa_nil (hs := he)) hdb he hpl
theorem err_same {H : Hp} {a dx C : Addr} {l : List (Str × V)} (na : H a = none) (nd : upd H a (exo a C none) dx = none) (ne : dx ≠ a) : Same H (upd (upd (upd H a (exo a C none)) dx (exd dx l)) a (exo a C (some dx))) := fun b o e => by
  rw [upd_ne ne] at nd
  rw [upd_ne (ne_of_none e na), upd_ne (ne_of_none e nd), upd_ne (ne_of_none e na)]
  exact e
theorem err_at {H : Hp} {a dx C : Addr} {l : List (Str × V)} (ne : dx ≠ a) : ErrAt (upd (upd (upd H a (exo a C none)) dx (exd dx l)) a (exo a C (some dx))) a C (some l) := ⟨some dx, upd_same, by
  show upd _ a _ dx = _
  rw [upd_ne ne]
  exact upd_same⟩
section
variable {P : Program} {w : World} {K : PySem.W.Frag} {mg : Str → Option Value} {base : Heap}
abbrev NParseErrorI : List Str := ["self", "line"]
theorem scParseErrorI : FnScope NParseErrorI ["self", "line"] (defScope sParseError__init__) := ⟨rfl, rfl, rfl, by decide +kernel, rfl, by decide +kernel, by decide +kernel⟩
theorem ok_ParseErrorI {f : Addr} {fd : FuncData} (F : Fun K "__init__" "ParseError.__init__" sParseError__init__ f fd) {C : Addr} {newId : String} {bmB : List Value} (T : OexW K C newId bmB) (no : PySem.W.findIn K (.ref C) "line" = some none) : FnOk P w K mg base CX0 1 f fd ["self", "line"] (spErr C "line") := by
  refine F.ok scParseErrorI (fun vs H Q E h => ?_) (fun cdv A outer s H vs Q E hr h => ?_)
  · obtain ⟨a, y, rfl, _⟩ := h
    rfl
  · obtain ⟨a, y, rfl, ea, q⟩ := h
    refine ⟨_, pss_one (ps_fst (newId := newId) (bmB := bmB) (pv 0) (pv 1)), ?_⟩
    exact ⟨_, rfl, _, rfl, a, C, rfl, T, no, ea, fun dx n ne => q dx n ne⟩
abbrev NUnknownNameI : List Str := ["self", "name"]
theorem scUnknownNameI : FnScope NUnknownNameI ["self", "name"] (defScope sUnknownName__init__) := ⟨rfl, rfl, rfl, by decide +kernel, rfl, by decide +kernel, by decide +kernel⟩
theorem ok_UnknownNameI {f : Addr} {fd : FuncData} (F : Fun K "__init__" "UnknownName.__init__" sUnknownName__init__ f fd) {C : Addr} {newId : String} {bmB : List Value} (T : OexW K C newId bmB) (no : PySem.W.findIn K (.ref C) "name" = some none) : FnOk P w K mg base CX0 1 f fd ["self", "name"] (spErr C "name") := by
  refine F.ok scUnknownNameI (fun vs H Q E h => ?_) (fun cdv A outer s H vs Q E hr h => ?_)
  · obtain ⟨a, y, rfl, _⟩ := h
    rfl
  · obtain ⟨a, y, rfl, ea, q⟩ := h
    refine ⟨_, pss_one (ps_fst (newId := newId) (bmB := bmB) (pv 0) (pv 1)), ?_⟩
    exact ⟨_, rfl, _, rfl, a, C, rfl, T, no, ea, fun dx n ne => q dx n ne⟩
abbrev NInvalidNumberI : List Str := ["self", "value"]
theorem scInvalidNumberI : FnScope NInvalidNumberI ["self", "value"] (defScope sInvalidNumber__init__) := ⟨rfl, rfl, rfl, by decide +kernel, rfl, by decide +kernel, by decide +kernel⟩
theorem ok_InvalidNumberI {f : Addr} {fd : FuncData} (F : Fun K "__init__" "InvalidNumber.__init__" sInvalidNumber__init__ f fd) {C : Addr} {newId : String} {bmB : List Value} (T : OexW K C newId bmB) (no : PySem.W.findIn K (.ref C) "value" = some none) : FnOk P w K mg base CX0 1 f fd ["self", "value"] (spErr C "value") := by
  refine F.ok scInvalidNumberI (fun vs H Q E h => ?_) (fun cdv A outer s H vs Q E hr h => ?_)
  · obtain ⟨a, y, rfl, _⟩ := h
    rfl
  · obtain ⟨a, y, rfl, ea, q⟩ := h
    refine ⟨_, pss_one (ps_fst (newId := newId) (bmB := bmB) (pv 0) (pv 1)), ?_⟩
    exact ⟨_, rfl, _, rfl, a, C, rfl, T, no, ea, fun dx n ne => q dx n ne⟩
abbrev NNothingToUndoI : List Str := ["self", "many"]
theorem scNothingToUndoI : FnScope NNothingToUndoI ["self", "many"] (defScope sNothingToUndo__init__) := ⟨rfl, rfl, rfl, by decide +kernel, rfl, by decide +kernel, by decide +kernel⟩
theorem ok_NothingToUndoI {f : Addr} {fd : FuncData} (F : Fun K "__init__" "NothingToUndo.__init__" sNothingToUndo__init__ f fd) {C : Addr} {newId : String} {bmB : List Value} (T : OexW K C newId bmB) (no : PySem.W.findIn K (.ref C) "many" = some none) : FnOk P w K mg base CX0 1 f fd ["self", "many"] (spErr C "many") := by
  refine F.ok scNothingToUndoI (fun vs H Q E h => ?_) (fun cdv A outer s H vs Q E hr h => ?_)
  · obtain ⟨a, y, rfl, _⟩ := h
    rfl
  · obtain ⟨a, y, rfl, ea, q⟩ := h
    refine ⟨_, pss_one (ps_fst (newId := newId) (bmB := bmB) (pv 0) (pv 1)), ?_⟩
    exact ⟨_, rfl, _, rfl, a, C, rfl, T, no, ea, fun dx n ne => q dx n ne⟩
abbrev NRefusedI : List Str := ["self", "name"]
theorem scRefusedI : FnScope NRefusedI ["self", "name"] (defScope sRefused__init__) := ⟨rfl, rfl, rfl, by decide +kernel, rfl, by decide +kernel, by decide +kernel⟩
theorem ok_RefusedI {f : Addr} {fd : FuncData} (F : Fun K "__init__" "Refused.__init__" sRefused__init__ f fd) {C : Addr} {newId : String} {bmB : List Value} (T : OexW K C newId bmB) (no : PySem.W.findIn K (.ref C) "name" = some none) : FnOk P w K mg base CX0 1 f fd ["self", "name"] (spErr C "name") := by
  refine F.ok scRefusedI (fun vs H Q E h => ?_) (fun cdv A outer s H vs Q E hr h => ?_)
  · obtain ⟨a, y, rfl, _⟩ := h
    rfl
  · obtain ⟨a, y, rfl, ea, q⟩ := h
    refine ⟨_, pss_one (ps_fst (newId := newId) (bmB := bmB) (pv 0) (pv 1)), ?_⟩
    exact ⟨_, rfl, _, rfl, a, C, rfl, T, no, ea, fun dx n ne => q dx n ne⟩
abbrev NTooManyI : List Str := ["self", "limit"]
theorem scTooManyI : FnScope NTooManyI ["self", "limit"] (defScope sTooMany__init__) := ⟨rfl, rfl, rfl, by decide +kernel, rfl, by decide +kernel, by decide +kernel⟩
theorem ok_TooManyI {f : Addr} {fd : FuncData} (F : Fun K "__init__" "TooMany.__init__" sTooMany__init__ f fd) {C : Addr} {newId : String} {bmB : List Value} (T : OexW K C newId bmB) (no : PySem.W.findIn K (.ref C) "limit" = some none) : FnOk P w K mg base CX0 1 f fd ["self", "limit"] (spErr C "limit") := by
  refine F.ok scTooManyI (fun vs H Q E h => ?_) (fun cdv A outer s H vs Q E hr h => ?_)
  · obtain ⟨a, y, rfl, _⟩ := h
    rfl
  · obtain ⟨a, y, rfl, ea, q⟩ := h
    refine ⟨_, pss_one (ps_fst (newId := newId) (bmB := bmB) (pv 0) (pv 1)), ?_⟩
    exact ⟨_, rfl, _, rfl, a, C, rfl, T, no, ea, fun dx n ne => q dx n ne⟩
end
end FS

set_option Elab.async false
set_option linter.all false
set_option maxRecDepth 100000
set_option maxHeartbeats 4000000
namespace FS
open PySem PySem.Spec PyProof.Rows L2
structure Plain (K : PySem.W.Frag) (cs : Nat → Addr) : Prop where
  p0 : PySem.W.excIn K (cs 0) [.type "ValueError", .type "Exception", .type "BaseException", .type "object"] "ValueError.__new__" = true
  p1 : PySem.W.excIn K (cs 1) [.type "ValueError", .type "Exception", .type "BaseException", .type "object"] "ValueError.__new__" = true
  p2 : PySem.W.excIn K (cs 2) [.type "ValueError", .type "Exception", .type "BaseException", .type "object"] "ValueError.__new__" = true
  p3 : PySem.W.excIn K (cs 3) [.type "ValueError", .type "Exception", .type "BaseException", .type "object"] "ValueError.__new__" = true
  p4 : PySem.W.excIn K (cs 4) [.type "ValueError", .type "Exception", .type "BaseException", .type "object"] "ValueError.__new__" = true
  k0 : PySem.W.keepIn K (.ref (cs 0)) = true
  k1 : PySem.W.keepIn K (.ref (cs 1)) = true
  k2 : PySem.W.keepIn K (.ref (cs 2)) = true
  k3 : PySem.W.keepIn K (.ref (cs 3)) = true
  k4 : PySem.W.keepIn K (.ref (cs 4)) = true
theorem seq_gen {a r : TS} {D : Ends} {σ : L2.St} {H : Hp} {P : L2.St → Hp → Prop} (h : ∀ N : L2.St → Hp → Prop, (∀ σ' H', P σ' H' → N σ' H') → a { D with nx := N } σ H) (k : ∀ σ' H', P σ' H' → r D σ' H') : tSeq a r D σ H := h _ fun σ' H' p => k σ' H' p
theorem iteN {b : Bool} (h : b = true) {p q : Prop} (hq : q) : if (!b) = true then p else q := by
  rw [h]
  exact hq
def spRight0 : Sp := fun vs H Q _ => ∃ (D : Addr), vs = [.ref D] ∧ Die H D ∧ ∀ H', Go D H H' → Q (.bl true) H'
/-- the four objects among what is drawn -/
structure Four (H : Hp) (t l d e : Addr) : Prop where
  t : H t = some (.tup [V.str "p", V.int 3])
  l : H l = some (.lst [V.int 1])
  d : H d = some (.dK [])
  e : H e = some (.tup [])
theorem Four.same {H H' : Hp} {t l d e : Addr} (f : Four H t l d e) (s : Same H H') : Four H' t l d e := ⟨s _ _ f.t, s _ _ f.l, s _ _ f.d, s _ _ f.e⟩
def drawnE (t l d e : Addr) : List V := [.int 0, .int 7, .str "p", .str "", .ref t, .non, .int (-1), .int (10 ^ 39), .ref l, .ref d, .bl true, .ref e, .str "a b"]
def fitD (d : PyData) : Bool := d.showable && (decide (d.shown.length ≤ 60) && decide (d.depth ≤ 2))
theorem drawn_fit {K : PySem.W.Frag} {H : Hp} {t l d e : Addr} (f : Four H t l d e) : ∀ v ∈ drawnE t l d e, ∃ x, Dq K H v x ∧ fitD x = true := by
  intro v hv
  unfold drawnE at hv
  simp only [List.mem_cons, List.not_mem_nil, or_false] at hv
  rcases hv with rfl | rfl | rfl | rfl | rfl | rfl | rfl | rfl | rfl | rfl | rfl | rfl | rfl
  · exact ⟨_, .int 0, by decide +kernel⟩
  · exact ⟨_, .int 7, by decide +kernel⟩
  · exact ⟨_, .str _, by decide +kernel⟩
  · exact ⟨_, .str _, by decide +kernel⟩
  · exact ⟨_, .tup (.inl (.inl f.t)) (.cons (.str _) (.cons (.int _) .nil)), by decide +kernel⟩
  · exact ⟨_, .non, by decide +kernel⟩
  · exact ⟨_, .int _, by decide +kernel⟩
  · exact ⟨_, .int _, by decide +kernel⟩
  · exact ⟨_, .lst f.l (.cons (.int _) .nil), by decide +kernel⟩
  · exact ⟨_, .dct f.d, by decide +kernel⟩
  · exact ⟨_, .bl true, by decide +kernel⟩
  · exact ⟨_, .tup (.inl (.inl f.e)) .nil, by decide +kernel⟩
  · exact ⟨_, .str _, by decide +kernel⟩
theorem text_le : ∀ (ts : List Str) (k : Nat) (acc : Str), (∀ t ∈ ts, t.length ≤ 60) → (textFrom k acc ts).length ≤ acc.length + 62 * ts.length
  | [], k, acc, _ => Nat.le_refl _
  | t :: r, k, acc, h => by
    have h1 := text_le r (k + 1) (acc ++ (if k > 0 then ", " else "" : String) ++ t) fun x hx => h x (List.mem_cons_of_mem _ hx)
    have h2 := h t List.mem_cons_self
    have h3 : ((if k > 0 then ", " else "" : String) : Str).length ≤ 2 := by
      by_cases g : k > 0
      · rw [if_pos g]
        decide
      · rw [if_neg g]
        decide
    show (textFrom (k + 1) (acc ++ (if k > 0 then ", " else "" : String) ++ t) r).length ≤ _
    rw [strLen_append, strLen_append] at h1
    rw [List.length_cons]
    omega
theorem fit_list : ∀ {ds : List PyData}, (∀ d ∈ ds, fitD d = true) → PyData.showableAll ds = true ∧ (∀ t ∈ PyData.shownAll ds, t.length ≤ 60) ∧ PyData.depthAll ds ≤ 2 ∧ (PyData.shownAll ds).length = ds.length
  | [], _ => ⟨by simp [PyData.showableAll], (fun t h => by simp [PyData.shownAll] at h), by simp [PyData.depthAll], by simp [PyData.shownAll]⟩
  | d :: r, h => by
    obtain ⟨h1, h2, h3, h4⟩ := fit_list (ds := r) fun x hx => h x (List.mem_cons_of_mem _ hx)
    obtain ⟨g1, g⟩ := Bool.and_eq_true_iff.mp (h d List.mem_cons_self)
    obtain ⟨g2, g3⟩ := Bool.and_eq_true_iff.mp g
    have g2 := of_decide_eq_true g2
    have g3 := of_decide_eq_true g3
    refine ⟨by simp [PyData.showableAll, g1, h1], fun t ht => ?_, ?_, by simp [PyData.shownAll, h4]⟩
    · simp only [PyData.shownAll, List.mem_cons] at ht
      rcases ht with rfl | ht
      · exact g2
      · exact h2 t ht
    · simp only [PyData.depthAll]
      omega
theorem fit_big {ds : List PyData} (h : ∀ d ∈ ds, fitD d = true) (few : ds.length ≤ 100) : (PyData.list ds).showable = true ∧ (PyData.list ds).shown.length ≤ sizeLine ∧ (PyData.list ds).depth ≤ 60 := by
  obtain ⟨h1, h2, h3, h4⟩ := fit_list h
  refine ⟨by simpa only [PyData.showable] using h1, ?_, ?_⟩
  · simp only [PyData.shown]
    show (textFrom 0 "[" (PyData.shownAll ds) ++ "]").length ≤ _
    have := text_le (PyData.shownAll ds) 0 "[" h2
    rw [strLen_append]
    have e1 : ("[" : Str).length = 1 := by decide
    have e2 : ("]" : Str).length = 1 := by decide
    rw [sizeLine_eq]
    omega
  · simp only [PyData.depth]
    omega
theorem fit_all {K : PySem.W.Frag} {H : Hp} : ∀ {zs : List V}, (∀ z ∈ zs, ∃ x, Dq K H z x ∧ fitD x = true) → ∃ ds, DqAll K H zs ds ∧ (∀ d ∈ ds, fitD d = true) ∧ ds.length = zs.length
  | [], _ => ⟨[], .nil, (fun _ h => nomatch h), rfl⟩
  | z :: r, h => by
    obtain ⟨ds, a, b, c⟩ := fit_all (zs := r) fun x hx => h x (List.mem_cons_of_mem _ hx)
    obtain ⟨x, dx, fx⟩ := h z List.mem_cons_self
    refine ⟨x :: ds, .cons dx a, fun d hd => ?_, by rw [List.length_cons, List.length_cons, c]⟩
    rcases List.mem_cons.mp hd with rfl | hd
    · exact fx
    · exact b d hd
def spLaw0 (K : PySem.W.Frag) : Sp := fun vs H Q _ => ∃ (a : Addr) (ns : List Int), vs = [.ref a] ∧ SqL K H a (ns.map V.int) ∧ ns.length ≤ 63 ∧ ∀ H', Q (.bl true) H'
end FS

set_option Elab.async false
set_option linter.all false
set_option maxRecDepth 100000
set_option maxHeartbeats 4000000
namespace FS
open PySem PySem.Spec PyProof.Rows L2
section
variable {P : Program} {w : World} {K : PySem.W.Frag} {mg : Str → Option Value} {base : Heap}
abbrev N_law_right : List Str := ["_law_die", "_law_some", "_law_items", "_law_word", "_law_plain", "_law_parse", "_law_unknown", "_law_wrong", "_law_undo", "_law_refused", "_law_over", "_law_told", "_law_keeping", "_law_due", "_law_turn", "_law_error", "_law_at"]
theorem sc_law_right : FnScope N_law_right ["_law_die"] (defScope s_law_right) := ⟨rfl, rfl, rfl, by decide +kernel, rfl, by decide +kernel, by decide +kernel⟩
theorem ok_l_right {f : Addr} {fd : FuncData} (F : Fun K "_law_right" "_law_right" s_law_right f fd) (T : Nm K mg) (b_repr : mg "repr" = none) (hs : ∃ mm, base.Ns sysModules mm) {cs : Nat → Addr} (G : Globs mg cs) (KD : Kinds K cs) (B : Plain K cs) (ErParseError : ErrC P w K mg base "ParseError" (cs 5) "line") (ErUnknownName : ErrC P w K mg base "UnknownName" (cs 6) "name") (ErInvalidNumber : ErrC P w K mg base "InvalidNumber" (cs 7) "value") (ErNothingToUndo : ErrC P w K mg base "NothingToUndo" (cs 8) "many") (ErRefused : ErrC P w K mg base "Refused" (cs 9) "name") (ErTooMany : ErrC P w K mg base "TooMany" (cs 10) "limit") (Cl_pick : Cal P w K mg base 2 "_law_pick" ["_law_die", "_law_items"] (spPick K)) (Cl_of_hands : Cal P w K mg base 1 "_law_of_hands" ["_law_error"] (spHands cs)) (Cl_of_others : Cal P w K mg base 1 "_law_of_others" ["_law_error"] (spOthers cs)) : FnG P w K mg base CX0 4 f fd ["_law_die"] (spRight0) := by
  have nd := sc_law_right.nd
  refine F.okG sc_law_right (fun vs H Q E h => ?_) (fun cdv A outer s H vs Q E gd hr h => ?_)
  · obtain ⟨D, rfl, d, q⟩ := h
    rfl
  · obtain ⟨D, rfl, d, q⟩ := h
    skip
    refine ⟨_, (pss_cons (ps_set (i := 1) nd rfl (Or.inr rfl) (pe_lst (pa_cons pe_int (pa_cons pe_int (pa_cons pe_str (pa_cons pe_str (pa_cons (pe_tup (pa_cons pe_str (pa_cons pe_int pa_nil))) (pa_cons pe_non (pa_cons (pe_un un_neg pe_int) (pa_cons (pe_op op_pow pe_int pe_int) (pa_cons (pe_lst (pa_cons pe_int pa_nil)) (pa_cons pe_dnewK (pa_cons pe_bl (pa_cons (pe_tup pa_nil) (pa_cons pe_str pa_nil)))))))))))))))
  (pss_cons (ps_setLc (i := 2) (own := [("_law_turn", 14)]) (g := gName 14) (tt := tYes) rfl nd rfl rfl (sw_true rfl rfl rfl (by decide +kernel)) (pi_range1 rfl T.b_range (pa_cons pe_int pa_nil)) (blkOk_by (own := [("_law_turn", 14)]) (N := N_law_right) (sc := defScope s_law_right) (by decide +kernel)) (fun _ _ _ _ _ => (pg_name (i := 14) nd rfl (Or.inl rfl))) (fun _ _ _ _ _ => pts_nil) (fun _ _ _ _ _ => (pe_own Cl_pick (hr.mono (by decide)) (by rfl) (pa_cons (pv 0) (pa_cons (pv 1) pa_nil)))))
  (pss_cons (ps_set (i := 3) nd rfl (Or.inl rfl) (pe_own Cl_pick (hr.mono (by decide)) (by rfl) (pa_cons (pv 0) (pa_cons (pe_lst (pa_cons pe_str (pa_cons pe_str (pa_cons pe_str pa_nil)))) pa_nil))))
  (pss_cons (ps_set (i := 4) nd rfl (Or.inl rfl) (pe_lst (pa_cons (pe_errB PySem.F.excBase_ValueError (B.p0) G.g0 (B.k0) (by rfl) (pv 3)) (pa_cons (pe_errB PySem.F.excBase_ValueError (B.p1) G.g1 (B.k1) (by rfl) (pv 3)) (pa_cons (pe_errB PySem.F.excBase_ValueError (B.p2) G.g2 (B.k2) (by rfl) (pv 3)) (pa_cons (pe_errB PySem.F.excBase_ValueError (B.p3) G.g3 (B.k3) (by rfl) (pv 3)) (pa_cons (pe_errB PySem.F.excBase_ValueError (B.p4) G.g4 (B.k4) (by rfl) (pv 3)) pa_nil)))))))
  (pss_cons (ps_if (pt_cmpR (op_neD hr.units) (pe_lc (own := [("_law_error", 15)]) (g := gName 15) (tt := tYes) rfl nd (pi_list (pv 4)) (blkOk_by (own := [("_law_error", 15)]) (N := N_law_right) (sc := defScope s_law_right) (by decide +kernel)) (fun _ _ _ _ _ => (pg_name (i := 15) nd rfl (Or.inl rfl))) (fun _ _ _ _ _ => pts_nil) (fun _ _ _ _ _ => (pe_own Cl_of_hands (hr.mono (by decide)) (by rfl) (pa_cons (pv 15) pa_nil)))) (pe_op op_cat (pe_lst (pa_cons (pe_lst (pa_cons pe_int pa_nil)) pa_nil)) (pe_lc (own := [("_law_at", 16)]) (g := gName 16) (tt := tYes) rfl nd (pi_range2 rfl T.b_range (pa_cons pe_int (pa_cons pe_int pa_nil))) (blkOk_by (own := [("_law_at", 16)]) (N := N_law_right) (sc := defScope s_law_right) (by decide +kernel)) (fun _ _ _ _ _ => (pg_name (i := 16) nd rfl (Or.inl rfl))) (fun _ _ _ _ _ => pts_nil) (fun _ _ _ _ _ => (pe_lst (pa_cons pe_int (pa_cons (pv 16) pa_nil)))))) (nomark _))
  (pss_one (ps_ret pe_bl))
  pss_nil)
  (pss_cons (ps_if (pt_cmpR (op_neD hr.units) (pe_lc (own := [("_law_error", 15)]) (g := gName 15) (tt := tYes) rfl nd (pi_list (pv 4)) (blkOk_by (own := [("_law_error", 15)]) (N := N_law_right) (sc := defScope s_law_right) (by decide +kernel)) (fun _ _ _ _ _ => (pg_name (i := 15) nd rfl (Or.inl rfl))) (fun _ _ _ _ _ => pts_nil) (fun _ _ _ _ _ => (pe_own Cl_of_others (hr.mono (by decide)) (by rfl) (pa_cons (pv 15) pa_nil)))) (pe_op op_rep (pe_lst (pa_cons (pe_lst (pa_cons pe_str pa_nil)) pa_nil)) pe_int) (nomark _))
  (pss_one (ps_ret pe_bl))
  pss_nil)
  (pss_cons (ps_par (i := 5) (j := 6) (by rfl) nd rfl rfl (by decide) rfl rfl (pa_cons (pe_errC ErParseError (hr.mono (by decide)) (by rfl) (pe_ix ix_list (pv 2) pe_int (fun _ _ => rfl))) (pa_cons (pe_errC ErUnknownName (hr.mono (by decide)) (by rfl) (pe_ix ix_list (pv 2) pe_int (fun _ _ => rfl))) pa_nil)) (by rfl))
  (pss_cons (ps_par (i := 7) (j := 8) (by rfl) nd rfl rfl (by decide) rfl rfl (pa_cons (pe_errC ErInvalidNumber (hr.mono (by decide)) (by rfl) (pe_ix ix_list (pv 2) pe_int (fun _ _ => rfl))) (pa_cons (pe_errC ErNothingToUndo (hr.mono (by decide)) (by rfl) (pe_ix ix_list (pv 2) pe_int (fun _ _ => rfl))) pa_nil)) (by rfl))
  (pss_cons (ps_par (i := 9) (j := 10) (by rfl) nd rfl rfl (by decide) rfl rfl (pa_cons (pe_errC ErRefused (hr.mono (by decide)) (by rfl) (pe_ix ix_list (pv 2) pe_int (fun _ _ => rfl))) (pa_cons (pe_errC ErTooMany (hr.mono (by decide)) (by rfl) (pe_ix ix_list (pv 2) pe_int (fun _ _ => rfl))) pa_nil)) (by rfl))
  (pss_cons (ps_set (i := 11) nd rfl (Or.inl rfl) (pe_lst (pa_cons (pe_fldE (pv 5) rfl) (pa_cons (pe_fldE (pv 6) rfl) (pa_cons (pe_fldE (pv 7) rfl) (pa_cons (pe_fldE (pv 8) rfl) (pa_cons (pe_fldE (pv 9) rfl) (pa_cons (pe_fldE (pv 10) rfl) pa_nil))))))))
  (pss_cons (ps_if (PW.pt (pw_or (pt_cmpR op_ne (pe_callB (call_reprD gd hs hr) (by rfl) b_repr (by decide +kernel) (pa_cons (pv 11) pa_nil)) (pe_callB (call_reprD gd hs hr) (by rfl) b_repr (by decide +kernel) (pa_cons (pv 2) pa_nil)) (nomark _)) (pw_or1 (pt_cmpR (op_neD hr.units) (pe_own Cl_of_hands (hr.mono (by decide)) (by rfl) (pa_cons (pv 5) pa_nil)) (pe_lst (pa_cons pe_int (pa_cons pe_int pa_nil))) (nomark _)))))
  (pss_one (ps_ret pe_bl))
  pss_nil)
  (pss_cons (ps_if (pt_cmpR (op_neD hr.units) (pe_own Cl_of_others (hr.mono (by decide)) (by rfl) (pa_cons (pv 5) pa_nil)) (pe_lst (pa_cons pe_str pa_nil)) (nomark _))
  (pss_one (ps_ret pe_bl))
  pss_nil)
  (pss_cons (ps_set (i := 12) nd rfl (Or.inl rfl) (pe_lst (pa_cons (pv 6) (pa_cons (pv 7) (pa_cons (pv 8) (pa_cons (pv 9) (pa_cons (pv 10) pa_nil)))))))
  (pss_cons (ps_if (pt_cmpR (op_neD hr.units) (pe_lc (own := [("_law_error", 15)]) (g := gName 15) (tt := tYes) rfl nd (pi_list (pv 12)) (blkOk_by (own := [("_law_error", 15)]) (N := N_law_right) (sc := defScope s_law_right) (by decide +kernel)) (fun _ _ _ _ _ => (pg_name (i := 15) nd rfl (Or.inl rfl))) (fun _ _ _ _ _ => pts_nil) (fun _ _ _ _ _ => (pe_own Cl_of_hands (hr.mono (by decide)) (by rfl) (pa_cons (pv 15) pa_nil)))) (pe_op op_rep (pe_lst (pa_cons (pe_lst pa_nil) pa_nil)) pe_int) (nomark _))
  (pss_one (ps_ret pe_bl))
  pss_nil)
  (pss_cons (ps_set (i := 13) nd rfl (Or.inl rfl) (pe_lst (pa_cons (pe_lst (pa_cons pe_str (pa_cons pe_str (pa_cons pe_str pa_nil)))) (pa_cons (pe_lst (pa_cons pe_str (pa_cons pe_str (pa_cons pe_str pa_nil)))) (pa_cons (pe_lst (pa_cons pe_str (pa_cons pe_str pa_nil))) pa_nil)))))
  (pss_cons (ps_set (i := 13) nd rfl (Or.inl rfl) (pe_op op_cat (pv 13) (pe_lst (pa_cons (pe_lst (pa_cons pe_str (pa_cons pe_str pa_nil))) (pa_cons (pe_lst (pa_cons pe_str (pa_cons pe_str (pa_cons pe_str pa_nil)))) pa_nil)))))
  (pss_one (ps_ret (pe_cmpR (op_eqD hr.units) (pe_lc (own := [("_law_error", 15)]) (g := gName 15) (tt := tYes) rfl nd (pi_list (pv 12)) (blkOk_by (own := [("_law_error", 15)]) (N := N_law_right) (sc := defScope s_law_right) (by decide +kernel)) (fun _ _ _ _ _ => (pg_name (i := 15) nd rfl (Or.inl rfl))) (fun _ _ _ _ _ => pts_nil) (fun _ _ _ _ _ => (pe_own Cl_of_others (hr.mono (by decide)) (by rfl) (pa_cons (pv 15) pa_nil)))) (pv 13) (nomark _)))))))))))))))))))), ?_⟩

    refine seq_gen (P := fun σ' H' => ∃ t l dd e L, σ' = [some (.ref D), some (.ref L), none, none, none, none, none, none, none, none, none, none, none, none, none, none, none] ∧ Four H' t l dd e ∧ H' L = some (.lst (drawnE t l dd e)) ∧ L ≠ D ∧ t ≠ D ∧ l ≠ D ∧ dd ≠ D ∧ e ≠ D ∧ Go D H H') (fun N hN => ?_) ?_
    · have d0 := d
      refine ⟨by show 2 ≤ sizeLine; decide, fun t nt => ?_⟩
      have s1 := same_upd (o := .tup [V.str "p", V.int 3]) nt
      have e1 : upd H t (.tup [V.str "p", V.int 3]) t = _ := upd_same
      have n1 := d.ne nt
      replace d := d.same s1
      generalize upd H t _ = H1 at s1 e1 d ⊢
      refine ⟨_, rfl, _, _, rfl, rfl, ⟨by decide, by decide, by decide⟩, ?_⟩
      refine ⟨by show 1 ≤ sizeLine; decide, fun l nl => ?_⟩
      have s2 := same_upd (o := .lst [V.int 1]) nl
      have e2 : upd H1 l (.lst [V.int 1]) l = _ := upd_same
      have n2 := d.ne nl
      replace d := d.same s2
      replace e1 := s2 _ _ e1
      generalize upd H1 l _ = H2 at s2 e1 e2 d ⊢
      refine fun dd ndd => ?_
      have s3 := same_upd (o := .dK []) ndd
      have e3 : upd H2 dd (.dK []) dd = _ := upd_same
      have n3 := d.ne ndd
      replace d := d.same s3
      replace e1 := s3 _ _ e1
      replace e2 := s3 _ _ e2
      generalize upd H2 dd _ = H3 at s3 e1 e2 e3 d ⊢
      refine ⟨Nat.zero_le _, fun e ne => ?_⟩
      have s4 := same_upd (o := .tup []) ne
      have e4 : upd H3 e (.tup []) e = _ := upd_same
      have n4 := d.ne ne
      replace d := d.same s4
      replace e1 := s4 _ _ e1
      replace e2 := s4 _ _ e2
      replace e3 := s4 _ _ e3
      generalize upd H3 e _ = H4 at s4 e1 e2 e3 e4 d ⊢
      refine ⟨by show 13 ≤ sizeLine; decide, fun L nL => ?_⟩
      have s5 := same_upd (o := .lst (drawnE t l dd e)) nL
      exact hN _ _ ⟨t, l, dd, e, L, rfl, Four.same ⟨e1, e2, e3, e4⟩ s5, upd_same, d.ne nL, n1, n2, n3, n4, .of d0 (s1.trans (s2.trans (s3.trans (s4.trans s5))))⟩
    rintro σ1 H1 ⟨t, l, dd, e, L, rfl, four, eL, nL, n1, n2, n3, n4, go⟩
    have d1 := go.2
    clear d
    refine seq_gen (P := fun σ' H' => ∃ M zs, σ' = [some (.ref D), some (.ref L), some (.ref M), none, none, none, none, none, none, none, none, none, none, none, none, none, none] ∧ Four H' t l dd e ∧ H' M = some (.lst zs) ∧ M ≠ D ∧ zs.length = 6 ∧ (∀ z ∈ zs, z ∈ drawnE t l dd e) ∧ Go D H H') (fun N hN => ?_) ?_
    · refine ⟨_, rfl, by decide, by decide, fun M nM => ?_⟩
      have nMD := d1.ne nM
      refine lc_range (lo := 0) (n := 6) (fun i H' => Go D H1 H' ∧ ∃ zs : List V, H' M = some (.lst zs) ∧ zs.length = i ∧ ∀ z ∈ zs, z ∈ drawnE t l dd e) ⟨Go.of d1 (same_upd nM), [], upd_same, rfl, fun z h => nomatch h⟩ (fun i H2 hi hp => ?_) (fun H2 hp => ?_)
      · obtain ⟨g, zs, eM, len, all⟩ := hp
        refine ⟨rfl, _, rfl, _, rfl, D, L, _, g.2, rfl, .inl (.inl (g.1 _ _ nL eL)), nL, by unfold drawnE; exact List.cons_ne_nil _ _, by show 13 < 1000; decide, fun v H3 hv g3 _ => ?_⟩
        refine ⟨_, g3.1 _ _ nMD eM, small1000 (by omega), ⟨fun b o ne be => ?_, ?_⟩, zs ++ [v], upd_same, by rw [List.length_append, len]; rfl, fun z hz => ?_⟩
        · rw [upd_ne (ne_of_none be nM)]
          exact g3.1 _ _ ne (g.1 _ _ ne be)
        · obtain ⟨x, y, z, ed⟩ := g3.2
          exact ⟨x, y, z, by rw [upd_ne nMD.symm]; exact ed⟩
        · rcases List.mem_append.mp hz with h | h
          · exact all z h
          · rw [List.mem_singleton.mp h]
            exact hv
      · obtain ⟨g, zs, eM, len, all⟩ := hp
        exact hN _ _ ⟨M, zs, rfl, ⟨g.1 _ _ n1 four.t, g.1 _ _ n2 four.l, g.1 _ _ n3 four.d, g.1 _ _ n4 four.e⟩, eM, nMD, len, all, go.trans g⟩
    clear four d1 eL nL go
    rintro σ2 H2 ⟨M, zs, rfl, four, eM, nM, len, all, go⟩
    have d2 := go.2
    refine seq_gen (P := fun σ' H' => ∃ wv, σ' = [some (.ref D), some (.ref L), some (.ref M), some wv, none, none, none, none, none, none, none, none, none, none, none, none, none] ∧ Four H' t l dd e ∧ H' M = some (.lst zs) ∧ Go D H H') (fun N hN => ?_) ?_
    · refine ⟨_, rfl, by show 3 ≤ sizeLine; decide, fun W nW => ?_⟩
      have d3 := d2.same (same_upd (o := .lst [V.str "", V.str "x", V.str "a program"]) nW)
      refine ⟨D, W, _, d3, rfl, .inl (.inl upd_same), d2.ne nW, List.cons_ne_nil _ _, by show 3 < 1000; decide, fun v H3 _ g3 _ => ?_⟩
      have s3 := same_upd (o := .lst [V.str "", V.str "x", V.str "a program"]) nW
      exact hN _ _ ⟨v, rfl, ⟨g3.1 _ _ n1 (s3 _ _ four.t), g3.1 _ _ n2 (s3 _ _ four.l), g3.1 _ _ n3 (s3 _ _ four.d), g3.1 _ _ n4 (s3 _ _ four.e)⟩, g3.1 _ _ nM (s3 _ _ eM), (go.same s3).trans g3⟩
    clear four d2 eM n1 n2 n3 n4 nM go H2
    rintro σ3 H3 ⟨wv, rfl, four, eM, go⟩
    refine seq_gen (P := fun σ' H' => ∃ p es, σ' = [some (.ref D), some (.ref L), some (.ref M), some wv, some (.ref p), none, none, none, none, none, none, none, none, none, none, none, none] ∧ Four H' t l dd e ∧ H' M = some (.lst zs) ∧ H' p = some (.lst es) ∧ es.length = 5 ∧ (∀ i x, es[i]? = some x → ErrN cs H' x i) ∧ Go D H H') (fun N hN => ?_) ?_
    · refine ⟨_, rfl, fun a0 k0 => ?_⟩
      have s0 := same_upd (o := exo a0 (cs 0) none) k0
      have e0 : upd H3 a0 (exo a0 (cs 0) none) a0 = _ := upd_same
      generalize upd H3 a0 _ = J0 at s0 e0 ⊢
      refine ⟨_, rfl, fun a1 k1 => ?_⟩
      have s1 := same_upd (o := exo a1 (cs 1) none) k1
      have e1 : upd J0 a1 (exo a1 (cs 1) none) a1 = _ := upd_same
      replace e0 := s1 _ _ e0
      generalize upd J0 a1 _ = J1 at s1 e0 e1 ⊢
      refine ⟨_, rfl, fun a2 k2 => ?_⟩
      have s2 := same_upd (o := exo a2 (cs 2) none) k2
      have e2 : upd J1 a2 (exo a2 (cs 2) none) a2 = _ := upd_same
      replace e0 := s2 _ _ e0
      replace e1 := s2 _ _ e1
      generalize upd J1 a2 _ = J2 at s2 e0 e1 e2 ⊢
      refine ⟨_, rfl, fun a3 k3 => ?_⟩
      have s3 := same_upd (o := exo a3 (cs 3) none) k3
      have e3 : upd J2 a3 (exo a3 (cs 3) none) a3 = _ := upd_same
      replace e0 := s3 _ _ e0
      replace e1 := s3 _ _ e1
      replace e2 := s3 _ _ e2
      generalize upd J2 a3 _ = J3 at s3 e0 e1 e2 e3 ⊢
      refine ⟨_, rfl, fun a4 k4 => ?_⟩
      have s4 := same_upd (o := exo a4 (cs 4) none) k4
      have e4 : upd J3 a4 (exo a4 (cs 4) none) a4 = _ := upd_same
      replace e0 := s4 _ _ e0
      replace e1 := s4 _ _ e1
      replace e2 := s4 _ _ e2
      replace e3 := s4 _ _ e3
      generalize upd J3 a4 _ = J4 at s4 e0 e1 e2 e3 e4 ⊢
      refine ⟨by show 5 ≤ sizeLine; decide, fun p np => ?_⟩
      have sp := same_upd (o := .lst [V.ref a0, V.ref a1, V.ref a2, V.ref a3, V.ref a4]) np
      have s04 := s0.trans (s1.trans (s2.trans (s3.trans (s4.trans sp))))
      refine hN _ _ ⟨p, _, rfl, four.same s04, s04 _ _ eM, upd_same, rfl, fun i x hx => ?_, go.same s04⟩
      match i, hx with
      | 0, hx => exact ⟨a0, none, (Option.some.inj hx).symm, none, sp _ _ e0, trivial⟩
      | 1, hx => exact ⟨a1, none, (Option.some.inj hx).symm, none, sp _ _ e1, trivial⟩
      | 2, hx => exact ⟨a2, none, (Option.some.inj hx).symm, none, sp _ _ e2, trivial⟩
      | 3, hx => exact ⟨a3, none, (Option.some.inj hx).symm, none, sp _ _ e3, trivial⟩
      | 4, hx => exact ⟨a4, none, (Option.some.inj hx).symm, none, sp _ _ e4, trivial⟩
      | i + 5, hx => exact nomatch hx
    clear four eM go
    rintro σ4 H4 ⟨p, es, rfl, four, eM, ep, lenE, isE, go⟩
    refine seq_gen (P := fun σ' H' => σ' = [some (.ref D), some (.ref L), some (.ref M), some wv, some (.ref p), none, none, none, none, none, none, none, none, none, none, none, none] ∧ Same H4 H') (fun N hN => ?_) ?_
    · refine ⟨_, rfl, p, rfl, ⟨es, .inl (.inl ep)⟩, fun q nq => ?_⟩
      refine lcLists (xs := es) (fun j => ilist (handsOf j)) (by omega) nq (fun H' sm => .inl (.inl (sm _ _ ep))) (fun i x H5 Ok hx sm ok => ?_) (fun H5 ps sm eq ls => ?_)
      · have li : i < 5 := by
          have := (List.getElem?_eq_some_iff.mp hx).1
          omega
        exact ⟨rfl, _, rfl, x, i, rfl, by omega, (isE i x hx).same sm, fun H' p' s' np' at' => ok p' H' s' np' at'⟩
      rw [lenE] at ls
      refine ⟨by show 1 ≤ sizeLine; decide, fun l0 m0 => ?_⟩
      have s1 := same_upd (o := .lst [V.int 0]) m0
      have e1 : upd H5 l0 (.lst [V.int 0]) l0 = _ := upd_same
      generalize upd H5 l0 _ = H6 at s1 e1 ⊢
      refine ⟨by show 1 ≤ sizeLine; decide, fun l1 m1 => ?_⟩
      have s2 := same_upd (o := .lst [V.ref l0]) m1
      have e2 : upd H6 l1 (.lst [V.ref l0]) l1 = _ := upd_same
      replace e1 := s2 _ _ e1
      generalize upd H6 l1 _ = H7 at s2 e1 e2 ⊢
      refine ⟨1, 5, rfl, ⟨by decide, by decide, by decide, by decide⟩, fun r nr => ?_⟩
      refine lcListsR (n := 4) (lo := 1) (fun j => [V.int 0, V.int (1 + (j : Int))]) (by decide) nr (fun i H8 Ok hi sm ok => ?_) (fun H8 ps2 sm2 er ls2 => ?_)
      · exact ⟨rfl, _, rfl, by show 2 ≤ sizeLine; decide, fun p' np' => ok p' _ (same_upd np') np' upd_same⟩
      refine ⟨l1, r, _, _, rfl, rfl, sm2 _ _ e2, er, ?_, fun u nu => ?_⟩
      · rw [List.length_map, ls2.len]
        exact (show 1 + 4 ≤ sizeLine by decide)
      have su := same_upd (o := .lst ([V.ref l0] ++ ps2.map V.ref)) nu
      have s48 := s1.trans (s2.trans (sm2.trans su))
      refine ⟨_, _, .lst (.inl (.inl (s48 _ _ eq))) ((ls.same s48).dp (fun j => (handsOf j).map fun n : Nat => .int (n : Int)) fun j hj => dp_ilist _), .lst (.inl (.inl upd_same)) (.cons (.lst (.inl (.inl (su _ _ (sm2 _ _ e1)))) (.cons (.int 0) .nil)) ((ls2.same su).dp (fun j => [.int 0, .int (1 + (j : Int))]) fun j hj => .cons (.int 0) (.cons (.int _) .nil))), by decide +kernel, by decide +kernel, ?_⟩
      refine ⟨_, rfl, ?_⟩
      exact iteN (by decide +kernel) (hN _ _ ⟨rfl, sm.trans s48⟩)
    rintro σ5 H5 ⟨rfl, sm⟩
    replace go := go.same sm
    replace four := four.same sm
    replace eM := sm _ _ eM
    replace ep := sm _ _ ep
    replace isE := fun i x hx => (isE i x hx).same sm
    clear sm H4
    refine seq_gen (P := fun σ' H' => σ' = [some (.ref D), some (.ref L), some (.ref M), some wv, some (.ref p), none, none, none, none, none, none, none, none, none, none, none, none] ∧ Same H5 H') (fun N hN => ?_) ?_
    · refine ⟨_, rfl, p, rfl, ⟨es, .inl (.inl ep)⟩, fun q nq => ?_⟩
      refine lcLists (xs := es) (fun j => (othersOf j).map V.str) (by omega) nq (fun H' sm => .inl (.inl (sm _ _ ep))) (fun i x H6 Ok hx sm ok => ?_) (fun H6 ps sm eq ls => ?_)
      · have li : i < 5 := by
          have := (List.getElem?_eq_some_iff.mp hx).1
          omega
        exact ⟨rfl, _, rfl, x, i, rfl, by omega, (isE i x hx).same sm, fun H' p' s' np' at' => ok p' H' s' np' at'⟩
      rw [lenE] at ls
      refine ⟨by show 1 ≤ sizeLine; decide, fun l0 m0 => ?_⟩
      have s1 := same_upd (o := .lst [V.str "value"]) m0
      have e1 : upd H6 l0 (.lst [V.str "value"]) l0 = _ := upd_same
      generalize upd H6 l0 _ = H7 at s1 e1 ⊢
      refine ⟨by show 1 ≤ sizeLine; decide, fun l1 m1 => ?_⟩
      have s2 := same_upd (o := .lst [V.ref l0]) m1
      have e2 : upd H7 l1 (.lst [V.ref l0]) l1 = _ := upd_same
      replace e1 := s2 _ _ e1
      generalize upd H7 l1 _ = H8 at s2 e1 e2 ⊢
      refine ⟨l1, 5, _, rfl, rfl, e2, by decide, by decide, by show 1 * 5 ≤ sizeLine; decide, fun u nu => ?_⟩
      have su := same_upd (o := .lst (List.replicate (5 : Int).toNat [V.ref l0]).flatten) nu
      have s68 := s1.trans (s2.trans su)
      have one : Dp K (upd H8 u (.lst (List.replicate (5 : Int).toNat [V.ref l0]).flatten)) (.ref l0) (.list [.str "value"]) := .lst (.inl (.inl (su _ _ e1))) (.cons (.str _) .nil)
      refine ⟨_, _, .lst (.inl (.inl (s68 _ _ eq))) ((ls.same s68).dp (fun j => (othersOf j).map .str) fun j hj => dp_strs _), .lst (xs := [V.ref l0, V.ref l0, V.ref l0, V.ref l0, V.ref l0]) (.inl (.inl upd_same)) (.cons one (.cons one (.cons one (.cons one (.cons one .nil))))), by decide +kernel, by decide +kernel, ?_⟩
      refine ⟨_, rfl, ?_⟩
      exact iteN (by decide +kernel) (hN _ _ ⟨rfl, sm.trans s68⟩)
    rintro σ6 H6 ⟨rfl, sm⟩
    replace go := go.same sm
    replace four := four.same sm
    replace eM := sm _ _ eM
    clear sm ep isE lenE H5
    obtain ⟨z0, z1, z2, z3, z4, z5, rfl⟩ : ∃ z0 z1 z2 z3 z4 z5, zs = [z0, z1, z2, z3, z4, z5] := by
      match zs, len with
      | [a, b, c, d, e, f], _ => exact ⟨a, b, c, d, e, f, rfl⟩
    clear len
    refine seq_gen (P := fun σ' H' => ∃ a5 a6, σ' = [some (.ref D), some (.ref L), some (.ref M), some wv, some (.ref p), some (.ref a5), some (.ref a6), none, none, none, none, none, none, none, none, none, none] ∧ Same H6 H' ∧ ErrAt H' a5 (cs 5) (some [("line", z0)]) ∧ ErrAt H' a6 (cs 6) (some [("name", z1)])) (fun N hN => ?_) ?_
    · refine ⟨_, rfl, M, _, 0, _, rfl, rfl, .inl (.inl eM), atI_nat (j := 0) rfl, by show 1 ≤ 1000; decide, fun a5 k5 => ⟨a5, z0, rfl, upd_same, fun d5 m5 ne5 => ⟨rfl, ?_⟩⟩⟩
      have s5 := err_same (l := [("line", z0)]) k5 m5 ne5
      have e5 : ErrAt (upd (upd (upd H6 a5 (exo a5 (cs 5) none)) d5 (exd d5 [("line", z0)])) a5 (exo a5 (cs 5) (some d5))) a5 (cs 5) _ := err_at ne5
      generalize upd (upd (upd H6 a5 _) d5 _) a5 _ = J5 at s5 e5 ⊢
      have eM2 := s5 _ _ eM
      refine ⟨_, rfl, M, _, 1, _, rfl, rfl, .inl (.inl eM2), atI_nat (j := 1) rfl, by show 1 ≤ 1000; decide, fun a6 k6 => ⟨a6, z1, rfl, upd_same, fun d6 m6 ne6 => ⟨rfl, ?_⟩⟩⟩
      have s6 := err_same (l := [("name", z1)]) k6 m6 ne6
      exact ⟨_, _, rfl, hN _ _ ⟨a5, a6, rfl, s5.trans s6, e5.same s6, err_at ne6⟩⟩
    rintro σ7 H7 ⟨a5, a6, rfl, sm, f5, f6⟩
    replace go := go.same sm
    replace four := four.same sm
    replace eM := sm _ _ eM
    clear sm H6
    refine seq_gen (P := fun σ' H' => ∃ a7 a8, σ' = [some (.ref D), some (.ref L), some (.ref M), some wv, some (.ref p), some (.ref a5), some (.ref a6), some (.ref a7), some (.ref a8), none, none, none, none, none, none, none, none] ∧ Same H7 H' ∧ ErrAt H' a7 (cs 7) (some [("value", z2)]) ∧ ErrAt H' a8 (cs 8) (some [("many", z3)])) (fun N hN => ?_) ?_
    · refine ⟨_, rfl, M, _, 2, _, rfl, rfl, .inl (.inl eM), atI_nat (j := 2) rfl, by show 1 ≤ 1000; decide, fun a7 k7 => ⟨a7, z2, rfl, upd_same, fun d7 m7 ne7 => ⟨rfl, ?_⟩⟩⟩
      have s7 := err_same (l := [("value", z2)]) k7 m7 ne7
      have e7 : ErrAt (upd (upd (upd H7 a7 (exo a7 (cs 7) none)) d7 (exd d7 [("value", z2)])) a7 (exo a7 (cs 7) (some d7))) a7 (cs 7) _ := err_at ne7
      generalize upd (upd (upd H7 a7 _) d7 _) a7 _ = J7 at s7 e7 ⊢
      have eM2 := s7 _ _ eM
      refine ⟨_, rfl, M, _, 3, _, rfl, rfl, .inl (.inl eM2), atI_nat (j := 3) rfl, by show 1 ≤ 1000; decide, fun a8 k8 => ⟨a8, z3, rfl, upd_same, fun d8 m8 ne8 => ⟨rfl, ?_⟩⟩⟩
      have s8 := err_same (l := [("many", z3)]) k8 m8 ne8
      exact ⟨_, _, rfl, hN _ _ ⟨a7, a8, rfl, s7.trans s8, e7.same s8, err_at ne8⟩⟩
    rintro σ8 H8 ⟨a7, a8, rfl, sm, f7, f8⟩
    replace go := go.same sm
    replace four := four.same sm
    replace eM := sm _ _ eM
    replace f5 := f5.same sm
    replace f6 := f6.same sm
    clear sm H7
    refine seq_gen (P := fun σ' H' => ∃ a9 a10, σ' = [some (.ref D), some (.ref L), some (.ref M), some wv, some (.ref p), some (.ref a5), some (.ref a6), some (.ref a7), some (.ref a8), some (.ref a9), some (.ref a10), none, none, none, none, none, none] ∧ Same H8 H' ∧ ErrAt H' a9 (cs 9) (some [("name", z4)]) ∧ ErrAt H' a10 (cs 10) (some [("limit", z5)])) (fun N hN => ?_) ?_
    · refine ⟨_, rfl, M, _, 4, _, rfl, rfl, .inl (.inl eM), atI_nat (j := 4) rfl, by show 1 ≤ 1000; decide, fun a9 k9 => ⟨a9, z4, rfl, upd_same, fun d9 m9 ne9 => ⟨rfl, ?_⟩⟩⟩
      have s9 := err_same (l := [("name", z4)]) k9 m9 ne9
      have e9 : ErrAt (upd (upd (upd H8 a9 (exo a9 (cs 9) none)) d9 (exd d9 [("name", z4)])) a9 (exo a9 (cs 9) (some d9))) a9 (cs 9) _ := err_at ne9
      generalize upd (upd (upd H8 a9 _) d9 _) a9 _ = J9 at s9 e9 ⊢
      have eM2 := s9 _ _ eM
      refine ⟨_, rfl, M, _, 5, _, rfl, rfl, .inl (.inl eM2), atI_nat (j := 5) rfl, by show 1 ≤ 1000; decide, fun a10 k10 => ⟨a10, z5, rfl, upd_same, fun d10 m10 ne10 => ⟨rfl, ?_⟩⟩⟩
      have s10 := err_same (l := [("limit", z5)]) k10 m10 ne10
      exact ⟨_, _, rfl, hN _ _ ⟨a9, a10, rfl, s9.trans s10, e9.same s10, err_at ne10⟩⟩
    rintro σ9 H9 ⟨a9, a10, rfl, sm, f9, f10⟩
    replace go := go.same sm
    replace four := four.same sm
    replace eM := sm _ _ eM
    replace f5 := f5.same sm
    replace f6 := f6.same sm
    replace f7 := f7.same sm
    replace f8 := f8.same sm
    clear sm H8
    refine seq_gen (P := fun σ' H' => ∃ u, σ' = [some (.ref D), some (.ref L), some (.ref M), some wv, some (.ref p), some (.ref a5), some (.ref a6), some (.ref a7), some (.ref a8), some (.ref a9), some (.ref a10), some (.ref u), none, none, none, none, none] ∧ Same H9 H' ∧ H' u = some (.lst [z0, z1, z2, z3, z4, z5])) (fun N hN => ?_) ?_
    · refine ⟨_, rfl, a5, cs 5, _, z0, rfl, f5, KD.err 5 (by decide), ErParseError.no, rfl, ?_⟩
      refine ⟨_, rfl, a6, cs 6, _, z1, rfl, f6, KD.err 6 (by decide), ErUnknownName.no, rfl, ?_⟩
      refine ⟨_, rfl, a7, cs 7, _, z2, rfl, f7, KD.err 7 (by decide), ErInvalidNumber.no, rfl, ?_⟩
      refine ⟨_, rfl, a8, cs 8, _, z3, rfl, f8, KD.err 8 (by decide), ErNothingToUndo.no, rfl, ?_⟩
      refine ⟨_, rfl, a9, cs 9, _, z4, rfl, f9, KD.err 9 (by decide), ErRefused.no, rfl, ?_⟩
      refine ⟨_, rfl, a10, cs 10, _, z5, rfl, f10, KD.err 10 (by decide), ErTooMany.no, rfl, ?_⟩
      exact ⟨by show 6 ≤ sizeLine; decide, fun u nu => hN _ _ ⟨u, rfl, same_upd nu, upd_same⟩⟩
    rintro σ10 H10 ⟨u, rfl, sm, eu⟩
    replace go := go.same sm
    replace four := four.same sm
    replace eM := sm _ _ eM
    replace f5 := f5.same sm
    replace f6 := f6.same sm
    replace f7 := f7.same sm
    replace f8 := f8.same sm
    replace f9 := f9.same sm
    replace f10 := f10.same sm
    clear sm H9
    refine seq_gen (P := fun σ' H' => σ' = [some (.ref D), some (.ref L), some (.ref M), some wv, some (.ref p), some (.ref a5), some (.ref a6), some (.ref a7), some (.ref a8), some (.ref a9), some (.ref a10), some (.ref u), none, none, none, none, none] ∧ Same H10 H') (fun N hN => ?_) ?_
    · obtain ⟨ds, dall, fit, lds⟩ := fit_all (K := K) fun z hz => drawn_fit four z (all z hz)
      obtain ⟨b1, b2, b3⟩ := fit_big fit (by rw [lds]; exact (show 6 ≤ 100 by decide))
      refine ⟨_, rfl, .ref u, .list ds, rfl, .lst eu dall, b1, b2, b3, ?_⟩
      refine ⟨_, rfl, .ref M, .list ds, rfl, .lst eM dall, b1, b2, b3, ?_⟩
      refine ⟨rfl, _, rfl, iteN (decide_eq_true rfl) ?_⟩
      refine ⟨_, rfl, .ref a5, 5, rfl, by decide, ⟨a5, _, rfl, f5⟩, fun H11 l sm nl el => ?_⟩
      refine ⟨by show 2 ≤ sizeLine; decide, fun r nr => ?_⟩
      have sr := same_upd (o := .lst [V.int 0, V.int 5]) nr
      refine ⟨_, _, .lst (.inl (.inl (sr _ _ el))) (dp_ilist _), .lst (.inl (.inl upd_same)) (.cons (.int 0) (.cons (.int 5) .nil)), by decide +kernel, by decide +kernel, _, rfl, ?_⟩
      exact iteN (by decide +kernel) (hN _ _ ⟨rfl, sm.trans sr⟩)
    clear four eM eu all
    rintro σ11 H11 ⟨rfl, sm⟩
    replace go := go.same sm
    replace f5 := f5.same sm
    replace f6 := f6.same sm
    replace f7 := f7.same sm
    replace f8 := f8.same sm
    replace f9 := f9.same sm
    replace f10 := f10.same sm
    clear sm H10
    refine seq_gen (P := fun σ' H' => σ' = [some (.ref D), some (.ref L), some (.ref M), some wv, some (.ref p), some (.ref a5), some (.ref a6), some (.ref a7), some (.ref a8), some (.ref a9), some (.ref a10), some (.ref u), none, none, none, none, none] ∧ Same H11 H') (fun N hN => ?_) ?_
    · refine ⟨_, rfl, .ref a5, 5, rfl, by decide, ⟨a5, _, rfl, f5⟩, fun H12 l sm nl el => ?_⟩
      refine ⟨by show 1 ≤ sizeLine; decide, fun r nr => ?_⟩
      have sr := same_upd (o := .lst [V.str "value"]) nr
      refine ⟨_, _, .lst (.inl (.inl (sr _ _ el))) (dp_strs _), .lst (.inl (.inl upd_same)) (.cons (.str _) .nil), by decide +kernel, by decide +kernel, _, rfl, ?_⟩
      exact iteN (by decide +kernel) (hN _ _ ⟨rfl, sm.trans sr⟩)
    rintro σ12 H12 ⟨rfl, sm⟩
    replace go := go.same sm
    replace f5 := f5.same sm
    replace f6 := f6.same sm
    replace f7 := f7.same sm
    replace f8 := f8.same sm
    replace f9 := f9.same sm
    replace f10 := f10.same sm
    clear sm H11
    refine seq_gen (P := fun σ' H' => ∃ kp, σ' = [some (.ref D), some (.ref L), some (.ref M), some wv, some (.ref p), some (.ref a5), some (.ref a6), some (.ref a7), some (.ref a8), some (.ref a9), some (.ref a10), some (.ref u), some (.ref kp), none, none, none, none] ∧ H' kp = some (.lst [V.ref a6, V.ref a7, V.ref a8, V.ref a9, V.ref a10]) ∧ (∀ i x, [V.ref a6, V.ref a7, V.ref a8, V.ref a9, V.ref a10][i]? = some x → ErrN cs H' x (i + 6)) ∧ Go D H H') (fun N hN => ?_) ?_
    · refine ⟨_, rfl, _, rfl, _, rfl, _, rfl, _, rfl, by show 5 ≤ sizeLine; decide, fun kp nk => hN _ _ ⟨kp, rfl, upd_same, fun i x hx => ?_, go.same (same_upd nk)⟩⟩
      have sk := same_upd (o := .lst [V.ref a6, V.ref a7, V.ref a8, V.ref a9, V.ref a10]) nk
      match i, hx with
      | 0, hx => exact ⟨a6, _, (Option.some.inj hx).symm, f6.same sk⟩
      | 1, hx => exact ⟨a7, _, (Option.some.inj hx).symm, f7.same sk⟩
      | 2, hx => exact ⟨a8, _, (Option.some.inj hx).symm, f8.same sk⟩
      | 3, hx => exact ⟨a9, _, (Option.some.inj hx).symm, f9.same sk⟩
      | 4, hx => exact ⟨a10, _, (Option.some.inj hx).symm, f10.same sk⟩
      | i + 5, hx => exact nomatch hx
    clear f5 f6 f7 f8 f9 f10 go H12
    rintro σ13 H13 ⟨kp, rfl, ek, isK, go⟩
    refine seq_gen (P := fun σ' H' => σ' = [some (.ref D), some (.ref L), some (.ref M), some wv, some (.ref p), some (.ref a5), some (.ref a6), some (.ref a7), some (.ref a8), some (.ref a9), some (.ref a10), some (.ref u), some (.ref kp), none, none, none, none] ∧ Same H13 H') (fun N hN => ?_) ?_
    · refine ⟨_, rfl, kp, rfl, ⟨_, .inl (.inl ek)⟩, fun q nq => ?_⟩
      refine lcLists (xs := [V.ref a6, V.ref a7, V.ref a8, V.ref a9, V.ref a10]) (fun j => ilist (handsOf (j + 6))) (by show 5 ≤ 1000; decide) nq (fun H' sm => .inl (.inl (sm _ _ ek))) (fun i x H14 Ok hx sm ok => ?_) (fun H14 ps sm eq ls => ?_)
      · have li : i < 5 := (List.getElem?_eq_some_iff.mp hx).1
        exact ⟨rfl, _, rfl, x, i + 6, rfl, by omega, (isK i x hx).same sm, fun H' p' s' np' at' => ok p' H' s' np' at'⟩
      replace ls : Lists H14 ps (fun j => ilist (handsOf (j + 6))) 5 := ls
      refine ⟨Nat.zero_le _, fun l0 m0 => ?_⟩
      have s1 := same_upd (o := .lst []) m0
      have e1 : upd H14 l0 (.lst []) l0 = _ := upd_same
      generalize upd H14 l0 _ = H15 at s1 e1 ⊢
      refine ⟨by show 1 ≤ sizeLine; decide, fun l1 m1 => ?_⟩
      have s2 := same_upd (o := .lst [V.ref l0]) m1
      have e2 : upd H15 l1 (.lst [V.ref l0]) l1 = _ := upd_same
      replace e1 := s2 _ _ e1
      generalize upd H15 l1 _ = H16 at s2 e1 e2 ⊢
      refine ⟨l1, 5, _, rfl, rfl, e2, by decide, by decide, by show 1 * 5 ≤ sizeLine; decide, fun v nv => ?_⟩
      have sv := same_upd (o := .lst (List.replicate (5 : Int).toNat [V.ref l0]).flatten) nv
      have s46 := s1.trans (s2.trans sv)
      have one : Dp K (upd H16 v (.lst (List.replicate (5 : Int).toNat [V.ref l0]).flatten)) (.ref l0) (.list []) := .lst (.inl (.inl (sv _ _ e1))) .nil
      refine ⟨_, _, .lst (.inl (.inl (s46 _ _ eq))) ((ls.same s46).dp (fun j => (handsOf (j + 6)).map fun n : Nat => .int (n : Int)) fun j hj => dp_ilist _), .lst (xs := [V.ref l0, V.ref l0, V.ref l0, V.ref l0, V.ref l0]) (.inl (.inl upd_same)) (.cons one (.cons one (.cons one (.cons one (.cons one .nil))))), by decide +kernel, by decide +kernel, ?_⟩
      refine ⟨_, rfl, ?_⟩
      exact iteN (by decide +kernel) (hN _ _ ⟨rfl, sm.trans s46⟩)
    rintro σ14 H14 ⟨rfl, sm⟩
    replace go := go.same sm
    replace ek := sm _ _ ek
    replace isK := fun i x hx => (isK i x hx).same sm
    clear sm H13
    refine seq_gen (P := fun σ' H' => ∃ du b0 b1 b2, σ' = [some (.ref D), some (.ref L), some (.ref M), some wv, some (.ref p), some (.ref a5), some (.ref a6), some (.ref a7), some (.ref a8), some (.ref a9), some (.ref a10), some (.ref u), some (.ref kp), some (.ref du), none, none, none] ∧ Same H14 H' ∧ H' du = some (.lst [V.ref b0, V.ref b1, V.ref b2]) ∧ H' b0 = some (.lst [V.str "name", V.str "key", V.str "lookup"]) ∧ H' b1 = some (.lst [V.str "number", V.str "index", V.str "lookup"]) ∧ H' b2 = some (.lst [V.str "undo", V.str "lookup"])) (fun N hN => ?_) ?_
    · skip
      refine ⟨by show 3 ≤ sizeLine; decide, fun b0 nb0 => ?_⟩
      have sb0 := same_upd (o := .lst [V.str "name", V.str "key", V.str "lookup"]) nb0
      have eb0 : upd H14 b0 (.lst [V.str "name", V.str "key", V.str "lookup"]) b0 = _ := upd_same
      generalize upd H14 b0 _ = Gb0 at sb0  eb0 ⊢
      refine ⟨by show 3 ≤ sizeLine; decide, fun b1 nb1 => ?_⟩
      have sb1 := same_upd (o := .lst [V.str "number", V.str "index", V.str "lookup"]) nb1
      have eb1 : upd Gb0 b1 (.lst [V.str "number", V.str "index", V.str "lookup"]) b1 = _ := upd_same
      replace eb0 := sb1 _ _ eb0
      generalize upd Gb0 b1 _ = Gb1 at sb1 eb0 eb1 ⊢
      refine ⟨by show 2 ≤ sizeLine; decide, fun b2 nb2 => ?_⟩
      have sb2 := same_upd (o := .lst [V.str "undo", V.str "lookup"]) nb2
      have eb2 : upd Gb1 b2 (.lst [V.str "undo", V.str "lookup"]) b2 = _ := upd_same
      replace eb0 := sb2 _ _ eb0
      replace eb1 := sb2 _ _ eb1
      generalize upd Gb1 b2 _ = Gb2 at sb2 eb0 eb1 eb2 ⊢
      refine ⟨by show 3 ≤ sizeLine; decide, fun du nd' => ?_⟩
      have sd := same_upd (o := .lst [V.ref b0, V.ref b1, V.ref b2]) nd'
      exact hN _ _ ⟨du, b0, b1, b2, rfl, sb0.trans (sb1.trans (sb2.trans sd)), upd_same, sd _ _ eb0, sd _ _ eb1, sd _ _ eb2⟩
    rintro σ15 H15 ⟨du, b0, b1, b2, rfl, sm, ed, eb0, eb1, eb2⟩
    replace go := go.same sm
    replace ek := sm _ _ ek
    replace isK := fun i x hx => (isK i x hx).same sm
    clear sm H14
    refine seq_gen (P := fun σ' H' => ∃ dv b3 b4, σ' = [some (.ref D), some (.ref L), some (.ref M), some wv, some (.ref p), some (.ref a5), some (.ref a6), some (.ref a7), some (.ref a8), some (.ref a9), some (.ref a10), some (.ref u), some (.ref kp), some (.ref dv), none, none, none] ∧ Same H15 H' ∧ H' dv = some (.lst [V.ref b0, V.ref b1, V.ref b2, V.ref b3, V.ref b4]) ∧ H' b3 = some (.lst [V.str "refused", V.str "arithmetic"]) ∧ H' b4 = some (.lst [V.str "over", V.str "arithmetic", V.str "overflow"])) (fun N hN => ?_) ?_
    · refine ⟨_, rfl, ?_⟩
      refine ⟨by show 2 ≤ sizeLine; decide, fun b3 nb3 => ?_⟩
      have sb3 := same_upd (o := .lst [V.str "refused", V.str "arithmetic"]) nb3
      have eb3 : upd H15 b3 (.lst [V.str "refused", V.str "arithmetic"]) b3 = _ := upd_same
      replace ed := sb3 _ _ ed
      generalize upd H15 b3 _ = Gb3 at sb3  eb3 ed ⊢
      refine ⟨by show 3 ≤ sizeLine; decide, fun b4 nb4 => ?_⟩
      have sb4 := same_upd (o := .lst [V.str "over", V.str "arithmetic", V.str "overflow"]) nb4
      have eb4 : upd Gb3 b4 (.lst [V.str "over", V.str "arithmetic", V.str "overflow"]) b4 = _ := upd_same
      replace eb3 := sb4 _ _ eb3
      replace ed := sb4 _ _ ed
      generalize upd Gb3 b4 _ = Gb4 at sb4 eb3 eb4 ed ⊢
      refine ⟨by show 2 ≤ sizeLine; decide, fun c nc => ?_⟩
      have sc := same_upd (o := .lst [V.ref b3, V.ref b4]) nc
      have ec : upd Gb4 c (.lst [V.ref b3, V.ref b4]) c = _ := upd_same
      replace ed := sc _ _ ed
      replace eb3 := sc _ _ eb3
      replace eb4 := sc _ _ eb4
      generalize upd Gb4 c _ = Gc at sc ec ed eb3 eb4 ⊢
      refine ⟨du, c, _, _, rfl, rfl, ed, ec, by show 3 + 2 ≤ sizeLine; decide, fun dv nv => ?_⟩
      have sv := same_upd (o := .lst ([V.ref b0, V.ref b1, V.ref b2] ++ [V.ref b3, V.ref b4])) nv
      exact hN _ _ ⟨dv, b3, b4, rfl, sb3.trans (sb4.trans (sc.trans sv)), upd_same, sv _ _ eb3, sv _ _ eb4⟩
    rintro σ16 H16 ⟨dv, b3, b4, rfl, sm, edv, eb3, eb4⟩
    replace go := go.same sm
    replace ek := sm _ _ ek
    replace isK := fun i x hx => (isK i x hx).same sm
    replace eb0 := sm _ _ eb0
    replace eb1 := sm _ _ eb1
    replace eb2 := sm _ _ eb2
    clear sm ed H15
    refine ⟨_, rfl, kp, rfl, ⟨_, .inl (.inl ek)⟩, fun q' nq => ?_⟩
    refine lcLists (xs := [V.ref a6, V.ref a7, V.ref a8, V.ref a9, V.ref a10]) (fun j => (othersOf (j + 6)).map V.str) (by show 5 ≤ 1000; decide) nq (fun H' sm => .inl (.inl (sm _ _ ek))) (fun i x H17 Ok hx sm ok => ?_) (fun H17 ps sm eq ls => ?_)
    · have li : i < 5 := (List.getElem?_eq_some_iff.mp hx).1
      exact ⟨rfl, _, rfl, x, i + 6, rfl, by omega, (isK i x hx).same sm, fun H' p' s' np' at' => ok p' H' s' np' at'⟩
    replace ls : Lists H17 ps (fun j => (othersOf (j + 6)).map V.str) 5 := ls
    refine ⟨_, rfl, ?_⟩
    refine ⟨_, .list [.list [.str "name", .str "key", .str "lookup"], .list [.str "number", .str "index", .str "lookup"], .list [.str "undo", .str "lookup"], .list [.str "refused", .str "arithmetic"], .list [.str "over", .str "arithmetic", .str "overflow"]], .lst (.inl (.inl eq)) (ls.dp (fun j => (othersOf (j + 6)).map .str) fun j hj => dp_strs _), .lst (.inl (.inl (sm _ _ edv))) (.cons (.lst (.inl (.inl (sm _ _ eb0))) (.cons (.str _) (.cons (.str _) (.cons (.str _) .nil)))) (.cons (.lst (.inl (.inl (sm _ _ eb1))) (.cons (.str _) (.cons (.str _) (.cons (.str _) .nil)))) (.cons (.lst (.inl (.inl (sm _ _ eb2))) (.cons (.str _) (.cons (.str _) .nil))) (.cons (.lst (.inl (.inl (sm _ _ eb3))) (.cons (.str _) (.cons (.str _) .nil))) (.cons (.lst (.inl (.inl (sm _ _ eb4))) (.cons (.str _) (.cons (.str _) (.cons (.str _) .nil)))) .nil))))), by decide +kernel, by decide +kernel, ?_⟩
    rw [show PyData.eqv (.list ((List.range 5).map fun j => .list ((othersOf (j + 6)).map .str))) (.list [.list [.str "name", .str "key", .str "lookup"], .list [.str "number", .str "index", .str "lookup"], .list [.str "undo", .str "lookup"], .list [.str "refused", .str "arithmetic"], .list [.str "over", .str "arithmetic", .str "overflow"]]) = true by decide +kernel]
    exact q _ (go.same sm)
end
end FS

set_option Elab.async false
set_option linter.all false
set_option maxRecDepth 100000
set_option maxHeartbeats 4000000
namespace FS
open PySem PySem.Spec PyProof.Rows L2
section
variable {P : Program} {w : World} {K : PySem.W.Frag} {mg : Str → Option Value} {base : Heap}
abbrev Nlaw : List Str := ["_law_script", "_law_at"]
theorem sclaw : FnScope Nlaw ["_law_script"] (defScope slaw) := ⟨rfl, rfl, rfl, by decide +kernel, rfl, by decide +kernel, by decide +kernel⟩
theorem ok_law {f : Addr} {fd : FuncData} (F : Fun K "law" "law" slaw f fd) (T : Nm K mg) (Cl_numbers : Cal P w K mg base 1 "_law_numbers" ["_law_script", "_law_at"] (spNumbers K)) (Cl_right : CalG P w K mg base 4 "_law_right" ["_law_die"] spRight0) : FnG P w K mg base CX0 6 f fd ["_law_script"] (spLaw0 K) := by
  have nd := sclaw.nd
  refine F.okG sclaw (fun vs H Q E h => ?_) (fun cdv A outer s H vs Q E gd hr h => ?_)
  · obtain ⟨a, ns, rfl, sq, hlen, q⟩ := h
    rfl
  · obtain ⟨a, ns, rfl, sq, hlen, q⟩ := h
    skip
    refine ⟨_, (pss_cons (ps_for PassesOwn.never rfl (pi_range1 rfl T.b_range (pa_cons (pe_callB (call_max2 rfl) (by rfl) T.b_max (by decide +kernel) (pa_cons pe_int (pa_cons (pe_callB (call_min2 rfl) (by rfl) T.b_min (by decide +kernel) (pa_cons pe_int (pa_cons (pe_callB call_len (by rfl) T.b_len PySem.boot_len (pa_cons (pv 0) pa_nil)) pa_nil))) pa_nil))) pa_nil)) (pg_name (i := 1) nd rfl (Or.inl rfl))
  (pss_one (ps_if (pt_not (pt_val (pe_ownG Cl_right gd (hr.mono (by decide)) (by rfl) (pa_cons (pe_own Cl_numbers (hr.mono (by decide)) (by rfl) (pa_cons (pv 0) (pa_cons (pv 1) pa_nil))) pa_nil))))
  (pss_one (ps_ret pe_bl))
  pss_nil)))
  (pss_one (ps_ret pe_bl))), ?_⟩

    refine ⟨_, rfl, _, _, rfl, .inl ⟨_, sq, rfl⟩, _, _, rfl, _, _, rfl, ?_⟩
    have hl : (ns.map V.int).length = ns.length := List.length_map _
    rw [hl]
    obtain ⟨m, em, hm⟩ : ∃ m : Nat, (if (if ((ns.length : Nat) : Int) < 8 then ((ns.length : Nat) : Int) else 8) > 1 then (if ((ns.length : Nat) : Int) < 8 then ((ns.length : Nat) : Int) else 8) else 1) = (m : Int) ∧ m ≤ 8 := by
      refine ⟨(if (if ((ns.length : Nat) : Int) < 8 then ((ns.length : Nat) : Int) else 8) > 1 then (if ((ns.length : Nat) : Int) < 8 then ((ns.length : Nat) : Int) else 8) else 1).toNat, ?_, ?_⟩ <;> (split <;> split <;> omega)
    rw [em]
    refine ⟨_, rfl, by omega, by omega, for_range (lo := 0) (n := m) (fun i σ H' => (∃ y1, σ = [some (.ref a), y1]) ∧ Same H H') ⟨⟨_, rfl⟩, .refl H⟩ (fun i σ H1 hi hp => ?_) (fun σ H1 hp => ?_)⟩
    · obtain ⟨⟨y1, rfl⟩, x1⟩ := hp
      have ei : (0 : Int) + (i : Int) = (i : Int) := by omega
      rw [ei]
      refine ⟨_, rfl, _, rfl, a, ns, i, rfl, Same.seq x1 sq, by omega, fun H2 p s2 np dp => ?_⟩
      refine ⟨p, rfl, dp, fun H3 g3 => ⟨_, rfl, iteF ?_⟩⟩
      exact ⟨⟨_, rfl⟩, fun b o e => g3.1 b o (ne_of_none (x1 b o e) np) (s2 b o (x1 b o e))⟩
    · obtain ⟨⟨y1, rfl⟩, x1⟩ := hp
      exact q _
end
end FS

set_option Elab.async false
set_option linter.all false
set_option maxRecDepth 100000
set_option maxHeartbeats 8000000
namespace FS
open PySem PySem.Spec PyProof.Rows L2
theorem all_mk {l : PySem.W.OpenLaw} {w : World} {K : PySem.W.Frag} {h : Heap} {mg : Str → Option Value} {fa C0 C1 C2 C3 C4 C5 C6 C7 C8 C9 C10 f1 f2 f3 f4 f5 f6 f7 f8 f9 f10 f11 f12 f13 : Addr} (X : K.In h) (G : h.Ns mainGlobals mg) (hfa : mg "law" = some (.ref fa))
    {od1 an1 od2 an2 od3 an3 od4 an4 od5 an5 od6 an6 od7 an7 od8 an8 od9 an9 od10 an10 od11 an11 od12 an12 od13 an13 : Option Addr} {sl1 sl2 sl3 sl4 sl5 sl6 sl7 sl8 sl9 sl10 sl11 sl12 sl13 : Array (Option Value)} {oc1 kV1 dc1 pm1 cd1 ct1 oc2 kV2 dc2 pm2 cd2 ct2 oc3 kV3 dc3 pm3 cd3 ct3 oc4 kV4 dc4 pm4 cd4 ct4 oc5 kV5 dc5 pm5 cd5 ct5 oc6 kV6 dc6 pm6 cd6 ct6 oc7 kV7 dc7 pm7 cd7 ct7 oc8 kV8 dc8 pm8 cd8 ct8 oc9 kV9 dc9 pm9 cd9 ct9 oc10 kV10 dc10 pm10 cd10 ct10 oc11 kV11 dc11 pm11 cd11 ct11 oc12 kV12 dc12 pm12 cd12 ct12 oc13 kV13 dc13 pm13 cd13 ct13 : Value}
    (gc0 : PySem.W.nsIn K mainGlobals "HandError" = some (some (.ref C0)))
    (gc1 : PySem.W.nsIn K mainGlobals "InvalidProgram" = some (some (.ref C1)))
    (gc2 : PySem.W.nsIn K mainGlobals "InvalidMeaning" = some (some (.ref C2)))
    (gc3 : PySem.W.nsIn K mainGlobals "InvalidOperation" = some (some (.ref C3)))
    (gc4 : PySem.W.nsIn K mainGlobals "InvalidCommand" = some (some (.ref C4)))
    (gc5 : PySem.W.nsIn K mainGlobals "ParseError" = some (some (.ref C5)))
    (gc6 : PySem.W.nsIn K mainGlobals "UnknownName" = some (some (.ref C6)))
    (gc7 : PySem.W.nsIn K mainGlobals "InvalidNumber" = some (some (.ref C7)))
    (gc8 : PySem.W.nsIn K mainGlobals "NothingToUndo" = some (some (.ref C8)))
    (gc9 : PySem.W.nsIn K mainGlobals "Refused" = some (some (.ref C9)))
    (gc10 : PySem.W.nsIn K mainGlobals "TooMany" = some (some (.ref C10)))
    (a1 : PySem.W.nsIn K mainGlobals "_law_numbers" = some (some (.ref f1)))
    (l1 : K.lookup f1 = some ⟨oc1, od1, .func (PySem.W.fnOf "_law_numbers" "_law_numbers" (defArgs s_law_numbers) (defBody s_law_numbers) (defScope s_law_numbers) .none kV1 dc1 pm1 an1 cd1 ct1), sl1⟩)
    (c1 : PySem.W.codeIn K cd1 "_law_numbers" = true)
    (k1 : PySem.W.keepIn K (.ref f1) = true)
    (a2 : PySem.W.nsIn K mainGlobals "_law_cast" = some (some (.ref f2)))
    (l2 : K.lookup f2 = some ⟨oc2, od2, .func (PySem.W.fnOf "_law_cast" "_law_cast" (defArgs s_law_cast) (defBody s_law_cast) (defScope s_law_cast) .none kV2 dc2 pm2 an2 cd2 ct2), sl2⟩)
    (c2 : PySem.W.codeIn K cd2 "_law_cast" = true)
    (k2 : PySem.W.keepIn K (.ref f2) = true)
    (a3 : PySem.W.nsIn K mainGlobals "_law_pick" = some (some (.ref f3)))
    (l3 : K.lookup f3 = some ⟨oc3, od3, .func (PySem.W.fnOf "_law_pick" "_law_pick" (defArgs s_law_pick) (defBody s_law_pick) (defScope s_law_pick) .none kV3 dc3 pm3 an3 cd3 ct3), sl3⟩)
    (c3 : PySem.W.codeIn K cd3 "_law_pick" = true)
    (k3 : PySem.W.keepIn K (.ref f3) = true)
    (a4 : PySem.W.nsIn K mainGlobals "_law_of_hands" = some (some (.ref f4)))
    (l4 : K.lookup f4 = some ⟨oc4, od4, .func (PySem.W.fnOf "_law_of_hands" "_law_of_hands" (defArgs s_law_of_hands) (defBody s_law_of_hands) (defScope s_law_of_hands) .none kV4 dc4 pm4 an4 cd4 ct4), sl4⟩)
    (c4 : PySem.W.codeIn K cd4 "_law_of_hands" = true)
    (k4 : PySem.W.keepIn K (.ref f4) = true)
    (a5 : PySem.W.nsIn K mainGlobals "_law_of_others" = some (some (.ref f5)))
    (l5 : K.lookup f5 = some ⟨oc5, od5, .func (PySem.W.fnOf "_law_of_others" "_law_of_others" (defArgs s_law_of_others) (defBody s_law_of_others) (defScope s_law_of_others) .none kV5 dc5 pm5 an5 cd5 ct5), sl5⟩)
    (c5 : PySem.W.codeIn K cd5 "_law_of_others" = true)
    (k5 : PySem.W.keepIn K (.ref f5) = true)
    (a6 : PySem.W.nsIn K mainGlobals "_law_right" = some (some (.ref f6)))
    (l6 : K.lookup f6 = some ⟨oc6, od6, .func (PySem.W.fnOf "_law_right" "_law_right" (defArgs s_law_right) (defBody s_law_right) (defScope s_law_right) .none kV6 dc6 pm6 an6 cd6 ct6), sl6⟩)
    (c6 : PySem.W.codeIn K cd6 "_law_right" = true)
    (k6 : PySem.W.keepIn K (.ref f6) = true)
    (a7 : PySem.W.nsIn K mainGlobals "law" = some (some (.ref f7)))
    (l7 : K.lookup f7 = some ⟨oc7, od7, .func (PySem.W.fnOf "law" "law" (defArgs slaw) (defBody slaw) (defScope slaw) .none kV7 dc7 pm7 an7 cd7 ct7), sl7⟩)
    (c7 : PySem.W.codeIn K cd7 "law" = true)
    (k7 : PySem.W.keepIn K (.ref f7) = true)
    (a8 : PySem.W.findIn K (.ref C5) "__init__" = some (some (.ref f8)))
    (ty8 : PySem.W.typeIn K (.ref f8) = some (.type "function"))
    (l8 : K.lookup f8 = some ⟨oc8, od8, .func (PySem.W.fnOf "__init__" "ParseError.__init__" (defArgs sParseError__init__) (defBody sParseError__init__) (defScope sParseError__init__) .none kV8 dc8 pm8 an8 cd8 ct8), sl8⟩)
    (c8 : PySem.W.codeIn K cd8 "ParseError.__init__" = true)
    (k8 : PySem.W.keepIn K (.ref f8) = true)
    (a9 : PySem.W.findIn K (.ref C6) "__init__" = some (some (.ref f9)))
    (ty9 : PySem.W.typeIn K (.ref f9) = some (.type "function"))
    (l9 : K.lookup f9 = some ⟨oc9, od9, .func (PySem.W.fnOf "__init__" "UnknownName.__init__" (defArgs sUnknownName__init__) (defBody sUnknownName__init__) (defScope sUnknownName__init__) .none kV9 dc9 pm9 an9 cd9 ct9), sl9⟩)
    (c9 : PySem.W.codeIn K cd9 "UnknownName.__init__" = true)
    (k9 : PySem.W.keepIn K (.ref f9) = true)
    (a10 : PySem.W.findIn K (.ref C7) "__init__" = some (some (.ref f10)))
    (ty10 : PySem.W.typeIn K (.ref f10) = some (.type "function"))
    (l10 : K.lookup f10 = some ⟨oc10, od10, .func (PySem.W.fnOf "__init__" "InvalidNumber.__init__" (defArgs sInvalidNumber__init__) (defBody sInvalidNumber__init__) (defScope sInvalidNumber__init__) .none kV10 dc10 pm10 an10 cd10 ct10), sl10⟩)
    (c10 : PySem.W.codeIn K cd10 "InvalidNumber.__init__" = true)
    (k10 : PySem.W.keepIn K (.ref f10) = true)
    (a11 : PySem.W.findIn K (.ref C8) "__init__" = some (some (.ref f11)))
    (ty11 : PySem.W.typeIn K (.ref f11) = some (.type "function"))
    (l11 : K.lookup f11 = some ⟨oc11, od11, .func (PySem.W.fnOf "__init__" "NothingToUndo.__init__" (defArgs sNothingToUndo__init__) (defBody sNothingToUndo__init__) (defScope sNothingToUndo__init__) .none kV11 dc11 pm11 an11 cd11 ct11), sl11⟩)
    (c11 : PySem.W.codeIn K cd11 "NothingToUndo.__init__" = true)
    (k11 : PySem.W.keepIn K (.ref f11) = true)
    (a12 : PySem.W.findIn K (.ref C9) "__init__" = some (some (.ref f12)))
    (ty12 : PySem.W.typeIn K (.ref f12) = some (.type "function"))
    (l12 : K.lookup f12 = some ⟨oc12, od12, .func (PySem.W.fnOf "__init__" "Refused.__init__" (defArgs sRefused__init__) (defBody sRefused__init__) (defScope sRefused__init__) .none kV12 dc12 pm12 an12 cd12 ct12), sl12⟩)
    (c12 : PySem.W.codeIn K cd12 "Refused.__init__" = true)
    (k12 : PySem.W.keepIn K (.ref f12) = true)
    (a13 : PySem.W.findIn K (.ref C10) "__init__" = some (some (.ref f13)))
    (ty13 : PySem.W.typeIn K (.ref f13) = some (.type "function"))
    (l13 : K.lookup f13 = some ⟨oc13, od13, .func (PySem.W.fnOf "__init__" "TooMany.__init__" (defArgs sTooMany__init__) (defBody sTooMany__init__) (defScope sTooMany__init__) .none kV13 dc13 pm13 an13 cd13 ct13), sl13⟩)
    (c13 : PySem.W.codeIn K cd13 "TooMany.__init__" = true)
    (k13 : PySem.W.keepIn K (.ref f13) = true)
    (om5 : PySem.W.excInitIn K C5 [.type "ValueError", .type "Exception", .type "BaseException", .type "object"] "ValueError.__new__" = true)
    (oo5 : PySem.W.excOver K C5 [.type "ValueError", .type "Exception", .type "BaseException", .type "object"] = true)
    (oh5 : PySem.W.hasDictIn K C5 = true)
    (os5 : PySem.W.findIn K (.ref C5) "__setattr__" = some (some (.builtin "object.__setattr__")))
    (oe5 : PySem.W.subIn K (.ref C5) (.type "BaseException") = some true)
    (ot5 : PySem.W.typeIn K (.ref C5) = some (.type "type"))
    (ok5 : PySem.W.keepIn K (.ref C5) = true)
    (on5 : PySem.W.findIn K (.ref C5) "line" = some none)
    (om6 : PySem.W.excInitIn K C6 [.type "KeyError", .type "LookupError", .type "Exception", .type "BaseException", .type "object"] "LookupError.__new__" = true)
    (oo6 : PySem.W.excOver K C6 [.type "KeyError", .type "LookupError", .type "Exception", .type "BaseException", .type "object"] = true)
    (oh6 : PySem.W.hasDictIn K C6 = true)
    (os6 : PySem.W.findIn K (.ref C6) "__setattr__" = some (some (.builtin "object.__setattr__")))
    (oe6 : PySem.W.subIn K (.ref C6) (.type "BaseException") = some true)
    (ot6 : PySem.W.typeIn K (.ref C6) = some (.type "type"))
    (ok6 : PySem.W.keepIn K (.ref C6) = true)
    (on6 : PySem.W.findIn K (.ref C6) "name" = some none)
    (om7 : PySem.W.excInitIn K C7 [.type "IndexError", .type "LookupError", .type "Exception", .type "BaseException", .type "object"] "IndexError.__new__" = true)
    (oo7 : PySem.W.excOver K C7 [.type "IndexError", .type "LookupError", .type "Exception", .type "BaseException", .type "object"] = true)
    (oh7 : PySem.W.hasDictIn K C7 = true)
    (os7 : PySem.W.findIn K (.ref C7) "__setattr__" = some (some (.builtin "object.__setattr__")))
    (oe7 : PySem.W.subIn K (.ref C7) (.type "BaseException") = some true)
    (ot7 : PySem.W.typeIn K (.ref C7) = some (.type "type"))
    (ok7 : PySem.W.keepIn K (.ref C7) = true)
    (on7 : PySem.W.findIn K (.ref C7) "value" = some none)
    (om8 : PySem.W.excInitIn K C8 [.type "LookupError", .type "Exception", .type "BaseException", .type "object"] "LookupError.__new__" = true)
    (oo8 : PySem.W.excOver K C8 [.type "LookupError", .type "Exception", .type "BaseException", .type "object"] = true)
    (oh8 : PySem.W.hasDictIn K C8 = true)
    (os8 : PySem.W.findIn K (.ref C8) "__setattr__" = some (some (.builtin "object.__setattr__")))
    (oe8 : PySem.W.subIn K (.ref C8) (.type "BaseException") = some true)
    (ot8 : PySem.W.typeIn K (.ref C8) = some (.type "type"))
    (ok8 : PySem.W.keepIn K (.ref C8) = true)
    (on8 : PySem.W.findIn K (.ref C8) "many" = some none)
    (om9 : PySem.W.excInitIn K C9 [.type "ArithmeticError", .type "Exception", .type "BaseException", .type "object"] "ArithmeticError.__new__" = true)
    (oo9 : PySem.W.excOver K C9 [.type "ArithmeticError", .type "Exception", .type "BaseException", .type "object"] = true)
    (oh9 : PySem.W.hasDictIn K C9 = true)
    (os9 : PySem.W.findIn K (.ref C9) "__setattr__" = some (some (.builtin "object.__setattr__")))
    (oe9 : PySem.W.subIn K (.ref C9) (.type "BaseException") = some true)
    (ot9 : PySem.W.typeIn K (.ref C9) = some (.type "type"))
    (ok9 : PySem.W.keepIn K (.ref C9) = true)
    (on9 : PySem.W.findIn K (.ref C9) "name" = some none)
    (om10 : PySem.W.excInitIn K C10 [.type "OverflowError", .type "ArithmeticError", .type "Exception", .type "BaseException", .type "object"] "OverflowError.__new__" = true)
    (oo10 : PySem.W.excOver K C10 [.type "OverflowError", .type "ArithmeticError", .type "Exception", .type "BaseException", .type "object"] = true)
    (oh10 : PySem.W.hasDictIn K C10 = true)
    (os10 : PySem.W.findIn K (.ref C10) "__setattr__" = some (some (.builtin "object.__setattr__")))
    (oe10 : PySem.W.subIn K (.ref C10) (.type "BaseException") = some true)
    (ot10 : PySem.W.typeIn K (.ref C10) = some (.type "type"))
    (ok10 : PySem.W.keepIn K (.ref C10) = true)
    (on10 : PySem.W.findIn K (.ref C10) "limit" = some none)
    (px0 : PySem.W.excIn K C0 [.type "ValueError", .type "Exception", .type "BaseException", .type "object"] "ValueError.__new__" = true)
    (pk0 : PySem.W.keepIn K (.ref C0) = true)
    (px1 : PySem.W.excIn K C1 [.type "ValueError", .type "Exception", .type "BaseException", .type "object"] "ValueError.__new__" = true)
    (pk1 : PySem.W.keepIn K (.ref C1) = true)
    (px2 : PySem.W.excIn K C2 [.type "ValueError", .type "Exception", .type "BaseException", .type "object"] "ValueError.__new__" = true)
    (pk2 : PySem.W.keepIn K (.ref C2) = true)
    (px3 : PySem.W.excIn K C3 [.type "ValueError", .type "Exception", .type "BaseException", .type "object"] "ValueError.__new__" = true)
    (pk3 : PySem.W.keepIn K (.ref C3) = true)
    (px4 : PySem.W.excIn K C4 [.type "ValueError", .type "Exception", .type "BaseException", .type "object"] "ValueError.__new__" = true)
    (pk4 : PySem.W.keepIn K (.ref C4) = true)
    (kb : kindsB K (fun i => [C0, C1, C2, C3, C4, C5, C6, C7, C8, C9, C10].getD i C0) = true)
    (qhn : PySem.W.specialIn K (.builtin "object.__class__") "__get__" = some (some (.builtin "getset_descriptor.__get__")))
    (qht : PySem.W.takesIn K (.builtin "object.__class__") = some true)
    (z_isinstance : PySem.W.nsIn K mainGlobals "isinstance" = some none)
    (z_str : PySem.W.nsIn K mainGlobals "str" = some none)
    (z_tuple : PySem.W.nsIn K mainGlobals "tuple" = some none)
    (z_list : PySem.W.nsIn K mainGlobals "list" = some none)
    (z_bool : PySem.W.nsIn K mainGlobals "bool" = some none)
    (z_len : PySem.W.nsIn K mainGlobals "len" = some none)
    (z_all : PySem.W.nsIn K mainGlobals "all" = some none)
    (z_int : PySem.W.nsIn K mainGlobals "int" = some none)
    (z_abs : PySem.W.nsIn K mainGlobals "abs" = some none)
    (z_max : PySem.W.nsIn K mainGlobals "max" = some none)
    (z_min : PySem.W.nsIn K mainGlobals "min" = some none)
    (z_range : PySem.W.nsIn K mainGlobals "range" = some none)
    (z_zip : PySem.W.nsIn K mainGlobals "zip" = some none)
    (z_sorted : PySem.W.nsIn K mainGlobals "sorted" = some none)
    (z_set : PySem.W.nsIn K mainGlobals "set" = some none)
    (z_repr : PySem.W.nsIn K mainGlobals "repr" = some none)
    (z_ValueError : PySem.W.nsIn K mainGlobals "ValueError" = some none)
    (z_KeyError : PySem.W.nsIn K mainGlobals "KeyError" = some none)
    (z_IndexError : PySem.W.nsIn K mainGlobals "IndexError" = some none)
    (z_LookupError : PySem.W.nsIn K mainGlobals "LookupError" = some none)
    (z_ArithmeticError : PySem.W.nsIn K mainGlobals "ArithmeticError" = some none)
    (z_OverflowError : PySem.W.nsIn K mainGlobals "OverflowError" = some none)
    : ∃ fd tabs sp, LawG l w K 6 63 "_law_script" mg fa h fd tabs sp := by
  have e := hfa.symm.trans (PySem.W.mg_of X G a7)
  cases e
  have T : Nm K mg := ⟨PySem.W.mg_none_of X G z_isinstance, PySem.W.mg_none_of X G z_str, PySem.W.mg_none_of X G z_tuple, PySem.W.mg_none_of X G z_list, PySem.W.mg_none_of X G z_bool, PySem.W.mg_none_of X G z_len, PySem.W.mg_none_of X G z_all, PySem.W.mg_none_of X G z_int, PySem.W.mg_none_of X G z_abs, PySem.W.mg_none_of X G z_max, PySem.W.mg_none_of X G z_min, PySem.W.mg_none_of X G z_range, PySem.W.mg_none_of X G z_zip, PySem.W.mg_none_of X G z_sorted, PySem.W.mg_none_of X G z_set⟩
  let cs : Nat → Addr := fun i => [C0, C1, C2, C3, C4, C5, C6, C7, C8, C9, C10].getD i C0
  have GL : Globs mg cs := ⟨PySem.W.mg_of X G gc0, PySem.W.mg_of X G gc1, PySem.W.mg_of X G gc2, PySem.W.mg_of X G gc3, PySem.W.mg_of X G gc4, PySem.W.mg_of X G gc5, PySem.W.mg_of X G gc6, PySem.W.mg_of X G gc7, PySem.W.mg_of X G gc8, PySem.W.mg_of X G gc9, PySem.W.mg_of X G gc10, PySem.W.mg_none_of X G z_ValueError, PySem.W.mg_none_of X G z_KeyError, PySem.W.mg_none_of X G z_IndexError, PySem.W.mg_none_of X G z_LookupError, PySem.W.mg_none_of X G z_ArithmeticError, PySem.W.mg_none_of X G z_OverflowError⟩
  have KD : Kinds K cs := kinds_of kb qhn qht
  have B : Plain K cs := ⟨px0, px1, px2, px3, px4, pk0, pk1, pk2, pk3, pk4⟩
  have F1 := fun_mk (st := s_law_numbers) l1 c1 k1
  have b1 := F1.binds (ps := ["_law_script", "_law_at"]) fun _ _ _ _ _ _ us hl => match us, hl with | [_, _], _ => rfl
  have F2 := fun_mk (st := s_law_cast) l2 c2 k2
  have b2 := F2.binds (ps := ["_law_die", "_law_total"]) fun _ _ _ _ _ _ us hl => match us, hl with | [_, _], _ => rfl
  have F3 := fun_mk (st := s_law_pick) l3 c3 k3
  have b3 := F3.binds (ps := ["_law_die", "_law_items"]) fun _ _ _ _ _ _ us hl => match us, hl with | [_, _], _ => rfl
  have F4 := fun_mk (st := s_law_of_hands) l4 c4 k4
  have b4 := F4.binds (ps := ["_law_error"]) fun _ _ _ _ _ _ us hl => match us, hl with | [_], _ => rfl
  have F5 := fun_mk (st := s_law_of_others) l5 c5 k5
  have b5 := F5.binds (ps := ["_law_error"]) fun _ _ _ _ _ _ us hl => match us, hl with | [_], _ => rfl
  have F6 := fun_mk (st := s_law_right) l6 c6 k6
  have b6 := F6.binds (ps := ["_law_die"]) fun _ _ _ _ _ _ us hl => match us, hl with | [_], _ => rfl
  have F7 := fun_mk (st := slaw) l7 c7 k7
  have b7 := F7.binds (ps := ["_law_script"]) fun _ _ _ _ _ _ us hl => match us, hl with | [_], _ => rfl
  have F8 := fun_mk (st := sParseError__init__) l8 c8 k8
  have b8 := F8.binds (ps := ["self", "line"]) fun _ _ _ _ _ _ us hl => match us, hl with | [_, _], _ => rfl
  have F9 := fun_mk (st := sUnknownName__init__) l9 c9 k9
  have b9 := F9.binds (ps := ["self", "name"]) fun _ _ _ _ _ _ us hl => match us, hl with | [_, _], _ => rfl
  have F10 := fun_mk (st := sInvalidNumber__init__) l10 c10 k10
  have b10 := F10.binds (ps := ["self", "value"]) fun _ _ _ _ _ _ us hl => match us, hl with | [_, _], _ => rfl
  have F11 := fun_mk (st := sNothingToUndo__init__) l11 c11 k11
  have b11 := F11.binds (ps := ["self", "many"]) fun _ _ _ _ _ _ us hl => match us, hl with | [_, _], _ => rfl
  have F12 := fun_mk (st := sRefused__init__) l12 c12 k12
  have b12 := F12.binds (ps := ["self", "name"]) fun _ _ _ _ _ _ us hl => match us, hl with | [_, _], _ => rfl
  have F13 := fun_mk (st := sTooMany__init__) l13 c13 k13
  have b13 := F13.binds (ps := ["self", "limit"]) fun _ _ _ _ _ _ us hl => match us, hl with | [_, _], _ => rfl
  refine ⟨PySem.W.fnOf "law" "law" (defArgs slaw) (defBody slaw) (defScope slaw) .none kV7 dc7 pm7 an7 cd7 ct7, [], spLaw0 K, (fun _ h => nomatch h), (fun _ h => nomatch h), (fun _ h => nomatch h), fun s v => .of_eq rfl, fun H a ns hl _ _ hS => ⟨a, ns, rfl, hS, hl, fun _ => rfl⟩, fun base _ _ _ hs => ?_⟩
  have W5 : OexW K C5 "ValueError.__new__" [.type "ValueError", .type "Exception", .type "BaseException", .type "object"] := ⟨om5, oo5, oh5, os5, oe5, ot5, ok5, base_Value⟩
  have Er5 : ErrC l.prog w K mg base "ParseError" (cs 5) "line" := ⟨⟨_, _, _, _, W5, a8, ty8, ok_ParseErrorI F8 W5 on5, b8⟩, PySem.W.mg_of X G gc5, on5⟩
  have W6 : OexW K C6 "LookupError.__new__" [.type "KeyError", .type "LookupError", .type "Exception", .type "BaseException", .type "object"] := ⟨om6, oo6, oh6, os6, oe6, ot6, ok6, base_Key⟩
  have Er6 : ErrC l.prog w K mg base "UnknownName" (cs 6) "name" := ⟨⟨_, _, _, _, W6, a9, ty9, ok_UnknownNameI F9 W6 on6, b9⟩, PySem.W.mg_of X G gc6, on6⟩
  have W7 : OexW K C7 "IndexError.__new__" [.type "IndexError", .type "LookupError", .type "Exception", .type "BaseException", .type "object"] := ⟨om7, oo7, oh7, os7, oe7, ot7, ok7, base_Index⟩
  have Er7 : ErrC l.prog w K mg base "InvalidNumber" (cs 7) "value" := ⟨⟨_, _, _, _, W7, a10, ty10, ok_InvalidNumberI F10 W7 on7, b10⟩, PySem.W.mg_of X G gc7, on7⟩
  have W8 : OexW K C8 "LookupError.__new__" [.type "LookupError", .type "Exception", .type "BaseException", .type "object"] := ⟨om8, oo8, oh8, os8, oe8, ot8, ok8, base_Lookup⟩
  have Er8 : ErrC l.prog w K mg base "NothingToUndo" (cs 8) "many" := ⟨⟨_, _, _, _, W8, a11, ty11, ok_NothingToUndoI F11 W8 on8, b11⟩, PySem.W.mg_of X G gc8, on8⟩
  have W9 : OexW K C9 "ArithmeticError.__new__" [.type "ArithmeticError", .type "Exception", .type "BaseException", .type "object"] := ⟨om9, oo9, oh9, os9, oe9, ot9, ok9, base_Arith⟩
  have Er9 : ErrC l.prog w K mg base "Refused" (cs 9) "name" := ⟨⟨_, _, _, _, W9, a12, ty12, ok_RefusedI F12 W9 on9, b12⟩, PySem.W.mg_of X G gc9, on9⟩
  have W10 : OexW K C10 "OverflowError.__new__" [.type "OverflowError", .type "ArithmeticError", .type "Exception", .type "BaseException", .type "object"] := ⟨om10, oo10, oh10, os10, oe10, ot10, ok10, base_Over⟩
  have Er10 : ErrC l.prog w K mg base "TooMany" (cs 10) "limit" := ⟨⟨_, _, _, _, W10, a13, ty13, ok_TooManyI F13 W10 on10, b13⟩, PySem.W.mg_of X G gc10, on10⟩
  have C__law_numbers : Cal l.prog w K mg base 1 "_law_numbers" ["_law_script", "_law_at"] (spNumbers K) := ⟨_, _, ok_l_numbers F1 T, PySem.W.mg_of X G a1, k1, b1⟩
  have C__law_cast : Cal l.prog w K mg base 1 "_law_cast" ["_law_die", "_law_total"] (spCast) := ⟨_, _, ok_l_cast F2 T, PySem.W.mg_of X G a2, k2, b2⟩
  have C__law_pick : Cal l.prog w K mg base 2 "_law_pick" ["_law_die", "_law_items"] (spPick K) := ⟨_, _, ok_l_pick F3 T C__law_cast, PySem.W.mg_of X G a3, k3, b3⟩
  have C__law_of_hands : Cal l.prog w K mg base 1 "_law_of_hands" ["_law_error"] (spHands cs) := ⟨_, _, ok_l_of_hands F4 T GL KD, PySem.W.mg_of X G a4, k4, b4⟩
  have C__law_of_others : Cal l.prog w K mg base 1 "_law_of_others" ["_law_error"] (spOthers cs) := ⟨_, _, ok_l_of_others F5 T GL KD, PySem.W.mg_of X G a5, k5, b5⟩
  have C__law_right : CalG l.prog w K mg base 4 "_law_right" ["_law_die"] (spRight0) := ⟨⟨_, _, ok_l_right F6 T (PySem.W.mg_none_of X G z_repr) hs GL KD B Er5 Er6 Er7 Er8 Er9 Er10 C__law_pick C__law_of_hands C__law_of_others, PySem.W.mg_of X G a6, k6, b6⟩⟩
  exact ok_law F7 T C__law_numbers C__law_right
end FS

set_option Elab.async false
set_option linter.all false
set_option maxRecDepth 100000
open PySem PySem.W PyProof.Rows
set_option maxHeartbeats 0 in
theorem PySem.Challenge.cw_blockshanded_k00_errors_and_what_they_ke_holds : PySem.Challenge.rw_blockshanded_k00_errors_and_what_they_ke.Holds := by
  w_on; o_law; k_head; (case hw => w_witness2)
  k_fill
  refine FS.walk_G (l := PySem.Challenge.rw_blockshanded_k00_errors_and_what_they_ke) (n := 63) (k := 6) (x := "_law_script") rfl (by decide) rfl ⟨rfl, by decide, by decide⟩ (by decide +kernel) (fun w h Y => kIn_of Y) ?F
  case F =>
    intro w mg fa h Y KX G hmg
    refine' FS.all_mk KX G hmg ?gc0 ?gc1 ?gc2 ?gc3 ?gc4 ?gc5 ?gc6 ?gc7 ?gc8 ?gc9 ?gc10 ?a1 ?l1 ?c1 ?k1 ?a2 ?l2 ?c2 ?k2 ?a3 ?l3 ?c3 ?k3 ?a4 ?l4 ?c4 ?k4 ?a5 ?l5 ?c5 ?k5 ?a6 ?l6 ?c6 ?k6 ?a7 ?l7 ?c7 ?k7 ?a8 ?ty8 ?l8 ?c8 ?k8 ?a9 ?ty9 ?l9 ?c9 ?k9 ?a10 ?ty10 ?l10 ?c10 ?k10 ?a11 ?ty11 ?l11 ?c11 ?k11 ?a12 ?ty12 ?l12 ?c12 ?k12 ?a13 ?ty13 ?l13 ?c13 ?k13 ?om5 ?oo5 ?oh5 ?os5 ?oe5 ?ot5 ?ok5 ?on5 ?om6 ?oo6 ?oh6 ?os6 ?oe6 ?ot6 ?ok6 ?on6 ?om7 ?oo7 ?oh7 ?os7 ?oe7 ?ot7 ?ok7 ?on7 ?om8 ?oo8 ?oh8 ?os8 ?oe8 ?ot8 ?ok8 ?on8 ?om9 ?oo9 ?oh9 ?os9 ?oe9 ?ot9 ?ok9 ?on9 ?om10 ?oo10 ?oh10 ?os10 ?oe10 ?ot10 ?ok10 ?on10 ?px0 ?pk0 ?px1 ?pk1 ?px2 ?pk2 ?px3 ?pk3 ?px4 ?pk4 ?kb ?qhn ?qht ?z_isinstance ?z_str ?z_tuple ?z_list ?z_bool ?z_len ?z_all ?z_int ?z_abs ?z_max ?z_min ?z_range ?z_zip ?z_sorted ?z_set ?z_repr ?z_ValueError ?z_KeyError ?z_IndexError ?z_LookupError ?z_ArithmeticError ?z_OverflowError
    (case gc0 => k_is)
    (case gc1 => k_is)
    (case gc2 => k_is)
    (case gc3 => k_is)
    (case gc4 => k_is)
    (case gc5 => k_is)
    (case gc6 => k_is)
    (case gc7 => k_is)
    (case gc8 => k_is)
    (case gc9 => k_is)
    (case gc10 => k_is)
    (case a1 => k_is)
    (case l1 => k_is)
    (case c1 => k_is)
    (case k1 => k_is)
    (case a2 => k_is)
    (case l2 => k_is)
    (case c2 => k_is)
    (case k2 => k_is)
    (case a3 => k_is)
    (case l3 => k_is)
    (case c3 => k_is)
    (case k3 => k_is)
    (case a4 => k_is)
    (case l4 => k_is)
    (case c4 => k_is)
    (case k4 => k_is)
    (case a5 => k_is)
    (case l5 => k_is)
    (case c5 => k_is)
    (case k5 => k_is)
    (case a6 => k_is)
    (case l6 => k_is)
    (case c6 => k_is)
    (case k6 => k_is)
    (case a7 => k_is)
    (case l7 => k_is)
    (case c7 => k_is)
    (case k7 => k_is)
    (case a8 => k_is)
    (case ty8 => k_is)
    (case l8 => k_is)
    (case c8 => k_is)
    (case k8 => k_is)
    (case a9 => k_is)
    (case ty9 => k_is)
    (case l9 => k_is)
    (case c9 => k_is)
    (case k9 => k_is)
    (case a10 => k_is)
    (case ty10 => k_is)
    (case l10 => k_is)
    (case c10 => k_is)
    (case k10 => k_is)
    (case a11 => k_is)
    (case ty11 => k_is)
    (case l11 => k_is)
    (case c11 => k_is)
    (case k11 => k_is)
    (case a12 => k_is)
    (case ty12 => k_is)
    (case l12 => k_is)
    (case c12 => k_is)
    (case k12 => k_is)
    (case a13 => k_is)
    (case ty13 => k_is)
    (case l13 => k_is)
    (case c13 => k_is)
    (case k13 => k_is)
    (case oh5 => k_is)
    (case os5 => k_is)
    (case oe5 => k_is)
    (case ot5 => k_is)
    (case ok5 => k_is)
    (case on5 => k_is)
    (case oh6 => k_is)
    (case os6 => k_is)
    (case oe6 => k_is)
    (case ot6 => k_is)
    (case ok6 => k_is)
    (case on6 => k_is)
    (case oh7 => k_is)
    (case os7 => k_is)
    (case oe7 => k_is)
    (case ot7 => k_is)
    (case ok7 => k_is)
    (case on7 => k_is)
    (case oh8 => k_is)
    (case os8 => k_is)
    (case oe8 => k_is)
    (case ot8 => k_is)
    (case ok8 => k_is)
    (case on8 => k_is)
    (case oh9 => k_is)
    (case os9 => k_is)
    (case oe9 => k_is)
    (case ot9 => k_is)
    (case ok9 => k_is)
    (case on9 => k_is)
    (case oh10 => k_is)
    (case os10 => k_is)
    (case oe10 => k_is)
    (case ot10 => k_is)
    (case ok10 => k_is)
    (case on10 => k_is)
    (case pk0 => k_is)
    (case pk1 => k_is)
    (case pk2 => k_is)
    (case pk3 => k_is)
    (case pk4 => k_is)
    (case qhn => k_is)
    (case qht => k_is)
    (case z_isinstance => k_is)
    (case z_str => k_is)
    (case z_tuple => k_is)
    (case z_list => k_is)
    (case z_bool => k_is)
    (case z_len => k_is)
    (case z_all => k_is)
    (case z_int => k_is)
    (case z_abs => k_is)
    (case z_max => k_is)
    (case z_min => k_is)
    (case z_range => k_is)
    (case z_zip => k_is)
    (case z_sorted => k_is)
    (case z_set => k_is)
    (case z_repr => k_is)
    (case z_ValueError => k_is)
    (case z_KeyError => k_is)
    (case z_IndexError => k_is)
    (case z_LookupError => k_is)
    (case z_ArithmeticError => k_is)
    (case z_OverflowError => k_is)
    (case om5 => kernel_rfl)
    (case oo5 => kernel_rfl)
    (case om6 => kernel_rfl)
    (case oo6 => kernel_rfl)
    (case om7 => kernel_rfl)
    (case oo7 => kernel_rfl)
    (case om8 => kernel_rfl)
    (case oo8 => kernel_rfl)
    (case om9 => kernel_rfl)
    (case oo9 => kernel_rfl)
    (case om10 => kernel_rfl)
    (case oo10 => kernel_rfl)
    (case px0 => kernel_rfl)
    (case px1 => kernel_rfl)
    (case px2 => kernel_rfl)
    (case px3 => kernel_rfl)
    (case px4 => kernel_rfl)
    (case kb => kernel_rfl)

