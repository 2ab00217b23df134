import PyProof.Rows.All
import Wide.All
import OpenK.AllK
import Wide.FinOn
import KE.KStateDown
import Lean
import HandS.ForMost
import HandS.ForExc
import HandS.Defaults
import HandS.Head0
import HandS.Head1
import HandS.Head2
import HandS.HeadEnd
import HandS.HeadHook1
import HandS.HeadHook2
import HandS.HeadHook3
import HandS.HeadNt
import HandS.ClsMeth
import HandS.Star
import HandS.Property
import HandS.OwnEq
import HandS.IsInst
import HandS.StrMore
import HandS.FStr
import HandS.Zip
import HandS.Flow
import HandS.Small
import HandS.ExcOwn
import HandS.List
import HandS.Style
import HandS.Evl
import HandS.RaiseMore
import HandS.ExcInit
import HandS.TryMany
import HandS.ExcField
import HandS.ExcValue
import KE.KParD
import KE.KDictZip
import HandS.HotCalls
import KE.KTryMore
import PyProof.WalkInts
import HandS.TupLe
import HandS.MakeKwOnly
import KE.KExcInit
import PyProof.ExcFactsAll.TypeError
import PyProof.ExcFactsAll.LookupError
import PyProof.ExcFactsAll.OverflowError
import PyProof.ExcFactsAll.RuntimeError
import KE.KMinKey
import HandS.Iter
import HandS.SortKw
import PyProof.StrOps2
import PyProof.Rows.StrLast
import PyProof.ListStr
import PyProof.Rows.StrIntSpec
import HandS.DictComp
import PyProof.ReprRoads
import HandS.Ends
import PyProof.StrLawsRepr
import PySem.Challenge.RW_urlplaces_k40_whole_only_the_directory_c
set_option Elab.async false
set_option linter.all false
set_option maxRecDepth 100000
set_option maxHeartbeats 0
/-! Xb: the head's facts over ALL addresses below n (the closure by names costs memory), any further Bool of the fragment, tables with text keys. -/
namespace Xb
open PySem PySem.Spec PyProof.Rows L2
abbrev Al : Type := He.AlD × List (Option (List (Option (Str × Int)))) × Bool
def obs (fa : List He.Fa) (fn : List He5.DefA) (ts : List He.Tab) (ex : List (PySem.W.Frag → Bool)) (K : PySem.W.Frag) : Al :=
  (He5.obsA fa fn K, ts.map fun t => He.dicW K (t.1 K), ex.all fun e => e K)
def val (fn : List He5.DefA) (ts : List He.Tab) (w : World) : Al := (He5.valA fn, ts.map fun t => some (He.keysIn w.params t.2), true)
def Says (fa : List He.Fa) (fn : List He5.DefA) (ts : List He.Tab) (ex : List (PySem.W.Frag → Bool)) (w : World) (K : PySem.W.Frag) : Prop := obs fa fn ts ex K = val fn ts w
def obsG (n : Nat) (fa : List He.Fa) (fn : List He5.DefA) (ts : List He.Tab) (ex : List (PySem.W.Frag → Bool)) (g : Addr → Option Obj) : Al := obs fa fn ts ex (He.frG g (List.range n))
def hook (n : Nat) (fa : List He.Fa) (fn : List He5.DefA) (ts : List He.Tab) (ex : List (PySem.W.Frag → Bool)) : PySem.W.Hook where
  α := Al
  obs := fun s => obsG n fa fn ts ex s.heap.get?
  val := fun w => val fn ts w
  says := fun w h => ∃ K : PySem.W.Frag, K.In h ∧ Says fa fn ts ex w K
  of := fun _ _ e => ⟨_, He.frG_in, e⟩
  keeps := fun _ _ _ ⟨K, hK, c⟩ k => ⟨K, PySem.W.Frag.In.keeps hK k, c⟩
theorem obsG_eq {n : Nat} {fa : List He.Fa} {fn : List He5.DefA} {ts : List He.Tab} {ex : List (PySem.W.Frag → Bool)} {g : Addr → Option Obj} {s : Shared} (h : ∀ a, g a = s.heap.get? a) : obsG n fa fn ts ex g = (hook n fa fn ts ex).obs s := by
  have e : g = s.heap.get? := funext h
  rw [e] <;> rfl
section
variable {fa : List He.Fa} {fn : List He5.DefA} {ts : List He.Tab} {ex : List (PySem.W.Frag → Bool)} {w : World} {K : PySem.W.Frag}
theorem Says.a (c : Says fa fn ts ex w K) : He5.SaysA fa fn K := congrArg (fun z : Al => z.1) c
theorem Says.fact (c : Says fa fn ts ex w K) (i : Nat) {f : He.Fa} (h : fa[i]? = some f := by rfl) : f.ok K = true := c.a.fact i h
theorem Says.def_ (c : Says fa fn ts ex w K) (i : Nat) {d : He5.DefA} (h : fn[i]? = some d := by rfl) : ∃ fd, FunD K d.name d.qual d.params d.body d.scope (d.dvs K) (d.kws K) (d.at_ K) fd := c.a.def_ i h
theorem Says.tab (c : Says fa fn ts ex w K) (i : Nat) {t : He.Tab} (h : ts[i]? = some t := by rfl) : ∃ es n, KDict K w (t.1 K) es n := by
  have e : ts.map (fun t => He.dicW K (t.1 K)) = ts.map fun t => some (He.keysIn w.params t.2) := congrArg (fun z : Al => z.2.1) c
  have e2 : (ts.map fun t => He.dicW K (t.1 K))[i]? = (ts.map fun t => some (He.keysIn w.params t.2))[i]? := by rw [e]
  rw [List.getElem?_map, List.getElem?_map, h] at e2
  exact He.dicW_ok (Option.some.inj e2)
theorem Says.more (c : Says fa fn ts ex w K) (i : Nat) {e : PySem.W.Frag → Bool} (h : ex[i]? = some e := by rfl) : e K = true := by
  have e1 : (ex.all fun e => e K) = true := congrArg (fun z : Al => z.2.2) c
  exact List.all_eq_true.mp e1 e (List.mem_of_getElem? h)
end
end Xb
set_option Elab.async false
set_option linter.all false
set_option maxRecDepth 100000
set_option maxHeartbeats 4000000
namespace Xr
open PySem PySem.Spec PyProof.Rows L2
section
variable {prog : Program} {w : World} {A : Around} {E : Value → Shared → Prop} {s : Shared}
theorem wpAny_dictPut_pairs {K : Type} [DecidableEq K] {knd : KeyKind prog w K} {d : Addr} {kvs : List (K × Value)} {k : K} {key v : Value} {Q : Unit → Shared → Prop} (hkey : knd.is k key = true) (hm : s.heap.DictOf knd d kvs)
    (hQ : ∀ h', h'.DictOf knd d (stored kvs k v) → Heap.SameBut d s.heap h' → Q () { s with heap := h' })
    (hsz : kvs.length ≤ sizeLine) : wpAny (model prog w) A (dictPut d (knd.hash k) key v) Q E s := by
  obtain ⟨o, es, ep, ho, hc, hd, hk, hp, hn⟩ := hm
  have hes : es.size ≤ sizeLine := by have e1 := hp.length; have e2 : es.toList.length = es.size := by simp
                                      omega
  unfold dictPut
  refine wpAny_bind (wpAny_dictFind_of hkey ho hd hk ?_)
  have hidx : (es.findIdx? fun e => knd.is k e.key) = kvs.findIdx? fun kv => decide (kv.1 = k) := by
    rw [← hp.findIdx k]; obtain ⟨l⟩ := es; simp
  cases hi : es.findIdx? fun e => knd.is k e.key with
  | some i =>
    refine (wpAny_updateDict ho hd (hQ _ ⟨_, _, ep, Heap.get?_update_self _ ho (Obj.isFreed_of_dict (Obj.data_mapDict hd _)),
      hc.mapDict _, Obj.data_mapDict hd _, hk.modify _ _, ?_, ?_⟩ (Heap.SameBut.update ..)))
    · rw [stored, if_pos (any_of_findIdx_some (hidx ▸ hi))]
      have hl : (es.toList.findIdx? fun e => knd.is k e.key) = some i := by rw [← hi]; obtain ⟨l⟩ := es; simp
      have := hp.modify hn hl v
      obtain ⟨l⟩ := es
      simpa using this
    · rw [stored, if_pos (any_of_findIdx_some (hidx ▸ hi)), keys_map_store]; exact hn
  | none =>
    have hnot : k ∉ kvs.map (·.1) := not_mem_of_findIdx_none (hidx ▸ hi)
    have hany : ¬ (kvs.any fun kv => decide (kv.1 = k)) = true := by
      rw [List.any_eq_true]; rintro ⟨kv, hkv, he⟩
      exact hnot (List.mem_map.mpr ⟨kv, hkv, of_decide_eq_true he⟩)
    refine (wpAny_updateDictKeys (hz := hes) ho hd (hQ _ ⟨_, _, ep + 1, Heap.get?_update_self _ ho (Obj.isFreed_of_dict (Obj.data_mapDictKeys hd _)),
      hc.mapDictKeys _, Obj.data_mapDictKeys hd _, hk.push hkey _, ?_, ?_⟩ (Heap.SameBut.update ..)))
    · rw [stored, if_neg hany]
      have := hp.append hkey (knd.hash k) v
      obtain ⟨l⟩ := es
      simpa using this
    · rw [stored, if_neg hany, List.map_append, List.nodup_append]
      refine ⟨hn, by simp, ?_⟩
      intro a ha b hb
      simp only [List.map_cons, List.map_nil, List.mem_singleton] at hb
      subst hb
      exact fun e => hnot (e ▸ ha)
theorem key_not_ref {k : Key} {v : Value} (h : (mixKind prog w).is k v = true) : ∀ b, v ≠ .ref b := fun b e => by
  subst e
  rcases keyIs_shape h with ⟨i, t, _, e⟩ | ⟨x, t, _, e⟩ <;> cases e
theorem nodup_take {α : Type} {l : List α} (h : l.Nodup) (n : Nat) : (l.take n).Nodup := h.sublist (List.take_sublist n l)
/-- merging a dict of ints and texts into another one (unique: its keys are new there) -/
theorem wpAny_mergeMapping {u : Bool} {d a : Addr} {kvs more : List (Key × Value)} {Q : Unit → Shared → Prop} (hda : d ≠ a) (haS : (a == sysModules) = false)
    (hd : s.heap.DictOf (mixKind prog w) d kvs) (ha : s.heap.DictOf (mixKind prog w) a more) (hu : u = true → ((kvs ++ more).map (·.1)).Nodup)
    (hQ : ∀ h', h'.DictOf (mixKind prog w) d (merged kvs more) → Heap.SameBut d s.heap h' → Q () { s with heap := h' })
    (hsz : kvs.length + more.length ≤ sizeLine) : wpAny (model prog w) A (mergeMapping d (.ref a) u) Q E s := by
  obtain ⟨od, esd, epd, hod, hcd, hdd, hkd, hpd, hnd⟩ := id hd
  obtain ⟨oo, eso, epo, hoo, hco, hdo', hko, hpo, hno⟩ := id ha
  have hlen : more.length = eso.size := by rw [← hpo.length]; simp
  unfold mergeMapping
  refine wpAny_bind (wpAny_isInstance ha.typeIs isSubtype_dict_dict ?_)
  simp only [if_true]
  refine wpAny_bind (wpAny_specialOf ha.typeIs F.slot_dict_iter.lookup (wpAny_bind (wpAny_pure ?_)))
  simp only [beq_self_eq_true]
  rw [if_neg (by rw [haS]; exact Bool.false_ne_true)]
  refine wpAny_bind (wpAny_dictEntries hod hdd ?_)
  have loop : wpAny (model prog w) A (do
      let l ← dictEntries a
      let epoch ← dictEpoch a
      forIn (List.range l.size) PUnit.unit fun i (__s : PUnit) => (do
          let l' ← dictEntries a
          match l'[i]? with
            | some e => do
              holding [e.key, e.val]
                  (have __do_jp := fun (__r : PUnit) => dictPut d e.hash e.key e.val;
                  if u = true then do
                    let f ← dictFind d e.key e.hash
                    if f.isSome = true then do
                        rule "dict.merge.duplicate-key"
                        let x ← newExc (Value.type "KeyError") [e.key]
                        let __r ← raiseNew x
                        __do_jp __r
                      else __do_jp ()
                  else __do_jp ())
              let ep' ← dictEpoch a
              if (ep' != epoch) = true then do
                  (unsupported "dict.changed-during-merge" : Sem PUnit)
                  pure (ForInStep.yield PUnit.unit)
                else pure (ForInStep.yield PUnit.unit)
            | _ => do
              (unsupported "dict.changed-during-merge" : Sem PUnit)
              pure (ForInStep.yield PUnit.unit) : Sem (ForInStep PUnit))
      pure ()) Q E s := by
    refine wpAny_bind (wpAny_dictEntries hoo hdo' ?_)
    refine wpAny_bind (wpAny_dictEpoch hoo hdo' ?_)
    refine wpAny_bind ?_
    rw [List.range_eq_range']
    refine wpAny_forIn_list _
      (fun rest _ s' => ∃ h' i, s' = { s with heap := h' } ∧ rest = List.range' i (eso.size - i) ∧ i ≤ eso.size ∧ h'.DictOf (mixKind prog w) d (merged kvs (more.take i)) ∧ h'.get? a = some oo ∧ Heap.SameBut d s.heap h')
      _ ?_ ?_ _ _ ⟨s.heap, 0, rfl, by simp, Nat.zero_le _, by simpa [merged] using hd, hoo, Heap.SameBut.refl _ _⟩
    · rintro x rest b s' ⟨h', i, rfl, hr, hi, hd', hoo', hs'⟩
      have hlt : i < eso.size := by
        rcases Nat.lt_or_ge i eso.size with h | h
        · exact h
        · rw [Nat.sub_eq_zero_of_le h] at hr; simp at hr
      obtain ⟨rfl, hrest⟩ : x = i ∧ rest = List.range' (i + 1) (eso.size - (i + 1)) := by
        have e : eso.size - i = (eso.size - (i + 1)) + 1 := by omega
        rw [e, List.range'_succ] at hr
        injection hr with h1 h2
        exact ⟨h1, h2⟩
      refine wpAny_bind (wpAny_dictEntries hoo' hdo' ?_)
      rw [Array.getElem?_eq_getElem hlt]
      obtain ⟨kv, hkv⟩ : ∃ kv, more[x]? = some kv := ⟨more[x]'(by rw [hlen]; exact hlt), List.getElem?_eq_getElem _⟩
      obtain ⟨k, v⟩ := kv
      obtain ⟨hkey, hval⟩ := hpo.get? (e := eso[x]) (by simp [hlt]) hkv
      obtain ⟨k', hkey', hhash⟩ := hko eso[x] (Array.getElem_mem hlt)
      obtain rfl : k' = k := (mixKind prog w).inj _ _ _ hkey' hkey
      dsimp only
      rw [hhash, hval]
      have hmx : (merged kvs (more.take x)).length ≤ sizeLine := by
        have e1 := merged_length_le kvs (more.take x)
        have e2 : (more.take x).length ≤ more.length := by simp; omega
        omega
      have put : ∀ (Q' : Unit → Shared → Prop), (∀ h'', h''.DictOf (mixKind prog w) d (merged kvs (more.take (x + 1))) → Heap.SameBut d h' h'' → Q' () { s with heap := h'' }) →
          wpAny (model prog w) A (dictPut d ((mixKind prog w).hash k') eso[x].key v) Q' E { s with heap := h' } := fun Q' hq' => by
        refine wpAny_dictPut_pairs (s := { s with heap := h' }) hkey hd' (fun h'' hd'' hs'' => ?_) hmx
        refine hq' h'' ?_ hs''
        rw [merged_take_succ kvs more x (k', v) hkv]
        exact hd''
      have fin : ∀ (P : ForInStep PUnit → Shared → Prop) h'', h''.DictOf (mixKind prog w) d (merged kvs (more.take (x + 1))) → Heap.SameBut d h' h'' →
          ((∃ h' i, ({ s with heap := h'' } : Shared) = { s with heap := h' } ∧ rest = List.range' i (eso.size - i) ∧ i ≤ eso.size ∧ h'.DictOf (mixKind prog w) d (merged kvs (more.take i)) ∧ h'.get? a = some oo ∧ Heap.SameBut d s.heap h') → P (.yield PUnit.unit) { s with heap := h'' }) →
          wpAny (model prog w) A (do
              let ep' ← dictEpoch a
              if (ep' != epo) = true then do
                  (unsupported "dict.changed-during-merge" : Sem PUnit)
                  pure (ForInStep.yield PUnit.unit)
                else pure (ForInStep.yield PUnit.unit)) P E { s with heap := h'' } := fun P h'' hd'' hs'' hP => by
        have ho'' : h''.get? a = some oo := (hs''.2 a (Ne.symm hda)).trans hoo'
        refine wpAny_bind (wpAny_dictEpoch (s := { s with heap := h'' }) ho'' hdo' ?_)
        rw [if_neg (by simp)]
        exact wpAny_pure (hP ⟨h'', x + 1, rfl, hrest, hlt, hd'', ho'', hs'.trans hs''⟩)
      refine wpAny_bind (wpAny_holding ?_)
      by_cases hub : u = true
      · rw [if_pos hub]
        obtain ⟨od', esd', epd', hod', hcd', hdd', hkd', hpd', hnd'⟩ := id hd'
        refine wpAny_bind (wpAny_dictFind_of (s := { s with heap := h' }) hkey hod' hdd' hkd' ?_)
        have hN := hu hub
        have hm : merged kvs (more.take x) = kvs ++ more.take x := merged_append_of_fresh _ _ (by
          refine hN.sublist ?_
          exact List.Sublist.map _ (List.Sublist.append_left (List.take_sublist _ _) _))
        have hnone : (esd'.findIdx? fun e => (mixKind prog w).is k' e.key) = none := by
          have e1 : (esd'.findIdx? fun e => (mixKind prog w).is k' e.key) = (merged kvs (more.take x)).findIdx? fun kv => decide (kv.1 = k') := by
            rw [← hpd'.findIdx k']; obtain ⟨l⟩ := esd'; simp
          rw [e1, hm, List.findIdx?_eq_none_iff]
          intro kv hkv'
          refine decide_eq_false fun e => ?_
          have hsplit : kvs ++ more = (kvs ++ more.take x) ++ more.drop x := by rw [List.append_assoc, List.take_append_drop]
          rw [hsplit, List.map_append, List.nodup_append] at hN
          refine hN.2.2 kv.1 (List.mem_map.mpr ⟨kv, hkv', rfl⟩) k' ?_ e
          have hx : x < more.length := by rw [hlen]; exact hlt
          have hd0 : more.drop x = (k', v) :: more.drop (x + 1) := by
            rw [List.drop_eq_getElem_cons hx]
            congr 1
            exact Option.some.inj ((List.getElem?_eq_getElem hx).symm.trans hkv)
          rw [hd0]
          exact List.mem_map.mpr ⟨(k', v), List.mem_cons_self, rfl⟩
        rw [hnone]
        simp only [Option.isSome_none, Bool.false_eq_true, if_false]
        exact put _ fun h'' q1 q2 => fin _ h'' q1 q2 id
      · rw [if_neg hub]
        exact put _ fun h'' q1 q2 => fin _ h'' q1 q2 id
    · rintro b s' ⟨h', i, rfl, hr, hi, hd', hoo', hs'⟩
      have : i = eso.size := by
        have e := congrArg List.length hr.symm
        simp at e; omega
      subst this
      rw [← hlen, List.take_length] at hd'
      exact wpAny_pure (hQ h' hd' hs')
  by_cases hemp : esd.isEmpty = true
  · rw [if_pos hemp]
    refine wpAny_bind (wpAny_dictEntries hoo hdo' ?_)
    refine wpAny_bind ?_
    refine MeetsSeq2.wpAny_forIn_array _ (fun rest _ s' => s' = s ∧ ∀ e ∈ rest, e ∈ eso.toList) _ ?_ ?_ _ _ ⟨rfl, fun e he => he⟩
    · rintro e rest b s' ⟨rfl, hall⟩
      have he := hall e List.mem_cons_self
      obtain ⟨k, hk, _⟩ := hko e (Array.mem_def.mpr he)
      have hnr := key_not_ref hk
      cases hke : e.key with
      | ref b' => exact absurd hke (hnr b')
      | _ => exact wpAny_pure ⟨rfl, fun e' he' => hall e' (List.mem_cons_of_mem _ he')⟩
    · rintro b s' ⟨rfl, _⟩
      exact loop
  · rw [if_neg hemp]
    exact loop
end
end Xr
set_option Elab.async false
set_option linter.all false
set_option maxRecDepth 100000
set_option maxHeartbeats 4000000
namespace Xr
open PySem PySem.Spec PyProof.Rows L2
section
variable {prog : Program} {w : World} {A : Around} {E : Value → Shared → Prop} {s : Shared}
/-- the entries' names and values, as keywords -/
def kwOf : List (Key × Value) → Option (List (Str × Value))
  | [] => some []
  | (.inr x, v) :: r => (kwOf r).map ((x, v) :: ·)
  | (.inl _, _) :: _ => none
theorem mergedKw {f : Value} {t : Sem Value} {Q : Addr → Shared → Prop}
    (h : wpAny (model prog w) A t (fun v s1 => ∃ (a : Addr) (more : List (Key × Value)), v = .ref a ∧ (a == sysModules) = false ∧ s.heap.objs.size ≠ a ∧ s1.heap.DictOf (mixKind prog w) s.heap.objs.size [] ∧ s1.heap.DictOf (mixKind prog w) a more ∧ (more.map (·.1)).Nodup ∧ more.length ≤ sizeLine ∧
      ∀ h', h'.DictOf (mixKind prog w) s.heap.objs.size more → Heap.SameBut s.heap.objs.size s1.heap h' → Q s.heap.objs.size { s1 with heap := h' }) E { s with heap := s.heap.push { cls := .type "dict", data := .dict #[] } }) :
    wpAny (model prog w) A (mergedKeywords f [(none, t)]) Q E s := by
  delta mergedKeywords
  refine wpAny_bind (wpAny_alloc ?_)
  refine wpAny_bind (wpAny_holding ?_)
  dsimp only
  rw [List.forIn_cons]
  refine wpAny_bind (wpAny_bind ?_)
  dsimp only
  rw [if_pos (by rfl)]
  refine wpAny_bind (wpAny_pure ?_)
  refine wpAny_bind (wpAny_mono h (fun v s1 hv => ?_) fun _ _ x => x)
  obtain ⟨a, more, rfl, hS, hne, hd, ha, hn, hz, hq⟩ := hv
  refine wpAny_bind (wpAny_onRaise (wpAny_holding (wpAny_tryCatch (wpAny_onRaise (wpAny_mergeMapping (kvs := []) (more := more) hne hS hd ha (fun _ => hn) (fun h' hd' hs' => ?_) (by simpa using hz))))))
  refine wpAny_pure ?_
  dsimp only
  rw [List.forIn_nil]
  refine wpAny_pure ?_
  rw [if_pos (by rfl)]
  refine wpAny_pure (wpAny_pure ?_)
  rw [merged_nil_of_nodup more hn] at hd'
  exact hq h' hd' hs'
theorem keywordsIn_ok {f : Value} {d : Addr} {more : List (Key × Value)} {kw : List (Str × Value)} {Q : List (Str × Value) → Shared → Prop} (hd : s.heap.DictOf (mixKind prog w) d more) (hk : kwOf more = some kw) (hq : Q kw s) :
    wpAny (model prog w) A (keywordsIn f d) Q E s := by
  obtain ⟨o, es, ep, ho, hc, hdat, hke, hp, hn⟩ := hd
  delta keywordsIn
  dsimp only
  refine wpAny_bind (wpAny_dictEntries ho hdat ?_)
  refine wpAny_bind ?_
  refine MeetsSeq2.wpAny_forIn_array _ (fun rest b s' => s' = s ∧ ∃ r k2, Pairs (mixKind prog w) rest r ∧ kwOf r = some k2 ∧ b ++ k2 = kw) _ ?_ ?_ _ _ ⟨rfl, more, kw, hp, hk, rfl⟩
  · rintro e rest b s' ⟨rfl, r, k2, hpr, hkr, hb⟩
    cases hpr with
    | @cons _ kv _ kvs h1 h2 h3 =>
      obtain ⟨k, v⟩ := kv
      cases k with
      | inl i => cases hkr
      | inr x =>
        obtain ⟨tk, hx⟩ := Value.isStrOf_shape (x := x) (v := e.key) h1
        rw [hx]
        have e1 : (kwOf kvs).map ((x, v) :: ·) = some k2 := hkr
        cases e2 : kwOf kvs with
        | none => rw [e2] at e1; cases e1
        | some k3 =>
          rw [e2] at e1
          have e3 : (x, v) :: k3 = k2 := Option.some.inj e1
          refine wpAny_pure ⟨rfl, kvs, k3, h3, e2, ?_⟩
          rw [← hb, ← e3, List.append_assoc]
          have : e.val = v := h2
          rw [this]
          rfl
  · rintro b s' ⟨rfl, r, k2, hpr, hkr, hb⟩
    cases hpr
    have e1 : [] = k2 := Option.some.inj hkr
    subst e1
    rw [List.append_nil] at hb
    subst hb
    exact wpAny_pure hq
theorem evalArgs_kw {f : Value} {t : Sem Value} {Q : Args → Shared → Prop}
    (h : wpAny (model prog w) A t (fun v s1 => ∃ (a : Addr) (more : List (Key × Value)) (kw : List (Str × Value)), v = .ref a ∧ (a == sysModules) = false ∧ s.heap.objs.size ≠ a ∧ s1.heap.DictOf (mixKind prog w) s.heap.objs.size [] ∧ s1.heap.DictOf (mixKind prog w) a more ∧ (more.map (·.1)).Nodup ∧ more.length ≤ sizeLine ∧ kwOf more = some kw ∧
      ∀ h', h'.DictOf (mixKind prog w) s.heap.objs.size more → Heap.SameBut s.heap.objs.size s1.heap h' → Q ⟨[], kw⟩ { s1 with heap := h' }) E { s with heap := s.heap.push { cls := .type "dict", data := .dict #[] } }) :
    wpAny (model prog w) A (evalArgs f true [] [(none, t)]) Q E s := by
  delta evalArgs
  dsimp only
  refine wpAny_bind (PySem.Calls.spliced_nil (wpAny_bind (wpAny_pure ?_)))
  refine wpAny_holding ?_
  rw [if_neg (show ¬ ([((none : Option Str), t)].all fun x => x.fst.isSome) = true from fun z => nomatch z)]
  refine wpAny_bind (mergedKw (wpAny_mono h (fun v s1 hv => ?_) fun _ _ x => x))
  obtain ⟨a, more, kw, rfl, hS, hne, hd, ha, hn, hz, hk, hq⟩ := hv
  refine ⟨a, more, rfl, hS, hne, hd, ha, hn, hz, fun h' hd' hs' => ?_⟩
  refine wpAny_bind (wpAny_pure ?_)
  refine wpAny_bind (wpAny_holding (keywordsIn_ok (s := { s1 with heap := h' }) hd' hk (wpAny_pure (hq h' hd' hs'))))
/-- a call with one ** -/
theorem callWith_kw {f : Value} {first : List Value} {t : Sem Value} {pos : Pos} {Q : Value → Shared → Prop} {P : Heap → Prop}
    (hk : ∀ h, P h → ∃ k, (k = Keeper.frame ∨ k = Keeper.machine ∨ k = Keeper.boundFrame) ∧ PySem.W.Looks (model prog w) h (keeperOf f) k)
    (h : wpAny (model prog w) A (evalArgs f true [] [(none, t)]) (fun a s₁ => P s₁.heap ∧ wpAny (model prog w) A (call f (first ++ a.pos) a.kw) Q E s₁) E s) : wpAny (model prog w) A (callWith pos f first [] [(none, t)]) Q E s := by
  unfold callWith
  refine wpAny_bind (wpAny_holding (wpAny_mono h (fun a s₁ h₁ => wpAny_bind (wpAny_standAt ?_)) fun _ _ x => x))
  obtain ⟨k, hk', L⟩ := hk _ h₁.1
  have hst : (([] : List (Bool × Sem Value)).any (·.1) || [((none : Option Str), t)].any (·.1.isNone)) = true := rfl
  simp only [hst]
  refine wpAny_bind (L.here ?_)
  have tail : ∀ {t : Sem Value}, wpAny (model prog w) A t Q E s₁ → wpAny (model prog w) A (t >>= fun r => holding [r] point >>= fun _ => pure r) Q E s₁ :=
    fun ht => wpAny_bind (wpAny_mono ht (fun r s₂ hr => wpAny_bind (wpAny_holding (wpAny_point (wpAny_pure hr)))) fun _ _ x => x)
  have marked (mk : Value) : wpAny (model prog w) A (callMarked mk f (first ++ a.pos) a.kw) Q E s₁ := by unfold callMarked; exact Calls.wpAny_keep h₁.2
  rcases hk' with rfl | rfl | rfl <;> dsimp only <;> first | exact tail (marked _) | exact tail (wpAny_operateT h₁.2) | exact tail (PySem.W.wpAny_operating h₁.2)
end
end Xr
set_option Elab.async false
set_option linter.all false
set_option maxRecDepth 100000
set_option maxHeartbeats 4000000
namespace Xr
open PySem PySem.Spec PyProof.Rows L2
theorem lookup_append' {β : Type} (x : Str) : ∀ (l r : List (Str × β)), (l ++ r).lookup x = (l.lookup x).or (r.lookup x)
  | [], r => by simp
  | (y, v) :: l, r => by
    by_cases h : x = y
    · subst h; simp [List.lookup]
    · have e : (x == y) = false := by simpa using h
      simp only [List.cons_append, List.lookup, e]
      exact lookup_append' x l r
theorem lookup_none {β : Type} {x : Str} : ∀ {l : List (Str × β)}, x ∉ l.map (·.1) → l.lookup x = none
  | [], _ => rfl
  | (y, v) :: l, h => by
    have h1 : x ≠ y := fun e => h (by rw [e]; exact List.mem_cons_self)
    have e : (x == y) = false := by simpa using h1
    simp only [List.lookup, e]
    exact lookup_none fun hm => h (List.mem_cons_of_mem _ hm)
theorem seqNone {M : Model} {A : Around} {Q : Option (Array Value) → Shared → Prop} {E : Value → Shared → Prop} {s : Shared} (h : Q none s) : wpAny M A (seqItems? .none) Q E s := wpAny_pure h
/-- keyword-only parameters behind one positional one: any keywords of these, in any order; the others by their defaults -/
theorem bindKw {K : PySem.W.Frag} {s : Shared} {fd : FuncData} {c : Str} {kns : List Str} {D : Addr} {dv : Str → Value} {u : Value} {kw : List (Str × Value)} (X : K.In s.heap)
    (h1 : fd.params.posonlyargs.map (·.arg) = []) (h2 : fd.params.args.map (·.arg) = [c]) (h3 : fd.params.kwonlyargs.map (·.arg) = kns) (h4 : fd.params.vararg = none) (h5 : fd.params.kwarg = none) (h6 : fd.defaults = .none) (h7 : fd.kwdefaults = .ref D)
    (hk : ∀ q ∈ kw, q.1 ∈ kns) (hn : (kw.map (·.1)).Nodup) (hc : c ∉ kns) (hkn : kns.Nodup) (hD : ∀ n ∈ kns, PySem.W.nsIn K D n = some (some (dv n))) :
    BindsTo s fd ⟨[u], kw⟩ ((c, u) :: kns.map fun n => (n, (kw.lookup n).getD (dv n))) := by
  intro M A E Q hq
  delta bindArgs
  dsimp only
  rw [h1, h2, h3, h4, h5, h6, h7]
  refine wpAny_bind ?_
  refine wpAny_forIn_list _ (fun rest b s' => s' = s ∧ ∃ done, kw = done ++ rest ∧ b = ((c, u) :: done, [])) _ ?_ ?_ _ _ ⟨rfl, [], rfl, rfl⟩
  · rintro ⟨k, v⟩ rest b s' ⟨rfl, done, he, rfl⟩
    have hmem : k ∈ kns := hk (k, v) (by rw [he]; exact List.mem_append_right _ List.mem_cons_self)
    have hkd : k ∉ done.map (·.1) := fun hm => by
      rw [he, List.map_append, List.nodup_append] at hn
      exact hn.2.2 k hm k (by exact List.mem_cons_self) rfl
    have hkc : k ≠ c := fun e => hc (e ▸ hmem)
    have hcont : ((([c] : List Str).contains k || kns.contains k) = true) := by
      rw [Bool.or_eq_true]; right
      exact List.contains_iff_mem.mpr hmem
    rw [if_pos hcont]
    have hlk : (((c, u) :: done).lookup k) = none := by
      have e : (k == c) = false := by simpa using hkc
      simp only [List.lookup, e]
      exact lookup_none hkd
    rw [hlk]
    rw [if_neg (by simp)]
    exact wpAny_pure ⟨rfl, done ++ [(k, v)], by rw [he]; simp, rfl⟩
  · rintro b s' ⟨rfl, done, he, rfl⟩
    rw [List.append_nil] at he
    subst he
    refine wpAny_bind (seqNone ?_)
    rw [if_neg (by simp)]
    rw [if_neg (by simp [List.lookup])]
    refine wpAny_bind (wpAny_pure ?_)
    refine wpAny_bind ?_
    refine wpAny_forIn_list _ (fun rest b s2 => s2 = s' ∧ ∃ done, kns = done ++ rest ∧ b = ((c, u) :: kw ++ (done.filter fun n => (kw.lookup n).isNone).map (fun n => (n, dv n)), [])) _ ?_ ?_ _ _ ⟨rfl, [], rfl, by simp⟩
    · rintro n rest b s2 ⟨rfl, done, he, rfl⟩
      have hmem : n ∈ kns := by rw [he]; exact List.mem_append_right _ List.mem_cons_self
      have hnc : n ≠ c := fun e => hc (e ▸ hmem)
      have hnd : n ∉ done := fun hm => by
        rw [he, List.nodup_append] at hkn
        exact hkn.2.2 n hm n List.mem_cons_self rfl
      have e : (n == c) = false := by simpa using hnc
      have hl : ((c, u) :: kw ++ (done.filter fun n => (kw.lookup n).isNone).map (fun n => (n, dv n))).lookup n = kw.lookup n := by
        rw [lookup_append', List.lookup, e]
        have : ((done.filter fun n => (kw.lookup n).isNone).map (fun n => (n, dv n))).lookup n = none := lookup_none (by
          rw [List.map_map]
          intro hm
          obtain ⟨y, hy, rfl⟩ := List.mem_map.mp hm
          exact hnd (List.mem_filter.mp hy).1)
        rw [this]
        simp
      dsimp only
      rw [hl]
      cases hkl : kw.lookup n with
      | some v =>
        rw [if_neg (by simp)]
        refine wpAny_pure ⟨rfl, done ++ [n], by rw [he]; simp, ?_⟩
        rw [List.filter_append]
        simp [hkl]
      | none =>
        rw [if_pos (by simp)]
        refine wpAny_bind ((PySem.W.looks_nsIn X (hD n hmem)).here ?_)
        refine wpAny_pure ⟨rfl, done ++ [n], by rw [he]; simp, ?_⟩
        rw [List.filter_append]
        simp [hkl]
    · rintro b s2 ⟨rfl, done, he, rfl⟩
      rw [List.append_nil] at he
      subst he
      rw [if_neg (by simp)]
      refine wpAny_pure ?_
      have key : ∀ n ∈ kns, (((c, u) :: kw ++ (kns.filter fun n => (kw.lookup n).isNone).map (fun n => (n, dv n))).lookup n) = some ((kw.lookup n).getD (dv n)) := fun n hmem => by
        have hnc : n ≠ c := fun e => hc (e ▸ hmem)
        have e : (n == c) = false := by simpa using hnc
        rw [lookup_append', List.lookup, e]
        cases hkl : kw.lookup n with
        | some v => simp
        | none =>
          have : ∀ l : List Str, n ∈ l → (kw.lookup n).isNone = true → ((l.filter fun n => (kw.lookup n).isNone).map (fun n => (n, dv n))).lookup n = some (dv n) := by
            intro l
            induction l with
            | nil => intro h; cases h
            | cons y l ih =>
              intro h hz
              by_cases hy : n = y
              · subst hy
                rw [List.filter_cons, if_pos hz]
                simp [List.lookup]
              · have e2 : (n == y) = false := by simpa using hy
                have hm : n ∈ l := by
                  rcases List.mem_cons.mp h with h | h
                  · exact absurd h hy
                  · exact h
                by_cases hyn : (kw.lookup y).isNone = true
                · rw [List.filter_cons, if_pos hyn, List.map_cons]
                  simp only [List.lookup, e2]
                  exact ih hm hz
                · rw [List.filter_cons, if_neg hyn]
                  exact ih hm hz
          rw [this kns hmem (by rw [hkl]; rfl)]
          simp
      have ec : (((c, u) :: kw ++ (kns.filter fun n => (kw.lookup n).isNone).map (fun n => (n, dv n))).lookup c) = some u := by
        simp [List.lookup]
      have fin : ∀ l : List Str, (∀ n ∈ l, n ∈ kns) → List.filterMap (fun n => Option.map (fun x => (n, x)) (List.lookup n ((c, u) :: kw ++ (kns.filter fun n => (kw.lookup n).isNone).map (fun n => (n, dv n))))) l = l.map fun n => (n, (kw.lookup n).getD (dv n)) := by
        intro l
        induction l with
        | nil => intro _; rfl
        | cons y l ih =>
          intro h
          have := key y (h y List.mem_cons_self)
          rw [List.filterMap_cons, this, Option.map_some]
          exact congrArg _ (ih fun n hn => h n (List.mem_cons_of_mem _ hn))
      have all : List.filterMap (fun n => Option.map (fun x => (n, x)) (List.lookup n ((c, u) :: kw ++ (kns.filter fun n => (kw.lookup n).isNone).map (fun n => (n, dv n))))) ([] ++ [c] ++ kns) = (c, u) :: kns.map fun n => (n, (kw.lookup n).getD (dv n)) := by
        show List.filterMap _ (c :: kns) = _
        rw [List.filterMap_cons, ec, Option.map_some, fin kns fun _ h => h]
      dsimp only
      rw [all]
      exact hq
end Xr
set_option Elab.async false
set_option linter.all false
set_option maxRecDepth 100000
set_option maxHeartbeats 4000000
namespace Xr
open PySem PySem.Spec PyProof.Rows L2 ClX
/-! ### keywords, by values -/
/-- the entries' names and values -/
def kwV : List (Key × V) → Option (List (Str × V))
  | [] => some []
  | (.inr x, v) :: r => (kwV r).map ((x, v) :: ·)
  | (.inl _, _) :: _ => none
abbrev RelK : List (Str × V) → List (Str × Value) → Prop := Paired fun p q => p.1 = q.1 ∧ RelV p.2 q.2
theorem kwV_of : ∀ {kvs : List (Key × V)} {vs : List (Key × Value)} {kw : List (Str × V)}, KV kvs vs → kwV kvs = some kw → ∃ ku, kwOf vs = some ku ∧ RelK kw ku
  | _, _, _, .nil, e => by
    cases Option.some.inj (show some [] = some _ from e)
    exact ⟨[], rfl, .nil⟩
  | (k, v) :: kvs, (k', u) :: vs, kw, .cons h t, e => by
    obtain ⟨h1, h2⟩ := h
    have h1' : k = k' := h1
    subst h1'
    cases k with
    | inl i => cases e
    | inr x =>
      have e1 : (kwV kvs).map ((x, v) :: ·) = some kw := e
      cases e2 : kwV kvs with
      | none => rw [e2] at e1; cases e1
      | some k3 =>
        rw [e2] at e1
        cases Option.some.inj e1
        obtain ⟨ku, q1, q2⟩ := kwV_of t e2
        exact ⟨(x, u) :: ku, by show (kwOf vs).map ((x, u) :: ·) = _; rw [q1] <;> rfl, .cons ⟨rfl, h2⟩ q2⟩
theorem kwV_keys : ∀ {kvs : List (Key × V)} {kw : List (Str × V)}, kwV kvs = some kw → kvs.map (·.1) = kw.map fun q => Sum.inr q.1
  | [], _, e => by
    cases Option.some.inj (show some [] = some _ from e)
    rfl
  | (k, v) :: kvs, kw, e => by
    cases k with
    | inl i => cases e
    | inr x =>
      have e1 : (kwV kvs).map ((x, v) :: ·) = some kw := e
      cases e2 : kwV kvs with
      | none => rw [e2] at e1; cases e1
      | some k3 =>
        rw [e2] at e1
        cases Option.some.inj e1
        show Sum.inr x :: kvs.map (·.1) = Sum.inr x :: k3.map fun q => Sum.inr q.1
        rw [kwV_keys e2]
theorem relK_keys : ∀ {kw : List (Str × V)} {ku : List (Str × Value)}, RelK kw ku → ku.map (·.1) = kw.map (·.1)
  | _, _, .nil => rfl
  | _, _, .cons h t => by
    have e := relK_keys t
    have e1 := h.1
    rw [List.map_cons, List.map_cons, e, e1]
theorem relK_lookup {x : Str} {d : V} {du : Value} (r0 : RelV d du) : ∀ {kw : List (Str × V)} {ku : List (Str × Value)}, RelK kw ku → RelV ((kw.lookup x).getD d) ((ku.lookup x).getD du)
  | _, _, .nil => r0
  | (a, v) :: kw, (b, u) :: ku, .cons h t => by
    have h1 : a = b := h.1
    subst h1
    by_cases e : x = a
    · subst e
      simpa [List.lookup] using h.2
    · have e' : (x == a) = false := by simpa using e
      simp only [List.lookup, e']
      exact relK_lookup r0 t
/-- a def f(c, *, k = d, ..): its only positional parameter, its keyword-only ones with their defaults -/
structure KwB (K : PySem.W.Frag) (fd : FuncData) (c : Str) (dfl : List (Str × V)) : Prop where
  pos : fd.params.posonlyargs.map (·.arg) = []
  arg : fd.params.args.map (·.arg) = [c]
  kwo : fd.params.kwonlyargs.map (·.arg) = dfl.map (·.1)
  var : fd.params.vararg = none
  kwa : fd.params.kwarg = none
  dfs : fd.defaults = .none
  cn : c ∉ dfl.map (·.1)
  nd : (dfl.map (·.1)).Nodup
  val : ∃ D : Addr, fd.kwdefaults = .ref D ∧ ∀ q ∈ dfl, ∃ u, PySem.W.nsIn K D q.1 = some (some u) ∧ RelV q.2 u
theorem kwB_of {K : PySem.W.Frag} {x qual : Str} {params : Arguments} {body : List Stmt} {scope : Scope} {c : Str} {dfl : List (Str × V)} {f : Addr} {fd : FuncData} (F : FunD K x qual params body scope [] dfl f fd) (hk : dfl ≠ [])
    (h1 : params.posonlyargs.map (·.arg) = []) (h2 : params.args.map (·.arg) = [c]) (h3 : params.kwonlyargs.map (·.arg) = dfl.map (·.1)) (h4 : params.vararg = none) (h5 : params.kwarg = none) (hc : c ∉ dfl.map (·.1)) (hn : (dfl.map (·.1)).Nodup) : KwB K fd c dfl := by
  obtain ⟨oc, od, dV, kV, doc, pm, an, cdv, ct, osl, rfl, lk, hcd, hD, hK⟩ := F.ex
  rcases hD with ⟨_, rfl⟩ | ⟨e, _⟩
  · rcases hK with e | ⟨D, rfl, hq⟩
    · exact absurd e hk
    · exact ⟨h1, h2, h3, h4, h5, rfl, hc, hn, D, rfl, hq⟩
  · exact absurd rfl e
/-- the parameters' values: the first one, then each by its keyword or by its default -/
def kwVals (dfl : List (Str × V)) (v : V) (kw : List (Str × V)) : List V := v :: dfl.map fun q => (kw.lookup q.1).getD q.2
theorem zip_keys {α β : Type} (g : α → Str) (h : Str → β) : ∀ l : List α, (l.map g).zip (l.map fun q => h (g q)) = (l.map g).map fun n => (n, h n)
  | [] => rfl
  | q :: l => by
    rw [List.map_cons, List.map_cons, List.zip_cons_cons, zip_keys g h l, List.map_cons]
theorem vals_kw {kw : List (Str × V)} {ku : List (Str × Value)} {dv : Str → Value} (rk : RelK kw ku) : ∀ l : List (Str × V), (∀ q ∈ l, RelV q.2 (dv q.1)) → Vals (l.map fun q => (kw.lookup q.1).getD q.2) (l.map fun q => (ku.lookup q.1).getD (dv q.1))
  | [], _ => .nil
  | q :: l, h => .cons (relK_lookup (h q List.mem_cons_self) rk) (vals_kw rk l fun z hz => h z (List.mem_cons_of_mem _ hz))
theorem KwB.binds {K : PySem.W.Frag} {s : Shared} {fd : FuncData} {c : Str} {dfl : List (Str × V)} {v : V} {u : Value} {kw : List (Str × V)} {ku : List (Str × Value)} (B : KwB K fd c dfl) (X : K.In s.heap) (rv : RelV v u) (rk : RelK kw ku)
    (hk : ∀ q ∈ kw, q.1 ∈ dfl.map (·.1)) (hn : (kw.map (·.1)).Nodup) : ∃ us, BindsTo s fd ⟨[u], ku⟩ ((c :: dfl.map (·.1)).zip us) ∧ Vals (kwVals dfl v kw) us := by
  obtain ⟨D, hD, hv⟩ := B.val
  -- the defaults' values
  have ex : ∃ dv : Str → Value, ∀ q ∈ dfl, PySem.W.nsIn K D q.1 = some (some (dv q.1)) ∧ RelV q.2 (dv q.1) := by
    refine ⟨fun n => ((PySem.W.nsIn K D n).join).getD .none, fun q hq => ?_⟩
    obtain ⟨u, e, r⟩ := hv q hq
    show _ = some (some (((PySem.W.nsIn K D q.1).join).getD .none)) ∧ RelV q.2 (((PySem.W.nsIn K D q.1).join).getD .none)
    rw [e]
    exact ⟨rfl, r⟩
  obtain ⟨dv, hdv⟩ := ex
  have b := bindKw (s := s) (u := u) (kw := ku) (dv := dv) X B.pos B.arg B.kwo B.var B.kwa B.dfs hD (fun q hq => by
      have : q.1 ∈ ku.map (·.1) := List.mem_map.mpr ⟨q, hq, rfl⟩
      rw [relK_keys rk] at this
      obtain ⟨q', hq', e⟩ := List.mem_map.mp this
      rw [← e]
      exact hk q' hq') (by rw [relK_keys rk]; exact hn) B.cn B.nd (fun n hn => by
      obtain ⟨q, hq, rfl⟩ := List.mem_map.mp hn
      exact (hdv q hq).1)
  refine ⟨u :: dfl.map fun q => (ku.lookup q.1).getD (dv q.1), ?_, .cons rv ?_⟩
  · have e : ((c :: dfl.map (·.1)).zip (u :: dfl.map fun q => (ku.lookup q.1).getD (dv q.1))) = (c, u) :: (dfl.map (·.1)).map fun n => (n, (ku.lookup n).getD (dv n)) := by
      rw [List.zip_cons_cons, zip_keys (fun q : Str × V => q.1) (fun n => (ku.lookup n).getD (dv n)) dfl]
    rw [e]
    exact b
  · exact vals_kw rk dfl fun q hq => (hdv q hq).2
end Xr
set_option Elab.async false
set_option linter.all false
set_option maxRecDepth 100000
set_option maxHeartbeats 4000000
namespace Xr
open PySem PySem.Spec PyProof.Rows L2 ClX
section
variable {X : Cx} {pins : List (Addr × Obj)} {σ : L2.St} {H : Hp} {s : Shared}
theorem kv_keys : ∀ {kvs : List (Key × V)} {vs : List (Key × Value)}, KV kvs vs → vs.map (·.1) = kvs.map (·.1)
  | _, _, .nil => rfl
  | _, _, .cons h t => by
    have e := kv_keys t
    have e1 := h.1
    rw [List.map_cons, List.map_cons, e, e1]
/-- o.m( **e): the attribute's value (no method form), then the call -/
theorem kwcall_of {M : Model} {A : Around} {E : Value → Shared → Prop} {s : Shared} {env : Env} {o e : Expr} {m : Str} {kp apos pos : Pos} {Q : Value → Shared → Prop} (hbase : attributeBase o m env (eval o env) = eval o env)
    (h : wpAny M A (eval o env) (fun ov s₁ => wpAny M A (getAttr ov m true) (fun f s₂ => wpAny M A (callWith pos f [] [] [(none, do let v ← eval e env; standAt pos; pure v)]) Q E s₂) E s₁) E s) :
    wpAny M A (eval (.Call (.Attribute o m apos) [] [⟨none, e, kp⟩] pos) env) Q E s := by
  have hse : starEach [] env = [] := rfl
  have hke : backToKw pos (keywordEach [⟨none, e, kp⟩] env) = [(none, do let v ← eval e env; standAt pos; pure v)] := rfl
  have hform : ∀ n, methodCallForm n (backTo pos []) [((none : Option Str), (do let v ← eval e env; standAt pos; pure v : Sem Value))] = false := fun _ => rfl
  have hpos : methodCallPos false o env apos pos = pure pos := rfl
  have hcal : ∀ ov, calleeOf false o env ov m = (getAttr ov m true >>= fun v => pure (v, [])) := fun _ => rfl
  rw [arm_eval_Call, hbase, hse, hke]
  refine wpAny_bind (wpAny_mono h (fun ov s₁ h₁ => ?_) fun _ _ x => x)
  refine wpAny_bind (wpAny_standAt ?_)
  unfold methodCall
  rw [hform, hpos, hcal]
  refine wpAny_bind (wpAny_holding (wpAny_bind (wpAny_mono h₁ (fun f s₂ h₂ => wpAny_pure ?_) fun _ _ x => x)))
  exact wpAny_bind (wpAny_pure h₂)
/-- the arguments **e, e a dict with text keys: an own dict is laid ahead of it (at d) and filled behind it -/
theorem kw_run {f : Value} {e : Expr} {te : TE} {pos : Pos} {Q : Args → Shared → Prop} {R : List (Str × V) → Hp → Prop} (he : PE X e te) (I : Inv X pins σ H s)
    (h : ∀ d, H d = none → te σ (upd H d (.dK [])) fun y H2 => H2 d = some (.dK []) ∧ ∃ a kvs kw, y = .ref a ∧ a ≠ d ∧ H2 a = some (.dK kvs) ∧ kwV kvs = some kw ∧ R kw (upd H2 d (.dK kvs)))
    (hQ : ∀ kw ku H3 s3, Inv X pins σ H3 s3 → RelK kw ku → (kw.map (·.1)).Nodup → R kw H3 → Q ⟨[], ku⟩ s3) :
    wpAny (model X.prog X.w) X.A (evalArgs f true [] [(none, do let v ← eval e X.env; standAt pos; pure v)]) Q X.xe s := by
  refine evalArgs_kw ?_
  have hn : H s.heap.objs.size = none := I.hok.fresh (Nat.le_refl _)
  have I1 : Inv X pins σ (upd H s.heap.objs.size (.dK [])) { s with heap := s.heap.push { cls := .type "dict", data := .dict #[] } } :=
    I.laid (t' := s.toks) (fun b u q => Heap.get?_push_of_some _ q) (Nat.le_refl _) (dk_empty _ I.big)
  refine wpAny_bind (thn (he.run pins _ σ _ _ I1 (h _ hn)) fun v s1 ⟨y, H2, I2, ry, hd, a, kvs, kw, ey, hne, ha, hkw, hR⟩ => ?_)
  subst ey
  obtain rfl : v = Value.ref a := ry
  refine wpAny_bind (wpAny_standAt (wpAny_pure ?_))
  obtain ⟨z, hS, vs, rel, dd⟩ := dk_of I2.hok ha
  obtain ⟨z0, hS0, vs0, rel0, dd0⟩ := dk_of I2.hok hd
  cases rel0
  obtain ⟨ku, hku, rk⟩ := kwV_of rel hkw
  have hlen : vs.length = kvs.length := (Paired.length rel).symm
  have hnd : (vs.map (·.1)).Nodup := by
    obtain ⟨o, es, ep, _, _, _, _, _, hn⟩ := dd
    exact hn
  have hkeys : vs.map (·.1) = kw.map fun q => (Sum.inr q.1 : Key) := by
    rw [← kwV_keys hkw]
    exact kv_keys rel
  refine ⟨a, vs, ku, rfl, hS, fun q => hne q.symm, dd0, dd, hnd, by rw [hlen]; exact z, hku, fun h' hd' hs' => ?_⟩
  have I3 : Inv X pins σ (upd H2 s.heap.objs.size (.dK kvs)) { s1 with heap := h' } := by
    have hex : ∃ u, h'.get? s.heap.objs.size = some u := by
      obtain ⟨o, _, _, ho, _⟩ := hd'
      exact ⟨o, ho⟩
    exact I2.write (t' := s1.toks) (x := s.heap.objs.size) (e := s.heap.objs.size) (o := .dK kvs) (by rw [hd]; exact True.intro) (.inl rfl) (fun b u hb q => (hs'.2 b hb).trans q) hex ⟨z, hS0, vs, rel, hd'⟩
  refine hQ kw ku _ _ I3 rk ?_ hR
  rw [hkeys] at hnd
  clear hR rk hku hkw hkeys I3
  induction kw with
  | nil => exact List.nodup_nil
  | cons q l ih =>
    rw [List.map_cons, List.nodup_cons] at hnd ⊢
    refine ⟨fun hm => hnd.1 ?_, ih hnd.2⟩
    obtain ⟨q', hq', e⟩ := List.mem_map.mp hm
    exact List.mem_map.mpr ⟨q', hq', by rw [e]⟩
/-- C.m( **e), C a class, m a classmethod m(cls, *, ..) -/
def tCMethKw (C : Addr) (c : Str) (dfl : List (Str × V)) (sp : Sp) (E : XK) (ta te : TE) : TE := fun σ H Q => ta σ H fun x H1 => x = .ref C ∧ ∀ d, H1 d = none →
  te σ (upd H1 d (.dK [])) fun y H2 => H2 d = some (.dK []) ∧ ∃ a kvs kw, y = .ref a ∧ a ≠ d ∧ H2 a = some (.dK kvs) ∧ kwV kvs = some kw ∧ (∀ q ∈ kw, q.1 ∈ dfl.map (·.1)) ∧ sp (kwVals dfl (.ref C) kw) (upd H2 d (.dK kvs)) Q E
theorem pe_cmethKw {CX : CXT} {k : Nat} {C p g : Addr} {mc : Value} {sp : Sp} {E : XK} {o e : Expr} {m c : Str} {pos apos kp : Pos} {ta te : TE} {fd : FuncData} {dfl : List (Str × V)} (he : PE X o ta) (r : CRead X.K C mc) (cm : CMet X.K C mc m p g)
    (F : FnOk X.prog X.w X.K X.mg X.base CX k g fd (c :: dfl.map (·.1)) sp) (B : KwB X.K fd c dfl) (hr : Room k X.A) (hx : Passes CX X E) (ha : PE X e te) (hbase : attributeBase o m X.env (eval o X.env) = eval o X.env := by rfl) :
    PE X (.Call (.Attribute o m apos) [] [⟨none, e, kp⟩] pos) (tCMethKw C c dfl sp E ta te) := by
  refine ⟨fun pins s σ H Q I h => ?_⟩
  refine kwcall_of hbase (thn (he.run pins s σ H _ I h) fun u s1 ⟨x, H1, I1, rx, ex, q⟩ => ?_)
  subst ex
  obtain rfl : u = Value.ref C := rx
  refine getcmet_ok I1 r cm fun s2 I2 => ?_
  have hb : X.base.get? s1.heap.objs.size = none := base_none I1 (Nat.le_refl _)
  refine callWith_kw (P := PySem.W.MethP X.K s1.heap.objs.size g (.ref C)) (PySem.W.keeps_M cm.fi) ?_
  refine kw_run (R := fun kw H3 => (∀ q ∈ kw, q.1 ∈ dfl.map (·.1)) ∧ sp (kwVals dfl (.ref C) kw) H3 Q E) ha I2 q fun kw ku H3 s3 I3 rk hn ⟨hk, hsp⟩ => ?_
  refine ⟨⟨pin_at I3, I3.kIn⟩, ?_⟩
  obtain ⟨us, hbind, rv⟩ := B.binds (s := s3) I3.kIn (show RelV (.ref C) (.ref C) from rfl) rk hk hn
  have z : wpAny (model X.prog X.w) X.A (call (.ref s1.heap.objs.size) ([] ++ []) ku) (EP X ((s1.heap.objs.size, PySem.W.methodObj (.ref g) (.ref C)) :: pins) σ Q) X.xe s3 := by
    refine wpAny_call (PySem.W.method_call (pin_at I3) (codeAny_mono (F.run X.A X.stack s3 H3 ⟨[.ref C], ku⟩ us _ Q E hr I3.env0 hbind rv hsp) fun r s' hq => ?_))
    cases r with
    | error e => exact hx _ σ H3 s3 e s' I3 hq
    | ok fl =>
      cases fl with
      | ret u => exact I3.after hq
      | next => exact False.elim hq
      | brk => exact False.elim hq
      | cont => exact False.elim hq
  exact thn z fun _ _ y => unpinE y
end
end Xr
set_option Elab.async false
set_option linter.all false
set_option maxRecDepth 100000
set_option maxHeartbeats 4000000
namespace Xr
open PySem PySem.Spec PyProof.Rows L2 ClX
section
variable {X : Cx} {pins : List (Addr × Obj)} {σ : L2.St} {H : Hp} {s : Shared}
theorem relK_zip : ∀ {ks : List Str} {zs : List V} {ws : List Value}, Vals zs ws → RelK (ks.zip zs) (ks.zip ws)
  | [], _, _, _ => .nil
  | _ :: _, [], _, .nil => .nil
  | k :: ks, _ :: _, _ :: _, .cons r t => .cons ⟨rfl, r⟩ (relK_zip t)
theorem zip_fst : ∀ {ks : List Str} {zs : List V}, zs.length = ks.length → (ks.zip zs).map (·.1) = ks
  | [], _, _ => rfl
  | k :: ks, [], h => by cases h
  | k :: ks, z :: zs, h => by
    have e := zip_fst (ks := ks) (zs := zs) (Nat.succ.inj h)
    rw [List.zip_cons_cons, List.map_cons, e]
/-- C.m(k = v, ..), C a class, m a classmethod m(cls, *, ..) -/
def tCMethN (C : Addr) (ks : List Str) (dfl : List (Str × V)) (sp : Sp) (E : XK) (ta : TE) (tk : TA) : TE := fun σ H Q => ta σ H fun x H1 => x = .ref C ∧ tk σ H1 fun zs H2 => zs.length = ks.length ∧ sp (kwVals dfl (.ref C) (ks.zip zs)) H2 Q E
theorem pe_cmethN {CX : CXT} {k : Nat} {C p g : Addr} {mc : Value} {sp : Sp} {E : XK} {o : Expr} {m c : Str} {pos apos : Pos} {ta : TE} {tk : TA} {fd : FuncData} {dfl : List (Str × V)} {kws : List Keyword} {ks : List Str} {pl : Sem Bool} (he : PE X o ta) (r : CRead X.K C mc) (cm : CMet X.K C mc m p g)
    (F : FnOk X.prog X.w X.K X.mg X.base CX k g fd (c :: dfl.map (·.1)) sp) (B : KwB X.K fd c dfl) (hr : Room k X.A) (hx : Passes CX X E) (hkw : PK X kws tk)
    (hsub : ∀ n ∈ ks, n ∈ dfl.map (·.1)) (hnd : ks.Nodup)
    (hall : (backToKw pos (keywordEach kws X.env)).all (·.1.isSome) = true := by rfl) (hks : (backToKw pos (keywordEach kws X.env)).filterMap (·.1) = ks := by rfl)
    (hpl : ((backTo pos (starEach [] X.env)).any (·.1) || (backToKw pos (keywordEach kws X.env)).any (·.1.isNone)) = false := by rfl)
    (ht : eval (.Call (.Attribute o m apos) [] kws pos) X.env = (do
      let ov ← eval o X.env
      standAt apos.atName
      let (f, first) ← holding [ov] (getMethod ov m pl)
      callWith pos f first (backTo pos (starEach [] X.env)) (backToKw pos (keywordEach kws X.env))) := by rfl) :
    PE X (.Call (.Attribute o m apos) [] kws pos) (tCMethN C ks dfl sp E ta tk) := by
  refine ⟨fun pins s σ H Q I h => ?_⟩
  refine PySem.W.methodCall_KW (pl := pl) (thn (he.run pins s σ H _ I h) fun u s1 ⟨x, H1, I1, rx, ex, q⟩ => ?_) ht
  subst ex
  obtain rfl : u = Value.ref C := rx
  refine getmethcm_ok I1 r cm fun s2 I2 => ?_
  refine PySem.W.callWith_of (P := PySem.W.MethP X.K s1.heap.objs.size g (.ref C)) hpl (PySem.W.keeps_M cm.fi) (PyProof.Rows.evalArgs_kw2_nil hall ?_)
  refine thn (hkw.run pos _ s2 σ H1 _ I2 q) fun ws s3 ⟨zs, H3, I3, rz, hl, hsp⟩ => ?_
  refine ⟨⟨pin_at I3, I3.kIn⟩, ?_⟩
  rw [hks]
  obtain ⟨us, hbind, rv⟩ := B.binds (s := s3) I3.kIn (show RelV (.ref C) (.ref C) from rfl) (relK_zip (ks := ks) rz) (fun q hq => hsub q.1 (by
    have z : q.1 ∈ (ks.zip zs).map (·.1) := List.mem_map.mpr ⟨q, hq, rfl⟩
    rw [zip_fst hl] at z
    exact z)) (by rw [zip_fst hl]; exact hnd)
  have z : wpAny (model X.prog X.w) X.A (call (.ref s1.heap.objs.size) ([] ++ []) (ks.zip ws)) (EP X ((s1.heap.objs.size, PySem.W.methodObj (.ref g) (.ref C)) :: pins) σ Q) X.xe s3 := by
    refine wpAny_call (PySem.W.method_call (pin_at I3) (codeAny_mono (F.run X.A X.stack s3 H3 ⟨[.ref C], ks.zip ws⟩ us _ Q E hr I3.env0 hbind rv hsp) fun r s' hq => ?_))
    cases r with
    | error e => exact hx _ σ H3 s3 e s' I3 hq
    | ok fl =>
      cases fl with
      | ret u => exact I3.after hq
      | next => exact False.elim hq
      | brk => exact False.elim hq
      | cont => exact False.elim hq
  exact thn z fun _ _ y => unpinE y
/-- x(e, ..), x a local name that holds a class -/
def tMakeV (i : Nat) (C : Addr) (sp : Sp) (E : XK) (t : TA) : TE := fun σ H Q => σ[i]? = some (some (.ref C)) ∧ t σ H fun vs H1 => ∀ x dx, H1 x = none → H1 dx = none → dx ≠ x →
  sp (V.ref x :: vs) (upd (upd H1 dx (.own x)) x (.ins C dx [])) (fun v H2 => v = .non ∧ Q (.ref x) H2) E
theorem pe_makeV {CX : CXT} {k i : Nat} {f C : Addr} {sp : Sp} {E : XK} {x : Str} {e : Expr} {es : List Expr} {t : TA} {p pos : Pos} (M : Mk X.K C f) (F : FnR X.prog X.w X.K X.mg X.base CX k f sp) (hr : Room (k + 1) X.A) (hx : Passes CX X E)
    (ha : PA X (e :: es) t) (hN : X.N[i]? = some x := by rfl) (hv : Vis X.env.scope x := by first | exact Or.inl rfl | exact Or.inr (Or.inl rfl) | exact Or.inr (Or.inr rfl)) (hd : (x == ("__debug__" : Str)) = false := by decide) (hcd : (x == ("__classdict__" : Str)) = false := by decide)
    (he : starEach (e :: es) X.env = (false, eval e X.env) :: starEach es X.env := by rfl) (hpl : (backTo pos (starEach es X.env)).any (·.1) = false := by rfl) : PE X (.Call (.Name x p) (e :: es) [] pos) (tMakeV i C sp E t) := by
  refine ⟨fun pins s σ H Q I h => ?_⟩
  obtain ⟨hs, h⟩ := h
  refine wpAny_Call_Name_kw (thn ((pe_var (pos := p) (i := i) hN hv hd hcd).run pins s σ H (fun v H1 => v = .ref C ∧ H1 = H) I ⟨.ref C, hs, rfl, rfl⟩) fun u s1 ⟨v, H1, I1, r1, ev, eH⟩ => ?_)
  subst ev
  rw [eH] at I1
  cases r1
  refine PySem.W.callWith_K (h₀ := X.base) I.ok.mod.kin M.kp (thn (ha.run pos pins s1 σ H _ I1 h) fun us s2 ⟨vs, H2, I2, r, q⟩ => ⟨I2.kIn, ?_⟩) he hpl
  exact StX.run_makeR M F hr hx I2 r q
end
end Xr
set_option Elab.async false
set_option linter.all false
set_option maxRecDepth 100000
set_option maxHeartbeats 4000000
namespace Xr
open PySem PySem.Spec PyProof.Rows L2
section
variable {X : Cx} {C f : Addr} {k : Nat} {sp : Sp}
/-- a special method of an own class, run at another around with the same frames; it lets nothing out -/
theorem run_sp {A : Around} {pins : List (Addr × Obj)} {σ : L2.St} {H : Hp} {s : Shared} {us : List Value} {vs : List V} {Q : VK} {E : Value → Shared → Prop} (F : FnR X.prog X.w X.K X.mg X.base CX0 k f sp) (hr : Room k A) (hA : A.frames = some X.stack) (I : Inv X pins σ H s) (r : Vals vs us) (h : sp vs H Q E0) :
    wpAny (model X.prog X.w) A (call (.ref f) us) (EP X pins σ Q) E s := by
  have e0 : Env0 X.prog X.w X.K X.mg X.base A X.stack s H := by
    have e := I.env0
    exact ⟨hA, e.mod, e.bs, e.bsz, e.funs, e.frf, e.hok, e.bare⟩
  refine wpAny_call (codeAny_mono (F A X.stack s H us vs Q E0 hr e0 r h) fun r s' hq => ?_)
  cases r with
  | error e => exact False.elim hq
  | ok fl =>
    cases fl with
    | ret u => exact I.after hq
    | next => exact False.elim hq
    | brk => exact False.elim hq
    | cont => exact False.elim hq
/-- the promise's way out is a text -/
def SpIns (C : Addr) (sp : Sp) (P : V → Prop) (xs : List V) (H : Hp) (Q : VK) : Prop := ∃ a dx fs, xs = [.ref a] ∧ H a = some (.ins C dx fs) ∧ sp [.ref a] H (fun v H' => P v ∧ Q v H') E0
def isStrV (v : V) : Prop := ∃ y, v = .str y
def isLenV (v : V) : Prop := ∃ n : Int, v = .int n ∧ 0 ≤ n ∧ n < 2 ^ 63
theorem call_len_ins (F : FnR X.prog X.w X.K X.mg X.base CX0 k f sp) (hr : Room (k + 1) X.A) (hs : PySem.W.findIn X.K (.ref C) "__len__" = some (some (.ref f))) (hf : PySem.W.isFn X.K (.ref f) = true) : CallR X (.builtin "len") (SpIns C sp isLenV) := by
  intro pins s σ H xs us Q I rs h
  obtain ⟨a, dx, fs, rfl, ea, h⟩ := h
  cases rs with
  | cons r rr =>
    cases rr
    cases r
    obtain ⟨mA, O, _, _, _, _⟩ := ins_get I.hok ea
    obtain ⟨od, J, _⟩ := O.look
    obtain ⟨m, hF⟩ := I.fr
    refine PySem.W.len_K hF I.ok.mod.kin J hs hf (wpAny_mono (run_sp (A := X.A.in1) (vs := [.ref a]) F hr.in1 I.ok.frames I (.cons rfl .nil) h) (fun v s' hv => ?_) fun _ _ e => e)
    obtain ⟨y, H', I', ry, ⟨n, rfl, h0, h1⟩, q⟩ := hv
    obtain ⟨t, rfl⟩ := ry
    exact ⟨⟨h0, h1⟩, .int n, H', I'.tok _, ⟨_, rfl⟩, q⟩
theorem call_repr_ins (F : FnR X.prog X.w X.K X.mg X.base CX0 k f sp) (hr : Room (k + 1) X.A) (hs : PySem.W.findIn X.K (.ref C) "__repr__" = some (some (.ref f))) (hf : PySem.W.isFn X.K (.ref f) = true) : CallR X (.builtin "repr") (SpIns C sp isStrV) := by
  intro pins s σ H xs us Q I rs h
  obtain ⟨a, dx, fs, rfl, ea, h⟩ := h
  cases rs with
  | cons r rr =>
    cases rr
    cases r
    obtain ⟨mA, O, _, _, _, _⟩ := ins_get I.hok ea
    obtain ⟨od, J, _⟩ := O.look
    obtain ⟨m, hF⟩ := I.fr
    refine PySem.W.repr_K hr.in1.units0 hF I.ok.mod.kin J hs hf (wpAny_mono (run_sp (A := X.A.in1) (vs := [.ref a]) F hr.in1 I.ok.frames I (.cons rfl .nil) h) (fun v s' hv => ?_) fun _ _ e => e)
    obtain ⟨y, H', I', ry, ⟨z, rfl⟩, q⟩ := hv
    obtain ⟨t, rfl⟩ := ry
    exact ⟨.str z, H', I', ⟨_, rfl⟩, q⟩
theorem call_str_ins (F : FnR X.prog X.w X.K X.mg X.base CX0 k f sp) (hr : Room (k + 2) X.A) (hs : PySem.W.findIn X.K (.ref C) "__str__" = some (some (.ref f))) (hf : PySem.W.isFn X.K (.ref f) = true) : CallR X (.type "str") (SpIns C sp isStrV) := by
  intro pins s σ H xs us Q I rs h
  obtain ⟨a, dx, fs, rfl, ea, h⟩ := h
  cases rs with
  | cons r rr =>
    cases rr
    cases r
    obtain ⟨mA, O, _, _, _, _⟩ := ins_get I.hok ea
    obtain ⟨od, J, _⟩ := O.look
    have key0 : wpAny (model X.prog X.w) X.A.in1.in1 (call (.ref f) [.ref a]) (PySem.W.StrBack (EP X pins σ Q)) X.xe s :=
      wpAny_mono (run_sp (A := X.A.in1.in1) (vs := [.ref a]) F hr.in1.in1 I.ok.frames I (.cons rfl .nil) h) (fun v s' hv => by
        obtain ⟨y, H', I', ry, ⟨z, rfl⟩, q⟩ := hv
        obtain ⟨t, rfl⟩ := ry
        exact ⟨.str z, H', I', ⟨_, rfl⟩, q⟩) fun _ _ e => e
    refine callType_codes (T := "str") (Bi := Builtin.«object.__init__») (Q₁ := fun r s₁ => ∃ y u, r = .str y u ∧ EP X pins σ Q r s₁) PySem.F.called_str (PySem.F.typeCall_str_1 _) PySem.F.entry_object_init ?_ ?_
    · refine codeAny_of_tree ?_
      show wpAny _ X.A.in1.in1 (do checkBuiltinCall "str.__new__" ⟨[.type "str", .ref a], []⟩; again (.builtin "str.__new__" ⟨[.type "str", .ref a], []⟩)) _ _ s
      refine wpAny_bind (wpAny_of_eq (PySem.F.newCall_str_1 _) (wpAny_pure ⟨plainId_quiet (by decide +kernel) _, codeAny_builtin PySem.F.entry_str_new ?_⟩))
      rw [Around.under_plainId (by decide +kernel) _]
      rw [str_new_tree]
      refine wpAny_bind (wpAny_pure ?_)
      refine wpAny_bind (wpAny_of_eq isSubtype_str_str ?_)
      have key : wpAny (model X.prog X.w) X.A.in1.in1 (PySem.Builtin.Str.strOf (.ref a)) (fun r s₁ => ∃ y u, r = .str y u ∧ EP X pins σ Q r s₁) X.xe s := by
        unfold PySem.Builtin.Str.strOf
        rw [show PySem.Builtin.Str.isExactStr (.ref a) = false from rfl]
        refine wpAny_bind (m := cRoomFor _ _) (wpAny_cRoomFor hr.in1.in1.units0 ?_)
        refine wpAny_bind (m := callSpecial? (.ref a) (Str.ofString "__str__")) (PySem.W.special_fn I.kIn J hs (beq_iff_eq.mp hf) (wpAny_mono key0 (fun r s' z => ?_) fun _ _ y => y))
        cases r <;> first | exact z.elim | exact wpAny_pure ⟨_, _, rfl, z⟩
      exact wpAny_bind (wpAny_mono key (fun r s₁ hr => wpAny_pure hr) fun _ _ y => y)
    · rintro obj s₁ ⟨y, u, rfl, hq⟩
      exact ⟨typeIs_str _ _ _, PySem.F.args_object_init_2 _ _, object_init_meets PySem.F.called_str.init.lookup PySem.F.called_str.made (by decide) X.prog X.w X.A.in1 _ s₁ ⟨typeIs_str _ _ _, rfl, hq⟩⟩
end
end Xr
set_option Elab.async false
set_option linter.all false
set_option maxRecDepth 100000
set_option maxHeartbeats 4000000
/-! Xs: readings that compute: a slot, an operator, a subscript, a length by the values' own kinds, so that a straight text's reading unfolds by itself to its side conditions. -/
namespace Xs
open PySem PySem.Spec PyProof.Rows L2
theorem PE.imp {X : Cx} {e : Expr} {t t' : TE} (h : PE X e t) (i : ∀ σ H Q, t' σ H Q → t σ H Q) : PE X e t' := ⟨fun pins s σ H Q I q => h.run pins s σ H Q I (i σ H Q q)⟩
theorem PT.imp {X : Cx} {e : Expr} {t t' : TT} (h : PT X e t) (i : ∀ σ H Q, t' σ H Q → t σ H Q) : PT X e t' := ⟨fun pins s σ H Q I q => h.run pins s σ H Q I (i σ H Q q)⟩
theorem PS.imp {X : Cx} {st : Stmt} {t t' : TS} (h : PS X st t) (i : ∀ D σ H, t' D σ H → t D σ H) : PS X st t' := ⟨fun pins s σ H D I q => h.run pins s σ H D I (i D σ H q)⟩
theorem OpR.imp {X : Cx} {f : Value → Value → Sem Value} {r r' : R2} (h : OpR X f r) (i : ∀ x y H Q, r' x y H Q → r x y H Q) : OpR X f r' := fun pins s σ H x y v u Q I rx ry q => h pins s σ H x y v u Q I rx ry (i x y H Q q)
section
variable {X : Cx}
/-! ### slots, tests -/
def cVar (i : Nat) : TE := fun σ H Q => match σ[i]? with
  | some (some v) => Q v H
  | _ => False
theorem cv (i : Nat) {x : Str} {pos : Pos} (hN : X.N[i]? = some x := by rfl) (hv : Vis X.env.scope x := by first | exact Or.inl rfl | exact Or.inr (Or.inl rfl) | exact Or.inr (Or.inr rfl)) (hd : (x == ("__debug__" : Str)) = false := by decide)
    (hcd : (x == ("__classdict__" : Str)) = false := by decide) : PE X (.Name x pos) (cVar i) := PE.imp (pe_var hN hv hd hcd) fun σ H Q q => by
  unfold cVar at q
  split at q
  · exact ⟨_, ‹_›, q⟩
  · exact q.elim
def cBl (te : TE) : TT := fun σ H Q => te σ H fun x H' => match x with
  | .bl b => Q b H'
  | _ => False
end
theorem bl_eq {x : V} {H : Hp} {Q : Bool → Hp → Prop} : (∃ k, x = .bl k ∧ Q k H) = (match x with | .bl b => Q b H | _ => False) := propext ⟨fun ⟨k, e, q⟩ => by subst e; exact q, fun h => by cases x <;> first | exact h.elim | exact ⟨_, rfl, h⟩⟩
def cTru (K : PySem.W.Frag) (te : TE) : TT := fun σ H Q => te σ H fun x H' => match x with
  | .non => Q false H'
  | .bl b => Q b H'
  | .int i => Q (i != 0) H'
  | .str y => y.length ≤ sizeLine ∧ Q ((y.length : Int) != 0) H'
  | .ref p => ∃ k, TruV K (.ref p) H' k ∧ Q k H'
  | _ => False
theorem tru_eq {K : PySem.W.Frag} {x : V} {H : Hp} {Q : Bool → Hp → Prop} (hb : ∀ b, x ≠ .byt b) : (∃ k, TruV K x H k ∧ Q k H) = (match x with
  | .non => Q false H
  | .bl b => Q b H
  | .int i => Q (i != 0) H
  | .str y => y.length ≤ sizeLine ∧ Q ((y.length : Int) != 0) H
  | .ref p => ∃ k, TruV K (.ref p) H k ∧ Q k H
  | _ => False) := propext ⟨fun ⟨k, e, q⟩ => by
    cases x with
    | non => have e' : k = false := e; subst e'; exact q
    | bl b => have e' : k = b := e; subst e'; exact q
    | int i => have e' : k = (i != 0) := e; subst e'; exact q
    | str y => obtain ⟨h, e'⟩ : _ ∧ _ := e; subst e'; exact ⟨h, q⟩
    | ref p => exact ⟨k, e, q⟩
    | byt b => exact absurd rfl (hb b)
    | flt b => exact e.elim
    | ty n => exact e.elim, fun h => by
    cases x with
    | non => exact ⟨_, rfl, h⟩
    | bl b => exact ⟨_, rfl, h⟩
    | int i => exact ⟨_, rfl, h⟩
    | str y => exact ⟨_, ⟨h.1, rfl⟩, h.2⟩
    | ref p => exact h
    | _ => exact h.elim⟩
section
variable {X : Cx}
/-- an expression that gives True or False, as a test -/
theorem ct {e : Expr} {te : TE} (h : PE X e te) (hb : ∀ whole : Sem Value, PySem.isTrue e X.env whole = (do
      let v ← whole
      standAt e.pos
      holding [v] (truthy v)) := by intro _; rfl) : PT X e (cBl te) := PT.imp (pt_val h hb) fun σ H Q q => by
  unfold tB
  simp only [bl_eq]
  exact q
/-- a comparison as a test -/
theorem ctc {op : CmpOp} {r : R2} {a b : Expr} {ta tb : TE} {pos : Pos} (ho : OpR X (compareOp op) r) (ha : PE X a ta) (hb : PE X b tb) (hm : behindInMarks op b = false) : PT X (.Compare a [op] [b] pos) (cBl (tOp r ta tb)) := PT.imp (pt_cmpR ho ha hb hm) fun σ H Q q => by
  unfold tTest
  simp only [bl_eq]
  exact q
/-! ### operators -/
def cI (g : Int → Int → V) : R2 := fun x y H Q => match x, y with
  | .int i, .int j => Q (g i j) H
  | _, _ => False
theorem cI_imp {g : Int → Int → V} {x y : V} {H : Hp} {Q : VK} (h : cI g x y H Q) : rI0 g x y H Q := by
  cases x <;> cases y <;> first | exact h.elim | exact ⟨_, _, rfl, rfl, h⟩
def cIc (C : Int → Int → Prop) (g : Int → Int → V) : R2 := fun x y H Q => match x, y with
  | .int i, .int j => C i j ∧ Q (g i j) H
  | _, _ => False
theorem cIc_imp {C : Int → Int → Prop} {g : Int → Int → V} {x y : V} {H : Hp} {Q : VK} (h : cIc C g x y H Q) : rI C g x y H Q := by
  cases x <;> cases y <;> first | exact h.elim | exact ⟨_, _, rfl, rfl, h.1, h.2⟩
def cAdd (K : PySem.W.Frag) : R2 := fun x y H Q => match x, y with
  | .int i, .int j => Q (.int (i + j)) H
  | .str a, .str b => a.length + b.length ≤ sizeLine ∧ Q (.str (a ++ b)) H
  | .ref a, .ref b => rCat (.ref a) (.ref b) H Q ∨ rCatT K (.ref a) (.ref b) H Q
  | _, _ => False
theorem co_add : OpR X (binaryOp .Add) (cAdd X.K) := by
  intro pins s σ H x y v u Q I rx ry q
  cases x <;> cases y <;> first
    | exact q.elim
    | exact op_add pins s σ H _ _ v u Q I rx ry ⟨_, _, rfl, rfl, q⟩
    | exact op_add_str pins s σ H _ _ v u Q I rx ry ⟨_, _, rfl, rfl, q.1, q.2⟩
    | (rcases q with q | q
       · exact op_cat pins s σ H _ _ v u Q I rx ry q
       · exact op_catT pins s σ H _ _ v u Q I rx ry q)
theorem co_sub : OpR X (binaryOp .Sub) (cI fun i j => .int (i - j)) := OpR.imp op_sub fun _ _ _ _ q => cI_imp q
theorem co_mul : OpR X (binaryOp .Mult) (cIc CMul fun i j => .int (i * j)) := OpR.imp op_mul fun _ _ _ _ q => cIc_imp q
theorem co_mod : OpR X (binaryOp .Mod) (cIc (fun _ j => j ≠ 0) fun i j => .int (i.fmod j)) := OpR.imp op_modN fun _ _ _ _ q => cIc_imp q
theorem co_fdiv : OpR X (binaryOp .FloorDiv) (cIc CDivN fun i j => .int (i.fdiv j)) := OpR.imp op_fdivN fun _ _ _ _ q => cIc_imp q
theorem co_pow : OpR X (binaryOp .Pow) (cIc CPow fun i j => .int (i ^ j.toNat)) := OpR.imp op_pow fun _ _ _ _ q => cIc_imp q
theorem co_lt : OpR X (compareOp .Lt) (cI fun i j => .bl (decide (i < j))) := OpR.imp op_lt fun _ _ _ _ q => cI_imp q
theorem co_le : OpR X (compareOp .LtE) (cI fun i j => .bl (decide (i ≤ j))) := OpR.imp op_le fun _ _ _ _ q => cI_imp q
theorem co_gt : OpR X (compareOp .Gt) (cI fun i j => .bl (decide (j < i))) := OpR.imp op_gt fun _ _ _ _ q => cI_imp q
theorem co_ge : OpR X (compareOp .GtE) (cI fun i j => .bl (decide (j ≤ i))) := OpR.imp op_ge fun _ _ _ _ q => cI_imp q
/-- is None, is not None -/
def cIsN (neg : Bool) : R2 := fun x y H Q => match y with
  | .non => Q (.bl (if neg then !decide (x = .non) else decide (x = .non))) H
  | _ => False
theorem co_isN : OpR X (compareOp .Is) (cIsN false) := OpR.imp op_isN fun x y H Q q => by
  cases y <;> first | exact q.elim | exact ⟨rfl, q⟩
theorem co_notN : OpR X (compareOp .IsNot) (cIsN true) := OpR.imp op_notN fun x y H Q q => by
  cases y <;> first | exact q.elim | exact ⟨rfl, q⟩
/-- ==, != of flat values; of lists and tuples of data at any depth -/
def cEq (K : PySem.W.Frag) (neg : Bool) : R2 := fun x y H Q => match x, y with
  | .ref a, .ref b => ∃ d e, Dp K H (.ref a) d ∧ Dp K H (.ref b) e ∧ SeqAt.shaped d = true ∧ SeqAt.shaped e = true ∧ Q (.bl (if neg then !PyData.eqv d e else PyData.eqv d e)) H
  | x, y => scal x y = true ∧ Q (.bl (if neg then !decide (x = y) else decide (x = y))) H
theorem co_eq (hu : X.A.units + 64 < cLine) : OpR X (compareOp .Eq) (cEq X.K false) := by
  intro pins s σ H x y v u Q I rx ry q
  by_cases hr : ∃ a b, x = .ref a ∧ y = .ref b
  · obtain ⟨a, b, rfl, rfl⟩ := hr
    exact op_eqD hu pins s σ H _ _ v u Q I rx ry q
  · have q' : scal x y = true ∧ Q (.bl (decide (x = y))) H := by
      cases x <;> cases y <;> first | exact q | exact absurd ⟨_, _, rfl, rfl⟩ hr
    exact op_eq pins s σ H _ _ v u Q I rx ry q'
theorem co_ne (hu : X.A.units + 64 < cLine) : OpR X (compareOp .NotEq) (cEq X.K true) := by
  intro pins s σ H x y v u Q I rx ry q
  by_cases hr : ∃ a b, x = .ref a ∧ y = .ref b
  · obtain ⟨a, b, rfl, rfl⟩ := hr
    exact op_neD hu pins s σ H _ _ v u Q I rx ry q
  · have q' : scal x y = true ∧ Q (.bl (!decide (x = y))) H := by
      cases x <;> cases y <;> first | exact q | exact absurd ⟨_, _, rfl, rfl⟩ hr
    exact op_ne pins s σ H _ _ v u Q I rx ry q'
/-- x in y, x not in y: texts; a flat value in a list or tuple of such -/
def inTx (a b : Str) : Bool := !(Builtin.Str.occurrences b a 0 b.length 1).isEmpty
def cIn (K : PySem.W.Frag) (neg : Bool) : R2 := fun x y H Q => match y with
  | .str b => (match x with
    | .str a => Q (.bl (if neg then !inTx a b else inTx a b)) H
    | _ => False)
  | .ref p => ∃ xs, (SqL K H p xs ∨ SqT K H p xs) ∧ flatV x = true ∧ xs.all flatV = true ∧ Q (.bl (if neg then !inV x xs else inV x xs)) H
  | _ => False
theorem co_in : OpR X (compareOp .In) (cIn X.K false) := by
  intro pins s σ H x y v u Q I rx ry q
  cases y with
  | str b => cases x with
    | str a => exact op_in_str pins s σ H _ _ v u Q I rx ry ⟨_, _, rfl, rfl, q⟩
    | _ => exact q.elim
  | ref p =>
    obtain ⟨xs, h1, h2, h3, h4⟩ := q
    exact op_in_seq pins s σ H _ _ v u Q I rx ry ⟨p, xs, rfl, h1, h2, h3, h4⟩
  | _ => exact q.elim
theorem co_notIn : OpR X (compareOp .NotIn) (cIn X.K true) := by
  intro pins s σ H x y v u Q I rx ry q
  cases y with
  | str b => cases x with
    | str a => exact L2.op_notin_str pins s σ H _ _ v u Q I rx ry ⟨_, _, rfl, rfl, q⟩
    | _ => exact q.elim
  | ref p =>
    obtain ⟨xs, h1, h2, h3, h4⟩ := q
    exact op_notIn_seq pins s σ H _ _ v u Q I rx ry ⟨p, xs, rfl, h1, h2, h3, h4⟩
  | _ => exact q.elim
/-! ### subscripts, slices -/
def cIx (K : PySem.W.Frag) : R2 := fun x y H Q => match x, y with
  | .str z, .int i => z.length ≤ sizeLine ∧ ∃ c, atI z.cps.toList i = some c ∧ Q (.str ⟨#[c]⟩) H
  | .ref p, .int i => ∃ xs v, (SqL K H p xs ∨ SqT K H p xs) ∧ atI xs i = some v ∧ Q v H
  | _, _ => False
theorem ci_any : IxR X (cIx X.K) := by
  intro value slice pins s σ H x y v u Q I rx ry q hs
  cases x <;> cases y <;> first
    | exact q.elim
    | (obtain ⟨hz, c, h1, h2⟩ := q
       exact ix_str value slice pins s σ H _ _ v u Q I rx ry ⟨_, _, c, rfl, rfl, hz, h1, h2⟩ hs)
    | (obtain ⟨xs, z, h1, h2, h3⟩ := q
       rcases h1 with h1 | h1
       · exact ix_list value slice pins s σ H _ _ v u Q I rx ry ⟨_, xs, _, z, rfl, rfl, h1, h2, h3⟩ hs
       · exact ix_tup value slice pins s σ H _ _ v u Q I rx ry ⟨_, xs, _, z, rfl, rfl, h1, h2, h3⟩ hs)
/-- e[i] -/
theorem cix {a b : Expr} {ta tb : TE} {pos : Pos} (ha : PE X a ta) (hb : PE X b tb) (hp : PlainIx b := by exact fun _ _ => rfl) : PE X (.Subscript a b pos) (tOp (cIx X.K) ta tb) := pe_ix ci_any ha hb hp
def cSl (K : PySem.W.Frag) : V → Option Int → Option Int → Hp → VK → Prop := fun x lo hi H Q => match x with
  | .str z => z.length ≤ sizeLine ∧ Q (.str (cutS z lo hi)) H
  | .ref a => ∃ xs, SqL K H a xs ∧ ∀ p, H p = none → Q (.ref p) (upd H p (.lst (cutV xs lo hi)))
  | _ => False
theorem cs_any : SlR X (cSl X.K) := by
  intro pins s σ H x v vl vu lo hi sl Q I rx hs pl pu h
  cases x <;> first
    | exact h.elim
    | exact sl_str pins s σ H _ v vl vu lo hi sl Q I rx hs pl pu ⟨_, rfl, h.1, h.2⟩
    | (obtain ⟨xs, h1, h2⟩ := h
       exact sl_list pins s σ H _ v vl vu lo hi sl Q I rx hs pl pu ⟨_, xs, rfl, h1, h2⟩)
/-! ### built-ins -/
def cLen (K : PySem.W.Frag) : List V → Hp → VK → Prop := fun xs H Q => match xs with
  | [.str z] => z.length ≤ sizeLine ∧ Q (.int (z.length : Nat)) H
  | [.ref p] => ∃ ys, (SqL K H p ys ∨ SqT K H p ys) ∧ Q (.int (ys.length : Nat)) H
  | _ => False
theorem cc_len : CallR X (.builtin "len") (cLen X.K) := by
  intro pins s σ H xs us Q I rs h
  have z : ∃ x n, xs = [x] ∧ LenV X.K x H n ∧ Q (.int n) H := by
    match xs, h with
    | [.str z], h => exact ⟨_, z.length, rfl, ⟨h.1, rfl⟩, h.2⟩
    | [.ref p], h =>
      obtain ⟨ys, h1 | h1, q⟩ := h
      · exact ⟨_, ys.length, rfl, .inl ⟨ys, h1, rfl⟩, q⟩
      · exact ⟨_, ys.length, rfl, .inr ⟨ys, h1, rfl⟩, q⟩
  exact call_len pins s σ H xs us Q I rs z
def cAbs : List V → Hp → VK → Prop := fun xs H Q => match xs with
  | [.int i] => Q (.int (if i < 0 then -i else i)) H
  | _ => False
theorem cc_abs : CallR X (.builtin "abs") cAbs := by
  intro pins s σ H xs us Q I rs h
  refine call_abs pins s σ H xs us Q I rs ?_
  match xs, h with
  | [.int i], h => exact ⟨i, rfl, h⟩
def cMin2 : List V → Hp → VK → Prop := fun xs H Q => match xs with
  | [.int i, .int j] => Q (.int (if j < i then j else i)) H
  | _ => False
theorem cc_min2 (hc : X.calm = true) : CallR X (.builtin "min") cMin2 := by
  intro pins s σ H xs us Q I rs h
  refine call_min2 hc pins s σ H xs us Q I rs ?_
  match xs, h with
  | [.int i, .int j], h => exact ⟨i, j, rfl, h⟩
end
end Xs
set_option Elab.async false
set_option linter.all false
set_option maxRecDepth 100000
set_option maxHeartbeats 4000000
/-! Xt: a def's promise as one bundle (OkF), its call; texts' methods by values. -/
namespace Xs
open PySem PySem.Spec PyProof.Rows L2
/-- the def at f keeps the promise sp, called by place -/
def OkF (P : Program) (w : World) (K : PySem.W.Frag) (mg : Str → Option Value) (base : Heap) (CX : CXT) (k : Nat) (f : Addr) (ps : List Str) (sp : Sp) : Prop := ∃ fd, FnOk P w K mg base CX k f fd ps sp ∧ Binds K fd ps []
section
variable {P : Program} {w : World} {K : PySem.W.Frag} {mg : Str → Option Value} {base : Heap} {CX : CXT} {j k : Nat} {f : Addr} {ps : List Str} {sp sp' : Sp}
theorem OkF.mono (F : OkF P w K mg base CX j f ps sp) (h : j ≤ k) : OkF P w K mg base CX k f ps sp := ⟨F.choose, F.choose_spec.1.mono h, F.choose_spec.2⟩
theorem OkF.imp (F : OkF P w K mg base CX k f ps sp) (h : ∀ vs H Q E, sp' vs H Q E → sp vs H Q E) : OkF P w K mg base CX k f ps sp' := ⟨F.choose, F.choose_spec.1.imp h, F.choose_spec.2⟩
theorem OkF.r (F : OkF P w K mg base CX k f ps sp) : FnR P w K mg base CX k f sp := by
  obtain ⟨fd, F, b⟩ := F
  have z := F.raw b (.nil : Vals [] [])
  exact z.imp fun vs H Q E q => by rw [List.append_nil]; exact q
end
section
variable {X : Cx} {CX : CXT} {k : Nat} {f : Addr} {ps : List Str} {sp : Sp} {E : XK} {x : Str} {e : Expr} {es : List Expr} {t : TA} {p pos : Pos}
def tCallF (sp : Sp) (E : XK) (t : TA) : TE := fun σ H Q => t σ H fun vs H1 => sp vs H1 Q E
/-- f(e, ..), f a def of the text -/
theorem pf (F : OkF X.prog X.w X.K X.mg X.base CX k f ps sp) (hr : Room k X.A) (hm : X.mg x = some (.ref f)) (hk : PySem.W.keepIn X.K (.ref f) = true) (hx : Passes CX X E) (ha : PA X (e :: es) t) (hg : Gl X x := by rfl) (hdb : (x == ("__debug__" : Str)) = false := by decide)
    (he : starEach (e :: es) X.env = (false, eval e X.env) :: starEach es X.env := by rfl) (hpl : (backTo pos (starEach es X.env)).any (·.1) = false := by rfl) : PE X (.Call (.Name x p) (e :: es) [] pos) (tCallF sp E t) := by
  refine ⟨fun pins s σ H Q I h => ?_⟩
  refine wpAny_Call_Name_kw (ld_glob I hg hm ?_ hdb)
  refine PySem.W.callWith_K (h₀ := X.base) I.ok.mod.kin hk (thn (ha.run pos pins s σ H _ I h) fun us s1 ⟨vs, H1, I1, r, q⟩ => ⟨I1.kIn, ?_⟩) he hpl
  exact wpAny_call (run_fnR F.r hr hx I1 r q)
theorem pf0 (F : OkF X.prog X.w X.K X.mg X.base CX k f ps sp) (hr : Room k X.A) (hm : X.mg x = some (.ref f)) (hk : PySem.W.keepIn X.K (.ref f) = true) (hx : Passes CX X E) (hg : Gl X x := by rfl) (hdb : (x == ("__debug__" : Str)) = false := by decide) :
    PE X (.Call (.Name x p) [] [] pos) (tCallF sp E tNil) := by
  refine ⟨fun pins s σ H Q I h => ?_⟩
  refine wpAny_Call_Name_kw (ld_glob I hg hm ?_ hdb)
  exact PySem.W.callWith_K0 I.kIn hk (wpAny_call (run_fnR (us := []) F.r hr hx I .nil h))
/-- f(e, ..) within a try's body -/
def tCallFS (sp : Sp) (E : L2.St → XK) (t : TA) : TE := fun σ H Q => t σ H fun vs H1 => sp vs H1 Q (E σ)
theorem pfS {E : L2.St → XK} (F : OkF X.prog X.w X.K X.mg X.base CX k f ps sp) (hr : Room k X.A) (hm : X.mg x = some (.ref f)) (hk : PySem.W.keepIn X.K (.ref f) = true) (hx : ∀ σ, PassesAt CX X σ (E σ)) (ha : PA X (e :: es) t) (hg : Gl X x := by rfl) (hdb : (x == ("__debug__" : Str)) = false := by decide)
    (he : starEach (e :: es) X.env = (false, eval e X.env) :: starEach es X.env := by rfl) (hpl : (backTo pos (starEach es X.env)).any (·.1) = false := by rfl) : PE X (.Call (.Name x p) (e :: es) [] pos) (tCallFS sp E t) := by
  obtain ⟨fd, G, b⟩ := F
  exact pe_callS (E := E) G hr hg hm hk b hx ha hdb he hpl
end
/-! ### methods of texts by values -/
def cT1 (C : Str → Str → Prop) (g : Str → Str → V) : V → List V → Hp → VK → Prop := fun x xs H Q => match x, xs with
  | .str a, [.str b] => C a b ∧ Q (g a b) H
  | _, _ => False
def cT1f (g : Str → Str → V) : V → List V → Hp → VK → Prop := fun x xs H Q => match x, xs with
  | .str a, [.str b] => Q (g a b) H
  | _, _ => False
section
variable {X : Cx}
theorem MtR.imp {id : String} {r r' : V → List V → Hp → VK → Prop} (h : MtR X id r) (i : ∀ x xs H Q, r' x xs H Q → r x xs H Q) : MtR X id r' := fun pins s σ H x xs v us Q I rx rs q => h pins s σ H x xs v us Q I rx rs (i x xs H Q q)
theorem cT1_ex {C : Str → Str → Prop} {g : Str → Str → V} {x : V} {xs : List V} {H : Hp} {Q : VK} (h : cT1 C g x xs H Q) : ∃ a b, x = .str a ∧ xs = [.str b] ∧ C a b ∧ Q (g a b) H := by
  unfold cT1 at h
  split at h
  · exact ⟨_, _, rfl, rfl, h.1, h.2⟩
  · exact h.elim
theorem cT1f_ex {g : Str → Str → V} {x : V} {xs : List V} {H : Hp} {Q : VK} (h : cT1f g x xs H Q) : ∃ a b, x = .str a ∧ xs = [.str b] ∧ Q (g a b) H := by
  unfold cT1f at h
  split at h
  · exact ⟨_, _, rfl, rfl, h⟩
  · exact h.elim
theorem cm_startswith : MtR X "str.startswith" (cT1f fun a b => .bl (Txt.startswith a b)) := MtR.imp mt_startswith fun _ _ _ _ q => cT1f_ex q
theorem cm_find : MtR X "str.find" (cT1f fun a b => .int (Txt.find a b)) := MtR.imp mt_find fun _ _ _ _ q => cT1f_ex q
theorem cm_rfind : MtR X "str.rfind" (cT1f fun a b => .int (Txt.rfind a b)) := MtR.imp mt_rfind fun _ _ _ _ q => cT1f_ex q
theorem cm_lstripChars : MtR X "str.lstrip" (cT1 (fun a _ => a.length ≤ sizeLine) fun a b => .str (Txt.lstripChars a b)) := MtR.imp mt_lstripChars fun _ _ _ _ q => cT1_ex q
def cFind3 : V → List V → Hp → VK → Prop := fun x xs H Q => match x, xs with
  | .str a, [.str b, .int i] => Q (.int (Txt.find3 a b i)) H
  | .str a, [.str b, .int i, .int j] => Q (.int (Txt.findIn a b i j)) H
  | _, _ => False
theorem cm_find3 : MtR X "str.find" cFind3 := by
  intro pins s σ H x xs v us Q I rx rs h
  unfold cFind3 at h
  split at h
  · exact mt_find3 pins s σ H _ _ v us Q I rx rs ⟨_, _, _, rfl, rfl, h⟩
  · exact mt_find4 pins s σ H _ _ v us Q I rx rs ⟨_, _, _, _, rfl, rfl, h⟩
  · exact h.elim
def cSplit : V → List V → Hp → VK → Prop := fun x xs H Q => match x, xs with
  | .str a, [.str b] => (b.length == 0) = false ∧ a.length + 2 ≤ sizeLine ∧ rNewStrs (Txt.split a b) H Q
  | _, _ => False
theorem cm_split : MtR X "str.split" cSplit := MtR.imp mt_split fun x xs H Q q => by
  unfold cSplit at q
  split at q
  · exact ⟨_, _, rfl, rfl, q.1, q.2.1, q.2.2⟩
  · exact q.elim
def cPart : V → List V → Hp → VK → Prop := fun x xs H Q => match x, xs with
  | .str a, [.str b] => (b.length == 0) = false ∧ a.length ≤ sizeLine ∧ ∀ p, H p = none → Q (.ref p) (upd H p (.tup [.str (Txt.partition a b).1, .str (Txt.partition a b).2.1, .str (Txt.partition a b).2.2]))
  | _, _ => False
theorem cm_partition : MtR X "str.partition" cPart := MtR.imp mt_partition fun x xs H Q q => by
  unfold cPart at q
  split at q
  · exact ⟨_, _, rfl, rfl, q.1, q.2.1, q.2.2⟩
  · exact q.elim
/-- a text's method with any arguments -/
def cM (r : V → List V → Hp → VK → Prop) (to : TE) (t : TA) : TE := fun σ H Q => to σ H fun x H1 => (∃ a, x = .str a) ∧ t σ H1 fun xs H2 => r x xs H2 Q
end
end Xs
set_option Elab.async false
set_option linter.all false
set_option maxRecDepth 100000
set_option maxHeartbeats 4000000
/-! Xc: readings that look into the heap by themselves, heaps that grow, loops over enumerate. -/
namespace Xs
open PySem PySem.Spec PyProof.Rows L2
theorem nox_K {CX : CXT} {P : Program} {w : World} {K : PySem.W.Frag} {mg : Str → Option Value} {base : Heap} {N : List Str} {qual : Str} {scope : Scope} {f : Addr} {cdv : Value} {A : Around} {outer : List Env} {s : Shared} {H : Hp} {E : XK} : (cxOf CX P w K mg base N qual scope f cdv A outer s H E).nox.K = K := rfl
theorem cx_K {CX : CXT} {P : Program} {w : World} {K : PySem.W.Frag} {mg : Str → Option Value} {base : Heap} {N : List Str} {qual : Str} {scope : Scope} {f : Addr} {cdv : Value} {A : Around} {outer : List Env} {s : Shared} {H : Hp} {E : XK} : (cxOf CX P w K mg base N qual scope f cdv A outer s H E).K = K := rfl
section
variable {X : Cx}
/-! ### by the heap -/
def seqAt (H : Hp) (p : Addr) (i : Int) : Option V := match H p with
  | some (.lst xs) => atI xs i
  | some (.tup xs) => atI xs i
  | _ => none
def hIx (K : PySem.W.Frag) : R2 := fun x y H Q => match x, y with
  | .str z, .int i => z.length ≤ sizeLine ∧ (match atI z.cps.toList i with
    | some c => Q (.str ⟨#[c]⟩) H
    | none => False)
  | .ref p, .int i => (match seqAt H p i with
    | some v => Q v H
    | none => cIx K (.ref p) (.int i) H Q)
  | _, _ => False
theorem seqAt_lst {H : Hp} {p : Addr} {i : Int} {xs : List V} (h : H p = some (.lst xs)) : seqAt H p i = atI xs i := by
  unfold seqAt; rw [h]
theorem seqAt_tup {H : Hp} {p : Addr} {i : Int} {xs : List V} (h : H p = some (.tup xs)) : seqAt H p i = atI xs i := by
  unfold seqAt; rw [h]
theorem hIx_imp {K : PySem.W.Frag} {x y : V} {H : Hp} {Q : VK} (h : hIx K x y H Q) : cIx K x y H Q := by
  unfold hIx at h
  split at h
  · obtain ⟨h0, h⟩ := h
    split at h
    · exact ⟨h0, _, ‹_›, h⟩
    · exact h.elim
  · split at h
    · rename_i v hv
      unfold seqAt at hv
      split at hv
      · exact ⟨_, _, .inl (.inl (Rd.of ‹_›)), hv, h⟩
      · exact ⟨_, _, .inr (.inl (Rd.of ‹_›)), hv, h⟩
      · cases hv
    · exact h
  · exact h.elim
theorem hix {a b : Expr} {ta tb : TE} {pos : Pos} (ha : PE X a ta) (hb : PE X b tb) (hp : PlainIx b := by exact fun _ _ => rfl) : PE X (.Subscript a b pos) (tOp (hIx X.K) ta tb) :=
  pe_ix (fun value slice pins s σ H x y v u Q I rx ry q hs => ci_any value slice pins s σ H x y v u Q I rx ry (hIx_imp q) hs) ha hb hp
def hLen (K : PySem.W.Frag) : List V → Hp → VK → Prop := fun xs H Q => match xs with
  | [.str z] => z.length ≤ sizeLine ∧ Q (.int (z.length : Nat)) H
  | [.ref p] => (match H p with
    | some (.lst ys) => Q (.int (ys.length : Nat)) H
    | some (.tup ys) => Q (.int (ys.length : Nat)) H
    | _ => cLen K [.ref p] H Q)
  | _ => False
theorem hLen_imp {K : PySem.W.Frag} {xs : List V} {H : Hp} {Q : VK} (h : hLen K xs H Q) : cLen K xs H Q := by
  unfold hLen at h
  split at h
  · exact h
  · split at h
    · exact ⟨_, .inl (.inl (Rd.of ‹_›)), h⟩
    · exact ⟨_, .inr (.inl (Rd.of ‹_›)), h⟩
    · exact h
  · exact h.elim
theorem hc_len : CallR X (.builtin "len") (hLen X.K) := fun pins s σ H xs us Q I rs h => cc_len pins s σ H xs us Q I rs (hLen_imp h)
def hSl (K : PySem.W.Frag) : V → Option Int → Option Int → Hp → VK → Prop := fun x lo hi H Q => match x with
  | .str z => z.length ≤ sizeLine ∧ Q (.str (cutS z lo hi)) H
  | .ref a => (match H a with
    | some (.lst xs) => ∀ p, H p = none → Q (.ref p) (upd H p (.lst (cutV xs lo hi)))
    | _ => cSl K (.ref a) lo hi H Q)
  | _ => False
theorem hSl_imp {K : PySem.W.Frag} {x : V} {lo hi : Option Int} {H : Hp} {Q : VK} (h : hSl K x lo hi H Q) : cSl K x lo hi H Q := by
  unfold hSl at h
  split at h
  · exact h
  · split at h
    · exact ⟨_, .inl (Rd.of ‹_›), h⟩
    · exact h
  · exact h.elim
theorem hs_any : SlR X (hSl X.K) := fun pins s σ H x v vl vu lo hi sl Q I rx hs pl pu h => cs_any pins s σ H x v vl vu lo hi sl Q I rx hs pl pu (hSl_imp h)
def hTru (K : PySem.W.Frag) (te : TE) : TT := fun σ H Q => te σ H fun x H' => match x with
  | .non => Q false H'
  | .bl b => Q b H'
  | .int i => Q (i != 0) H'
  | .str y => y.length ≤ sizeLine ∧ Q ((y.length : Int) != 0) H'
  | .ref p => ∃ k, TruV K (.ref p) H' k ∧ Q k H'
  | .byt b => ∃ k, TruV K (.byt b) H' k ∧ Q k H'
  | _ => False
theorem truH_eq {K : PySem.W.Frag} {x : V} {H : Hp} {Q : Bool → Hp → Prop} : (∃ k, TruV K x H k ∧ Q k H) = (match x with
  | .non => Q false H
  | .bl b => Q b H
  | .int i => Q (i != 0) H
  | .str y => y.length ≤ sizeLine ∧ Q ((y.length : Int) != 0) H
  | .ref p => ∃ k, TruV K (.ref p) H k ∧ Q k H
  | .byt b => ∃ k, TruV K (.byt b) H k ∧ Q k H
  | _ => False) := propext ⟨fun ⟨k, e, q⟩ => by
    cases x with
    | non => have e' : k = false := e; subst e'; exact q
    | bl b => have e' : k = b := e; subst e'; exact q
    | int i => have e' : k = (i != 0) := e; subst e'; exact q
    | str y => obtain ⟨h, e'⟩ : _ ∧ _ := e; subst e'; exact ⟨h, q⟩
    | ref p => exact ⟨k, e, q⟩
    | byt b => exact ⟨k, e, q⟩
    | flt b => exact e.elim
    | ty n => exact e.elim, fun h => by
    cases x with
    | non => exact ⟨_, rfl, h⟩
    | bl b => exact ⟨_, rfl, h⟩
    | int i => exact ⟨_, rfl, h⟩
    | str y => exact ⟨_, ⟨h.1, rfl⟩, h.2⟩
    | ref p => exact h
    | byt b => exact h
    | _ => exact h.elim⟩
/-- a value as a test -/
theorem hTr {e : Expr} {te : TE} (h : PE X e te) (hb : ∀ whole : Sem Value, PySem.isTrue e X.env whole = (do
      let v ← whole
      standAt e.pos
      holding [v] (truthy v)) := by intro _; rfl) : PT X e (hTru X.K te) := PT.imp (pt_truth h hb) fun σ H Q q => by
  unfold hTru at q
  simp only [← truH_eq] at q
  exact q
theorem ps_dead {st : Stmt} : PS X st (fun _ _ _ => False) := ⟨fun _ _ _ _ _ _ h => h.elim⟩
/-! ### a text's method by values -/
/-- xs[d], d a drawn place -/
theorem hIx_all {K : PySem.W.Frag} {xs : List V} {d : Int} {p : Addr} {H : Hp} {Q : VK} (hp : H p = some (.lst xs)) (h0 : 0 ≤ d) (h1 : d < xs.length) (h : ∀ v ∈ xs, Q v H) : hIx K (.ref p) (.int d) H Q := by
  show (match seqAt H p d with
    | some v => Q v H
    | none => cIx K (.ref p) (.int d) H Q)
  rw [seqAt_lst hp]
  have e : atI xs d = some xs[d.toNat] := by
    unfold atI ixN
    rw [if_pos h0, if_pos h1]
    simp
  simp only [e]
  exact h _ (List.getElem_mem _)
theorem setL_at {H : Hp} {p : Addr} {xs : List V} {k : Int} {j : Nat} {v : V} {Q : Hp → Prop} (hp : H p = some (.lst xs)) (hj : ixN xs.length k = some j) (q : Q (upd H p (.lst (xs.set j v)))) : rSetL (.ref p) (.int k) v H Q := ⟨p, xs, k, j, rfl, rfl, hp, hj, q⟩
theorem hIx_chr {K : PySem.W.Frag} {z : Str} {d : Int} {H : Hp} {Q : VK} (hz : z.length ≤ sizeLine) (h0 : 0 ≤ d) (h1 : d < (z.length : Nat)) (h : ∀ c ∈ z.cps.toList, Q (.str ⟨#[c]⟩) H) : hIx K (.str z) (.int d) H Q := by
  refine ⟨hz, ?_⟩
  have hl : (z.length : Nat) = z.cps.toList.length := by simp [Str.length]
  have h1' : d < z.cps.toList.length := by rw [← hl]; exact h1
  have hj : d.toNat < z.cps.toList.length := by omega
  have e : atI z.cps.toList d = some (z.cps.toList[d.toNat]'hj) := by
    unfold atI ixN
    rw [if_pos h0, if_pos h1']
    show z.cps.toList[d.toNat]? = _
    exact List.getElem?_eq_getElem hj
  rw [e]
  exact h _ (List.getElem_mem _)
end
/-! ### heaps that grow, but for the object at a -/
def Kp (a : Addr) (H H' : Hp) : Prop := ∀ p o, p ≠ a → H p = some o → H' p = some o
theorem Kp.refl {a : Addr} {H : Hp} : Kp a H H := fun _ _ _ h => h
theorem Kp.trans {a : Addr} {H H' H'' : Hp} (h : Kp a H H') (h' : Kp a H' H'') : Kp a H H'' := fun p o n e => h' p o n (h p o n e)
theorem Kp.fresh {a p : Addr} {H H' : Hp} {o : HO} (h : Kp a H H') (hp : H' p = none) : Kp a H (upd H' p o) := fun q o' n e => by
  have z := h q o' n e
  unfold upd
  split
  · subst q; rw [hp] at z; cases z
  · exact z
theorem Kp.at {a : Addr} {H H' : Hp} {o : HO} (h : Kp a H H') : Kp a H (upd H' a o) := fun q o' n e => by
  unfold upd
  rw [if_neg n]
  exact h q o' n e
theorem upd_self {H : Hp} {a : Addr} {o : HO} : upd H a o a = some o := if_pos rfl
theorem upd_old {H : Hp} {a p : Addr} {o o' : HO} (h : H a = some o') (hp : H p = none) : upd H p o a = some o' := by
  rw [upd_ne, h]
  intro e; subst e; rw [h] at hp; cases hp
theorem _root_.L2.Ext.rf {H : Hp} : Ext H H := fun _ _ h => h
theorem _root_.L2.Ext.tr {H H' H'' : Hp} (h : Ext H H') (h' : Ext H' H'') : Ext H H'' := fun a o e => h' a o (h a o e)
theorem _root_.L2.Ext.fresh {H H' : Hp} {p : Addr} {o : HO} (h : Ext H H') (hp : H' p = none) : Ext H (upd H' p o) := fun a o' e => upd_old (h a o' e) hp
theorem Kp.ext {a : Addr} {H H' H'' : Hp} (h : Kp a H H') (h' : Ext H' H'') : Kp a H H'' := fun p o n e => h' p o (h p o n e)
theorem ne_none {H : Hp} {a p : Addr} {o : HO} (h : H a = some o) (hp : H p = none) : a ≠ p := fun e => by subst e; rw [h] at hp; cases hp
/-! ### enumerate -/
theorem for_enum {K : PySem.W.Frag} {a : Addr} {xs : List V} {g : TG} {tb : TS} {D : Ends} {σ : L2.St} {H : Hp} (Pv : Nat → L2.St → Hp → Prop) (h0 : Pv 0 σ H) (hl : ∀ i σ H, i ≤ xs.length → Pv i σ H → SqL K H a xs)
    (hs : ∀ i x σ H T, xs[i]? = some x → Pv i σ H → H T = none → g (.ref T) σ (upd H T (.tup [.int (i : Nat), x])) fun σ2 H2 => tb { D with nx := Pv (i + 1), ct := Pv (i + 1), bk := D.nx } σ2 H2) (hd : ∀ σ H, Pv xs.length σ H → D.nx σ H) :
    ∃ W : Nat → Nat → L2.St → Hp → Prop, (∃ m, W 0 m σ H) ∧ ∀ i m σ H, W i m σ H →
      ((Ite K a).stop i H ∧ D.nx σ H) ∨ ((Ite K a).go i H ∧ ∃ N : L2.St → Hp → Prop, (∀ σ' H', N σ' H' → ∃ m', m' < m ∧ W (i + 1) m' σ' H') ∧ ∀ x H', (Ite K a).yld i H x H' → g x σ H' fun σ2 H2 => tb { D with nx := N, ct := N, bk := D.nx } σ2 H2) := by
  refine ⟨fun i m σ H => m = xs.length - i ∧ i ≤ xs.length ∧ Pv i σ H, ⟨xs.length, by simp, Nat.zero_le _, h0⟩, ?_⟩
  rintro i m σ H ⟨rfl, hi, p⟩
  have q := hl i σ H hi p
  by_cases hlt : i < xs.length
  · refine .inr ⟨⟨xs, xs[i], q, by simp [hlt]⟩, Pv (i + 1), fun σ' H' p' => ⟨xs.length - (i + 1), by omega, rfl, hlt, p'⟩, fun x H' y => ?_⟩
    obtain ⟨T, z, e, hT, e2, y⟩ := y
    subst e e2
    exact hs i z σ _ T (y xs q) p hT
  · have e : i = xs.length := by omega
    subst e
    exact .inl ⟨⟨xs, q, Nat.le_refl _⟩, hd σ H p⟩
/-- a loop from its state on -/
def Lp (J : It) (g : TG) (tb : TS) (D : Ends) (σ : L2.St) (H : Hp) : Prop := ∃ W : Nat → Nat → L2.St → Hp → Prop, (∃ m, W 0 m σ H) ∧ ∀ i m σ H, W i m σ H →
  (J.stop i H ∧ D.nx σ H) ∨ (J.go i H ∧ ∃ N : L2.St → Hp → Prop, (∀ σ' H', N σ' H' → ∃ m', m' < m ∧ W (i + 1) m' σ' H') ∧ ∀ x H', J.yld i H x H' → g x σ H' fun σ2 H2 => tb { D with nx := N, ct := N, bk := D.nx } σ2 H2)
theorem tFor_eq {wi : TI} {g : TG} {tb : TS} {D : Ends} {σ : L2.St} {H : Hp} : tFor wi g tb D σ H = wi σ H fun J H1 => Lp J g tb D σ H1 := rfl
/-- the ends of a loop's body: on to Nx, out to the end behind the loop -/
abbrev inL (D : Ends) (Nx : L2.St → Hp → Prop) : Ends := { D with nx := Nx, ct := Nx, bk := D.nx }
theorem lp_enum {K : PySem.W.Frag} {a : Addr} {xs : List V} {g : TG} {tb : TS} {D : Ends} {σ : L2.St} {H : Hp} (Pv : Nat → L2.St → Hp → Prop) (h0 : Pv 0 σ H) (hl : ∀ i σ H, i ≤ xs.length → Pv i σ H → SqL K H a xs)
    (hs : ∀ i x σ H T, xs[i]? = some x → Pv i σ H → H T = none → g (.ref T) σ (upd H T (.tup [.int (i : Nat), x])) fun σ2 H2 => tb (inL D (Pv (i + 1))) σ2 H2) (hd : ∀ σ H, Pv xs.length σ H → D.nx σ H) : Lp (Ite K a) g tb D σ H := for_enum Pv h0 hl hs hd
theorem lp_list {K : PySem.W.Frag} {a : Addr} {xs : List V} {g : TG} {tb : TS} {D : Ends} {σ : L2.St} {H : Hp} (Pv : Nat → L2.St → Hp → Prop) (h0 : Pv 0 σ H) (hl : ∀ i σ H, i ≤ xs.length → Pv i σ H → SqL K H a xs)
    (hs : ∀ i x σ H, xs[i]? = some x → Pv i σ H → g x σ H fun σ2 H2 => tb (inL D (Pv (i + 1))) σ2 H2) (hd : ∀ σ H, Pv xs.length σ H → D.nx σ H) : Lp (Itl K a) g tb D σ H := for_list Pv h0 hl hs hd
theorem lp_tup {K : PySem.W.Frag} {a : Addr} {xs : List V} {g : TG} {tb : TS} {D : Ends} {σ : L2.St} {H : Hp} (Pv : Nat → L2.St → Hp → Prop) (h0 : Pv 0 σ H) (hl : ∀ i σ H, i ≤ xs.length → Pv i σ H → SqT K H a xs)
    (hs : ∀ i x σ H, xs[i]? = some x → Pv i σ H → g x σ H fun σ2 H2 => tb (inL D (Pv (i + 1))) σ2 H2) (hd : ∀ σ H, Pv xs.length σ H → D.nx σ H) : Lp (Itt K a) g tb D σ H := for_tup Pv h0 hl hs hd
theorem lp_zipT {K : PySem.W.Frag} {a b : Addr} {xs ys : List V} {g : TG} {tb : TS} {D : Ends} {σ : L2.St} {H : Hp} (hl : xs.length = ys.length) (Pv : Nat → L2.St → Hp → Prop) (h0 : Pv 0 σ H) (hq : ∀ i σ H, Pv i σ H → SqT K H a xs ∧ SqT K H b ys)
    (hs : ∀ (i : Nat) (x y : V) (T : Addr) (σ : L2.St) (H : Hp), xs[i]? = some x → ys[i]? = some y → Pv i σ H → H T = none → g (.ref T) σ (upd H T (.tup [x, y])) fun σ2 H2 => tb (inL D (Pv (i + 1))) σ2 H2) (hd : ∀ σ H, Pv xs.length σ H → D.nx σ H) : Lp (RZ.ItzT K a b) g tb D σ H := RZ.for_zipT hl Pv h0 hq hs hd
theorem lp_range {lo : Int} {n : Nat} {g : TG} {tb : TS} {D : Ends} {σ : L2.St} {H : Hp} (Pv : Nat → L2.St → Hp → Prop) (h0 : Pv 0 σ H)
    (hs : ∀ i σ H, i < n → Pv i σ H → g (.int (lo + i)) σ H fun σ2 H2 => tb (inL D (Pv (i + 1))) σ2 H2) (hd : ∀ σ H, Pv n σ H → D.nx σ H) : Lp (Itr lo n) g tb D σ H := for_range Pv h0 hs hd
theorem lp_while {c : TT} {tb : TS} {D : Ends} {σ : L2.St} {H : Hp} (Pv : L2.St → Hp → Prop) (μ : L2.St → Hp → Nat) (h0 : Pv σ H)
    (hs : ∀ σ H, Pv σ H → c σ H fun b H1 => if b = true then ∃ N : L2.St → Hp → Prop, (∀ σ' H', N σ' H' → ∃ m', m' < μ σ H ∧ m' = μ σ' H' ∧ Pv σ' H') ∧ tb { D with nx := N, ct := N, bk := D.nx } σ H1 else D.nx σ H1) : tWhile c tb D σ H :=
  ⟨fun m σ H => m = μ σ H ∧ Pv σ H, ⟨_, rfl, h0⟩, by rintro m σ H ⟨rfl, p⟩; exact hs σ H p⟩
/-- a comprehension's run -/
def LcP (J : It) (g : TG) (tt : TT) (te : TE) (vs : List Nat) (σ : L2.St) (H1 : Hp) (D : Addr) (Qd : Hp → Prop) : Prop := ∃ W : Nat → Nat → Hp → Prop, (∃ m, W 0 m (upd H1 D (.lst []))) ∧ ∀ i m H, W i m H →
  (J.stop i H ∧ Qd H) ∨ (J.go i H ∧ ∃ Nx : Hp → Prop, (∀ H', Nx H' → ∃ m', m' < m ∧ W (i + 1) m' H') ∧ ∀ x H', J.yld i H x H' → g x (wipe σ vs) H' fun σ2 H2 => wipe σ2 vs = wipe σ vs ∧ tt σ2 H2 fun b H3 =>
    if b = true then te σ2 H3 fun y H4 => ∃ acc, H4 D = some (.lst acc) ∧ acc.length < sizeLine ∧ Nx (upd H4 D (.lst (acc ++ [y]))) else Nx H3)
theorem tLc_eq {wi : TI} {g : TG} {tt : TT} {te : TE} {vs : List Nat} {σ : L2.St} {H : Hp} {Q : VK} : tLc wi g tt te vs σ H Q = wi σ H fun J H1 => ∀ D, H1 D = none → LcP J g tt te vs σ H1 D (Q (.ref D)) := rfl
theorem lc_its {x : Str} {g : TG} {tt : TT} {te : TE} {vs : List Nat} {σ : L2.St} {H1 : Hp} {D : Addr} {Qd : Hp → Prop} (Pv : Nat → Hp → Prop) (h0 : Pv 0 (upd H1 D (.lst [])))
    (hs : ∀ i c H, (TL.tl x)[i]? = some c → Pv i H → g (.str ⟨#[c]⟩) (wipe σ vs) H fun σ2 H2 => wipe σ2 vs = wipe σ vs ∧ tt σ2 H2 fun b H3 =>
      if b = true then te σ2 H3 fun y H4 => ∃ acc, H4 D = some (.lst acc) ∧ acc.length < sizeLine ∧ Pv (i + 1) (upd H4 D (.lst (acc ++ [y]))) else Pv (i + 1) H3) (hd : ∀ H, Pv (TL.tl x).length H → Qd H) : LcP (Its x) g tt te vs σ H1 D Qd := by
  have hl : (TL.tl x).length = x.cps.size := by simp [TL.tl]
  refine ⟨fun i m H => m = x.cps.size - i ∧ i ≤ x.cps.size ∧ Pv i H, ⟨x.cps.size, by simp, Nat.zero_le _, h0⟩, ?_⟩
  rintro i m H ⟨rfl, hi, p⟩
  by_cases hlt : i < x.cps.size
  · refine .inr ⟨hlt, Pv (i + 1), fun H' p' => ⟨x.cps.size - (i + 1), by omega, rfl, hlt, p'⟩, fun v H' y => ?_⟩
    obtain ⟨e, c, hc, e2⟩ := y
    subst e e2
    exact hs i c _ (by rw [show (TL.tl x)[i]? = x.cps.toList[i]? from rfl, Array.getElem?_toList]; exact hc) p
  · have e : i = x.cps.size := by omega
    subst e
    exact .inl ⟨Nat.le_refl _, hd H (by rw [hl]; exact p)⟩
theorem cps {R : VK → Prop} {Q : VK} (Pp : V → Hp → Prop) (h1 : ∀ v H, Pp v H → Q v H) (h2 : ∀ Q' : VK, (∀ v H, Pp v H → Q' v H) → R Q') : R Q := h2 Q h1
section
variable {X : Cx}
/-! ### ==, != by kinds -/
def hEq (K : PySem.W.Frag) : R2 := fun x y H Q => match x, y with
  | .int i, .int j => Q (.bl (decide (i = j))) H
  | .str a, .str b => Q (.bl (decide (a = b))) H
  | x, y => cEq K false x y H Q
def hNe (K : PySem.W.Frag) : R2 := fun x y H Q => match x, y with
  | .int i, .int j => Q (.bl (decide (¬ i = j))) H
  | .str a, .str b => Q (.bl (decide (¬ a = b))) H
  | x, y => cEq K true x y H Q
theorem hEq_imp {K : PySem.W.Frag} {x y : V} {H : Hp} {Q : VK} (h : hEq K x y H Q) : cEq K false x y H Q := by
  unfold hEq at h
  split at h
  · refine ⟨rfl, ?_⟩
    rw [if_neg (by decide)]
    rename_i i j
    have e : decide (V.int i = V.int j) = decide (i = j) := by simp
    rw [e]; exact h
  · refine ⟨rfl, ?_⟩
    rw [if_neg (by decide)]
    rename_i i j
    have e : decide (V.str i = V.str j) = decide (i = j) := by simp
    rw [e]; exact h
  · exact h
theorem hNe_imp {K : PySem.W.Frag} {x y : V} {H : Hp} {Q : VK} (h : hNe K x y H Q) : cEq K true x y H Q := by
  unfold hNe at h
  split at h
  · refine ⟨rfl, ?_⟩
    rw [if_pos rfl]
    rename_i i j
    have e : (!decide (V.int i = V.int j)) = decide (¬ i = j) := by simp
    rw [e]; exact h
  · refine ⟨rfl, ?_⟩
    rw [if_pos rfl]
    rename_i i j
    have e : (!decide (V.str i = V.str j)) = decide (¬ i = j) := by simp
    rw [e]; exact h
  · exact h
theorem ho_eq (hu : X.A.units + 64 < cLine) : OpR X (compareOp .Eq) (hEq X.K) := OpR.imp (co_eq hu) fun _ _ _ _ q => hEq_imp q
theorem ho_ne (hu : X.A.units + 64 < cLine) : OpR X (compareOp .NotEq) (hNe X.K) := OpR.imp (co_ne hu) fun _ _ _ _ q => hNe_imp q
end
/-- "..".join(a list of texts) -/
def cJoin (K : PySem.W.Frag) : V → List V → Hp → VK → Prop := fun x xs H Q => match x, xs with
  | .str a, [.ref p] => ∃ ys : List Str, (SqL K H p (ys.map V.str) ∨ SqT K H p (ys.map V.str)) ∧ (ys.map (·.length)).sum + ys.length * a.length ≤ 16777216 ∧ Q (.str (Txt.join a ys)) H
  | _, _ => False
theorem hm_join {X : Cx} : MtR X "str.join" (cJoin X.K) := MtR.imp mt_join fun x xs H Q h => by
  unfold cJoin at h
  split at h
  · obtain ⟨ys, h1, h2, h3⟩ := h
    exact ⟨_, _, ys, rfl, rfl, h1, h2, h3⟩
  · exact h.elim
/-- isinstance(x, str) -/
def hIsS : List V → Hp → VK → Prop := fun xs H Q => match xs with
  | [x, .ty n] => n = "str" ∧ (match x with
    | .str _ => Q (.bl true) H
    | .non => Q (.bl false) H
    | .bl _ => Q (.bl false) H
    | .int _ => Q (.bl false) H
    | .ref p => (match H p with
      | some (.lst _) => Q (.bl false) H
      | some (.tup _) => Q (.bl false) H
      | _ => False)
    | _ => False)
  | _ => False
theorem hc_isS {X : Cx} : CallR X (.builtin "isinstance") hIsS := by
  intro pins s σ H xs us Q I rs h
  refine call_isi pins s σ H xs us Q I rs ?_
  unfold hIsS at h
  split at h
  · rename_i x n
    obtain ⟨rfl, h⟩ := h
    split at h
    · exact ⟨_, _, _, _, true, rfl, .ty _, .base (.str _), rfl, h⟩
    · exact ⟨_, _, _, _, false, rfl, .ty _, .base .non, rfl, h⟩
    · exact ⟨_, _, _, _, false, rfl, .ty _, .base (.bl _), rfl, h⟩
    · exact ⟨_, _, _, _, false, rfl, .ty _, .base (.int _), rfl, h⟩
    · split at h
      · exact ⟨_, _, _, _, false, rfl, .ty _, .base (.lst ‹_›), rfl, h⟩
      · exact ⟨_, _, _, _, false, rfl, .ty _, .base (.tup ‹_›), rfl, h⟩
      · exact h.elim
    · exact h.elim
  · exact h.elim
theorem hEq_nil {K : PySem.W.Frag} {H : Hp} {p q : Addr} {xs : List V} {ds : List PyData} {Q : VK} (hp : H p = some (.lst xs)) (hq : H q = some (.lst [])) (hd : DpAll K H xs ds) (hs : SeqAt.shaped (.list ds) = true) (h : Q (.bl ds.isEmpty) H) : hEq K (.ref p) (.ref q) H Q := by
  refine ⟨_, _, .lst (.inl (Rd.of hp)) hd, .lst (.inl (Rd.of hq)) .nil, hs, rfl, ?_⟩
  rw [if_neg (by decide)]
  have e : PyData.eqv (.list ds) (.list []) = ds.isEmpty := by cases ds <;> rfl
  rw [e]
  exact h
theorem hIx_lit {K : PySem.W.Frag} {H : Hp} {p : Addr} {i : Int} {xs : List V} {v : V} {Q : VK} (h : H p = some (.lst xs)) (e : atI xs i = some v) (q : Q v H) : hIx K (.ref p) (.int i) H Q := by
  show (match seqAt H p i with
    | some v => Q v H
    | none => cIx K (.ref p) (.int i) H Q)
  rw [seqAt_lst h, e]; exact q
theorem hIx_tup {K : PySem.W.Frag} {H : Hp} {p : Addr} {i : Int} {xs : List V} {v : V} {Q : VK} (h : H p = some (.tup xs)) (e : atI xs i = some v) (q : Q v H) : hIx K (.ref p) (.int i) H Q := by
  show (match seqAt H p i with
    | some v => Q v H
    | none => cIx K (.ref p) (.int i) H Q)
  rw [seqAt_tup h, e]; exact q
theorem hIx_str {K : PySem.W.Frag} {H : Hp} {z : Str} {i : Int} {c : Nat} {Q : VK} (hz : z.length ≤ sizeLine) (e : atI z.cps.toList i = some c) (q : Q (.str ⟨#[c]⟩) H) : hIx K (.str z) (.int i) H Q := ⟨hz, by rw [e]; exact q⟩
theorem sl : 1000000 ≤ sizeLine := by decide
theorem la (a b : Str) : (a ++ b).length = a.length + b.length := PySem.Str.length_append a b
theorem l1 (c : Nat) : (Str.mk #[c]).length = 1 := rfl
theorem tyL {K : PySem.W.Frag} {H : Hp} {p : Addr} {xs : List V} (h : H p = some (.lst xs)) : tyV K "list" (.ref p) H := .inl ⟨rfl, _, .inl (Rd.of h)⟩
theorem append_at {H : Hp} {p : Addr} {xs : List V} {y : V} {Q : VK} (h : H p = some (.lst xs)) (hl : xs.length < sizeLine) (q : Q .non (upd H p (.lst (xs ++ [y])))) : rAppend (.ref p) [y] H Q := ⟨p, xs, y, rfl, rfl, h, hl, q⟩
theorem dpStrs {K : PySem.W.Frag} {H : Hp} : ∀ ys : List Str, DpAll K H (ys.map V.str) (ys.map PyData.str)
  | [] => .nil
  | y :: ys => .cons (.str y) (dpStrs ys)
theorem spl_ne (S : List Nat) : ∀ (l acc : List Nat) (k : Nat), TL.spl S k acc l ≠ []
  | [], acc, k => by rw [TL.spl_nil]; exact List.cons_ne_nil _ _
  | c :: r, acc, 0 => by
    show (if TL.pre S (c :: r) = true then acc :: TL.spl S (S.length - 1) [] r else TL.spl S 0 (acc ++ [c]) r) ≠ []
    split
    · exact List.cons_ne_nil _ _
    · exact spl_ne S r _ _
  | c :: r, acc, k + 1 => spl_ne S r acc k
theorem split_ne {x y : Str} (hy : TL.tl y ≠ []) (hk : y.cps.all (· < 256) = true) : ∃ z zs, Txt.split x y = z :: zs := by
  have h := TL.split_spl x y hy (TL.kind_ok hk)
  cases e : Txt.split x y with
  | nil => rw [e] at h; exact absurd h.symm (spl_ne _ _ _ _)
  | cons z zs => exact ⟨z, zs, rfl⟩
/-- a text of signs below 256 -/
def Sg (t : Str) : Prop := ∀ c ∈ TL.tl t, c < 256
theorem Sg.app {a b : Str} (h : Sg a) (h' : Sg b) : Sg (a ++ b) := fun c hc => by
  rw [TL.tl_append] at hc
  exact (List.mem_append.mp hc).elim (h c) (h' c)
theorem Sg.one {c : Nat} (h : c < 256) : Sg ⟨#[c]⟩ := fun d hd => by
  rw [List.mem_singleton.mp (show d ∈ [c] from hd)]; exact h
theorem Sg.cut {z : Str} {lo hi : Option Int} (h : Sg z) : Sg (cutS z lo hi) := fun c hc => h c (List.mem_of_mem_drop (List.mem_of_mem_take hc))
theorem Sg.lit {s : String} (h : (TL.tl (Str.ofString s)).all (· < 256) = true) : Sg (Str.ofString s) := fun c hc => of_decide_eq_true (List.all_eq_true.mp h c hc)
theorem sgJ (S : List Nat) (hS : ∀ c ∈ S, c < 256) : ∀ ps : List (List Nat), (∀ p ∈ ps, ∀ c ∈ p, c < 256) → ∀ c ∈ TL.joinL S ps, c < 256
  | [], _ => fun c hc => nomatch hc
  | [p], h => fun c hc => h p (List.mem_cons_self ..) c (by simpa only [TL.joinL] using hc)
  | p :: q :: r, h => fun c hc => by
    simp only [TL.joinL, List.mem_append] at hc
    rcases hc with hc | hc | hc
    · exact h p (List.mem_cons_self ..) c hc
    · exact hS c hc
    · exact sgJ S hS (q :: r) (fun x hx => h x (List.mem_cons_of_mem _ hx)) c hc
theorem Sg.join {y : Str} {ys : List Str} (h : Sg y) (h' : ∀ z ∈ ys, Sg z) : Sg (Txt.join y ys) := by
  unfold Sg
  rw [TL.join_eq, TL.tl_join]
  refine sgJ _ h _ fun p hp => ?_
  obtain ⟨z, hz, rfl⟩ := List.mem_map.mp hp
  exact h' z hz
theorem Sg.ok {t : Str} (h : Sg t) : PyData.strOk t = true := by
  unfold PyData.strOk
  rw [← Array.all_toList]
  exact List.all_eq_true.mpr fun c hc => decide_eq_true (Nat.lt_trans (h c hc) (by decide))
theorem canStrs : ∀ {ys : List Str}, (∀ y ∈ ys, Sg y) → PyData.canLayAll0 (ys.map PyData.str) = true
  | [], _ => rfl
  | y :: ys, h => by
    show (PyData.canLay0 (.str y) && PyData.canLayAll0 (ys.map PyData.str)) = true
    rw [Bool.and_eq_true]
    exact ⟨by simp only [PyData.canLay0]; exact (h y (List.mem_cons_self ..)).ok, canStrs fun z hz => h z (List.mem_cons_of_mem _ hz)⟩
theorem depStrs : ∀ ys : List Str, PyData.depthAll (ys.map PyData.str) ≤ 1
  | [] => by simp [PyData.depthAll]
  | y :: ys => by
    have := depStrs ys
    simp only [List.map_cons, PyData.depthAll, PyData.depth]
    omega
theorem shStrs {ys : List Str} (h : ∀ y ∈ ys, Sg y) : SeqAt.shaped (.list (ys.map PyData.str)) = true := by
  have := depStrs ys
  unfold SeqAt.shaped
  rw [Bool.and_eq_true]
  refine ⟨by simp only [PyData.canLay0]; exact canStrs h, decide_eq_true ?_⟩
  simp only [PyData.depth]
  omega
theorem atI_zero {α : Type} (x : α) (xs : List α) : atI (x :: xs) 0 = some x := by
  unfold atI ixN
  rw [if_pos (by decide), if_pos (by simp only [List.length_cons]; omega)]
  rfl
/-- a sign in a text; other texts in a text -/
def isIn (a b : Str) : Bool := match a.cps.toList with
  | [c] => decide (c ∈ b.cps.toList)
  | _ => inTx a b
def hIn (K : PySem.W.Frag) : R2 := fun x y H Q => match x, y with
  | .str a, .str b => Q (.bl (isIn a b)) H
  | x, y => cIn K false x y H Q
def hNotIn (K : PySem.W.Frag) : R2 := fun x y H Q => match x, y with
  | .str a, .str b => Q (.bl (!isIn a b)) H
  | x, y => cIn K true x y H Q
section
variable {X : Cx}
theorem ho_in : OpR X (compareOp .In) (hIn X.K) := by
  intro pins s σ H x y v u Q I rx ry h
  unfold hIn at h
  split at h
  · rename_i a b
    unfold isIn at h
    split at h
    · rename_i c e
      have ea : a = ⟨#[c]⟩ := TL.ext_tl e
      subst ea
      exact op_in_sign pins s σ H _ _ v u Q I rx ry ⟨c, b, rfl, rfl, h⟩
    · exact co_in pins s σ H _ _ v u Q I rx ry h
  · exact co_in pins s σ H _ _ v u Q I rx ry h
theorem ho_notIn : OpR X (compareOp .NotIn) (hNotIn X.K) := by
  intro pins s σ H x y v u Q I rx ry h
  unfold hNotIn at h
  split at h
  · rename_i a b
    unfold isIn at h
    split at h
    · rename_i c e
      have ea : a = ⟨#[c]⟩ := TL.ext_tl e
      subst ea
      exact op_notIn_sign pins s σ H _ _ v u Q I rx ry ⟨c, b, rfl, rfl, h⟩
    · exact co_notIn pins s σ H _ _ v u Q I rx ry h
  · exact co_notIn pins s σ H _ _ v u Q I rx ry h
end
def tlen (o : Option (Option V)) : Nat := match o with
  | some (some (.str t)) => t.length
  | _ => 0
theorem cpsT {R : (Bool → Hp → Prop) → Prop} {Q : Bool → Hp → Prop} (Pp : Bool → Hp → Prop) (h1 : ∀ v H, Pp v H → Q v H) (h2 : ∀ Q' : Bool → Hp → Prop, (∀ v H, Pp v H → Q' v H) → R Q') : R Q := h2 Q h1
theorem seqCps {t u : TS} {D : Ends} {σ : L2.St} {H : Hp} (Pp : L2.St → Hp → Prop) (h1 : ∀ Nx : L2.St → Hp → Prop, (∀ σ H, Pp σ H → Nx σ H) → t { D with nx := Nx } σ H) (h2 : ∀ σ H, Pp σ H → u D σ H) : tSeq t u D σ H := h1 (u D) h2
theorem seqStep {t u : TS} {D : Ends} {σ : L2.St} {H : Hp} (h : t { D with nx := u D } σ H) : tSeq t u D σ H := h
theorem _root_.Xs.Kp.new {a p : Addr} {H H' : Hp} {o : HO} (h : Kp a H H') (hp : H p = none) : Kp a H (upd H' p o) := fun q o' n e => by
  unfold upd
  split
  · subst q; rw [hp] at e; cases e
  · exact h q o' n e
theorem _root_.L2.Ext.new {p : Addr} {H H' : Hp} {o : HO} (h : Ext H H') (hp : H p = none) : Ext H (upd H' p o) := fun q o' e => by
  unfold upd
  split
  · subst q; rw [hp] at e; cases e
  · exact h q o' e
theorem joinL_len (S : List Nat) (m : Nat) : ∀ ps : List (List Nat), (∀ p ∈ ps, p.length ≤ m) → (TL.joinL S ps).length ≤ ps.length * (m + S.length)
  | [], _ => Nat.zero_le _
  | [p], h => by
    have := h p (List.mem_cons_self ..)
    show (TL.joinL S [p]).length ≤ 1 * (m + S.length)
    simp only [TL.joinL]
    omega
  | p :: q :: r, h => by
    have h1 := h p (List.mem_cons_self ..)
    have h2 := joinL_len S m (q :: r) fun x hx => h x (List.mem_cons_of_mem _ hx)
    simp only [TL.joinL, List.length_append, List.length_cons] at h2 ⊢
    have e : (r.length + 1 + 1) * (m + S.length) = (r.length + 1) * (m + S.length) + (m + S.length) := Nat.succ_mul _ _
    omega
theorem join_len {y : Str} {m : Nat} {ys : List Str} (h : ∀ z ∈ ys, z.length ≤ m) : (Txt.join y ys).length ≤ ys.length * (m + y.length) := by
  rw [TL.join_eq, TL.len_tl, TL.tl_join, TL.len_tl y]
  have := joinL_len (TL.tl y) m (ys.map TL.tl) fun p hp => by
    obtain ⟨z, hz, rfl⟩ := List.mem_map.mp hp
    have := h z hz
    rw [TL.len_tl] at this
    exact this
  rw [List.length_map] at this
  exact this
theorem sum_len {m : Nat} : ∀ {ys : List Str}, (∀ z ∈ ys, z.length ≤ m) → (ys.map (·.length)).sum ≤ ys.length * m
  | [], _ => Nat.zero_le _
  | y :: ys, h => by
    have h1 := h y (List.mem_cons_self ..)
    have h2 := sum_len (ys := ys) fun x hx => h x (List.mem_cons_of_mem _ hx)
    simp only [List.map_cons, List.sum_cons, List.length_cons, Nat.succ_mul]
    omega
end Xs
set_option Elab.async false
set_option linter.all false
set_option maxRecDepth 100000
set_option maxHeartbeats 4000000
namespace Xr
open PySem PySem.Spec PyProof.Rows L2 ClX
/-- C.m(k = v, ..) within a try's body -/
def tCMethNS (C : Addr) (ks : List Str) (dfl : List (Str × V)) (sp : Sp) (E : L2.St → XK) (ta : TE) (tk : TA) : TE := fun σ H Q => ta σ H fun x H1 => x = .ref C ∧ tk σ H1 fun zs H2 => zs.length = ks.length ∧ sp (kwVals dfl (.ref C) (ks.zip zs)) H2 Q (E σ)
theorem pe_cmethNS {X : Cx} {CX : CXT} {k : Nat} {C p g : Addr} {mc : Value} {sp : Sp} {E : L2.St → XK} {o : Expr} {m c : Str} {pos apos : Pos} {ta : TE} {tk : TA} {fd : FuncData} {dfl : List (Str × V)} {kws : List Keyword} {ks : List Str} {pl : Sem Bool} (he : PE X o ta) (r : CRead X.K C mc) (cm : CMet X.K C mc m p g)
    (F : FnOk X.prog X.w X.K X.mg X.base CX k g fd (c :: dfl.map (·.1)) sp) (B : KwB X.K fd c dfl) (hr : Room k X.A) (hx : ∀ σ, PassesAt CX X σ (E σ)) (hkw : PK X kws tk)
    (hsub : ∀ n ∈ ks, n ∈ dfl.map (·.1)) (hnd : ks.Nodup)
    (hall : (backToKw pos (keywordEach kws X.env)).all (·.1.isSome) = true := by rfl) (hks : (backToKw pos (keywordEach kws X.env)).filterMap (·.1) = ks := by rfl)
    (hpl : ((backTo pos (starEach [] X.env)).any (·.1) || (backToKw pos (keywordEach kws X.env)).any (·.1.isNone)) = false := by rfl)
    (ht : eval (.Call (.Attribute o m apos) [] kws pos) X.env = (do
      let ov ← eval o X.env
      standAt apos.atName
      let (f, first) ← holding [ov] (getMethod ov m pl)
      callWith pos f first (backTo pos (starEach [] X.env)) (backToKw pos (keywordEach kws X.env))) := by rfl) :
    PE X (.Call (.Attribute o m apos) [] kws pos) (tCMethNS C ks dfl sp E ta tk) := by
  refine ⟨fun pins s σ H Q I h => ?_⟩
  refine PySem.W.methodCall_KW (pl := pl) (thn (he.run pins s σ H _ I h) fun u s1 ⟨x, H1, I1, rx, ex, q⟩ => ?_) ht
  subst ex
  obtain rfl : u = Value.ref C := rx
  refine getmethcm_ok I1 r cm fun s2 I2 => ?_
  refine PySem.W.callWith_of (P := PySem.W.MethP X.K s1.heap.objs.size g (.ref C)) hpl (PySem.W.keeps_M cm.fi) (PyProof.Rows.evalArgs_kw2_nil hall ?_)
  refine thn (hkw.run pos _ s2 σ H1 _ I2 q) fun ws s3 ⟨zs, H3, I3, rz, hl, hsp⟩ => ?_
  refine ⟨⟨pin_at I3, I3.kIn⟩, ?_⟩
  rw [hks]
  obtain ⟨us, hbind, rv⟩ := B.binds (s := s3) I3.kIn (show RelV (.ref C) (.ref C) from rfl) (relK_zip (ks := ks) rz) (fun q hq => hsub q.1 (by
    have z : q.1 ∈ (ks.zip zs).map (·.1) := List.mem_map.mpr ⟨q, hq, rfl⟩
    rw [zip_fst hl] at z
    exact z)) (by rw [zip_fst hl]; exact hnd)
  have z : wpAny (model X.prog X.w) X.A (call (.ref s1.heap.objs.size) ([] ++ []) (ks.zip ws)) (EP X ((s1.heap.objs.size, PySem.W.methodObj (.ref g) (.ref C)) :: pins) σ Q) X.xe s3 := by
    refine wpAny_call (PySem.W.method_call (pin_at I3) (codeAny_mono (F.run X.A X.stack s3 H3 ⟨[.ref C], ks.zip ws⟩ us _ Q (E σ) hr I3.env0 hbind rv hsp) fun r s' hq => ?_))
    cases r with
    | error e => exact hx σ _ H3 s3 e s' I3 hq
    | ok fl =>
      cases fl with
      | ret u => exact I3.after hq
      | next => exact False.elim hq
      | brk => exact False.elim hq
      | cont => exact False.elim hq
  exact thn z fun _ _ y => unpinE y
end Xr
set_option Elab.async false
set_option linter.all false
set_option maxRecDepth 100000
set_option maxHeartbeats 4000000
/-! R9: == and != of instances by the class's own __eq__; repr of texts and bools; a try whose body raises nothing. -/
namespace Xr
open PySem PySem.Spec PyProof.Rows L2 ClX
section
variable {X : Cx}
def cRepr : List V → Hp → VK → Prop := fun xs H Q => match xs with
  | [.str a] => (reprText a).length ≤ sizeLine ∧ Q (.str (reprText a)) H
  | [.bl b] => Q (.str (if b then "True" else "False")) H
  | _ => False
theorem call_reprV : CallR X (.builtin "repr") cRepr := by
  intro pins s σ H xs us Q I r h
  unfold cRepr at h
  split at h
  · obtain ⟨hz, q⟩ := h
    obtain ⟨u, rfl, t, rfl⟩ := vals1 r
    exact PySem.P.repr_of_str (Q := EP X pins σ Q) ⟨.str _, H, I.tok _, ⟨_, rfl⟩, q⟩ hz
  · rename_i b
    obtain ⟨u, rfl, hu⟩ := vals1 r
    obtain rfl : u = Value.bool b := hu
    exact PySem.P.repr_of_bool (Q := EP X pins σ Q) ⟨.str _, H, I.tok _, ⟨_, rfl⟩, h⟩
  · exact h.elim
end
/-! ### == and != of own instances -/
section
variable {prog : Program} {w : World} {A : Around} {E : Value → Shared → Prop} {s : Shared} {K : PySem.W.Frag} {x C L f : Addr} {h₀ : Heap} {m : Str → Option Value} {ox : Obj} {od : Option Obj} {b tb : Value}
open PySem.W in
theorem objNe_run (hu : A.units < cLine) (X : K.In s.heap) (I : InstAt s.heap x ox C od) (hs : findIn K (.ref C) "__eq__" = some (some (.ref f))) (hf : isFn K (.ref f) = true) {Q : Fin → Shared → Prop}
    (hcall : wpAny (model prog w) A (call (.ref f) [.ref x, b]) (fun v s' => ∃ c, v = .bool c ∧ Q (.done (.ret (.bool (!c)))) s') E s) :
    wpAny (model prog w) A (Builtin.«object.__ne__» ⟨[.ref x, b], []⟩) Q E s := by
  unfold Builtin.«object.__ne__»
  repeat (first
    | with_reducible refine wpAny_cRoomFor hu ?_
    | (refine wpAny_bind (m := callSpecialIfBound? (.ref x) (Str.ofString "__eq__") [b])
        (ifBound_K X I hs hf (wpAny_mono hcall (fun r s' hr => by
          obtain ⟨c, rfl, hq⟩ := hr
          repeat (first | exact hq | exact wpAny_pure hq | exact wpAny_truthy_bool hq | (refine wpAny_bind (m := truthy (.bool _)) (wpAny_truthy_bool ?_)) | wp_step)) fun _ _ e => e)))
    | wp_step)
open PySem.W in
theorem ne_K {Q : Value → Shared → Prop} (hu : A.units + 1 < cLine) (F : Fr h₀ L s.heap m) (X₀ : K.In h₀) (I : InstAt s.heap x ox C od) (hb : Looks (model prog w) s.heap (typeOf b) tb) (hn : notFirst K C tb = true)
    (hne : findIn K (.ref C) "__ne__" = some (some (.builtin "object.__ne__"))) (hob : subIn K (.ref C) (.type "object") = some true)
    (hs : findIn K (.ref C) "__eq__" = some (some (.ref f))) (hf : isFn K (.ref f) = true)
    (h : wpAny (model prog w) A.in1 (call (.ref f) [.ref x, b]) (fun v s' => ∃ c, v = .bool c ∧ Q (.bool (!c)) s') E s) : wpAny (model prog w) A (richCompare .NotEq (.ref x) b) Q E s := by
  have X := X₀.keeps F.keep
  have one : wpAny (model prog w) A (tryCompare (.ref x) "__ne__" b) (fun r s' => ∃ v, r = some v ∧ Q v s') E s := by
    unfold tryCompare
    refine wpAny_bind ?_
    simp only [callSpecialIfBound?, bindSpecialIfBound?]
    have fin : wpAny (model prog w) A (call (.builtin "object.__ne__") ([.ref x] ++ [b]) >>= fun v => pure (some v)) (fun r s' => wpAny (model prog w) A (match r with
        | some .notImplemented | none => pure none
        | some v => pure (some v) : Sem (Option Value)) (fun r s' => ∃ v, r = some v ∧ Q v s') E s') E s := by
      refine wpAny_bind (wpAny_call (codeAny_call_builtin PySem.F.cmp_object.ne.plain PySem.F.cmpEntry_ne
        (check_slot PySem.F.cmpKind_ne PySem.F.cmpSplit_ne (I.type.andThen (looks_subIn X hob)) (PySem.F.cmpArgs_ne _ _)
          (objNe_run (A := A.in1) hu X I hs hf (wpAny_mono h (fun v s' hv => ?_) fun _ _ e => e)))))
      obtain ⟨c, rfl, hq⟩ := hv
      exact ⟨c, rfl, wpAny_pure (wpAny_pure ⟨_, rfl, hq⟩)⟩
    refine wpAny_holding (wpAny_bind (wpAny_bind (wpAny_bind (I.type.here ((looks_findIn X hne).here ?_)))))
    refine wpAny_bind (wpAny_askSetting (wpAny_ite ?_))
    split
    · exact wpAny_bind ((Looks.of_pure (PySem.F.cmp_object.ne.bind _)).here (wpAny_pure (by exact fin)))
    · exact wpAny_tryCatch (wpAny_bind ((Looks.of_pure (PySem.F.cmp_object.ne.bind _)).here (wpAny_pure (by exact fin))))
  unfold richCompare
  simp only [oneThing_ref]
  refine wpAny_holding (wpAny_bind (wpAny_cRoomFor (Nat.lt_of_succ_lt hu) ?_))
  rw [cmpInfo_NotEq]
  dsimp only
  refine wpAny_bind (I.type.here (wpAny_bind (hb.here ?_)))
  split
  · rename_i q
    have e : subIn K tb (.ref C) = some false := by
      rcases Bool.or_eq_true_iff.mp hn with e | e
      · rw [beq_iff_eq.mp e] at q; simp at q
      · exact beq_iff_eq.mp e
    refine wpAny_bind ((looks_subIn X e).here ?_)
    simp only [Bool.false_eq_true, if_false]
    refine wpAny_bind (wpAny_mono one (fun r s' z => ?_) fun _ _ e => e)
    obtain ⟨v, rfl, hq⟩ := z
    exact wpAny_pure hq
  · refine wpAny_bind (wpAny_pure ?_)
    simp only [Bool.false_eq_true, if_false]
    refine wpAny_bind (wpAny_mono one (fun r s' z => ?_) fun _ _ e => e)
    obtain ⟨v, rfl, hq⟩ := z
    exact wpAny_pure hq
end
/-- what the class's facts must say -/
structure EqC (K : PySem.W.Frag) (C f : Addr) : Prop where
  eq : PySem.W.findIn K (.ref C) "__eq__" = some (some (.ref f))
  fn : PySem.W.isFn K (.ref f) = true
  ne : PySem.W.findIn K (.ref C) "__ne__" = some (some (.builtin "object.__ne__"))
  ob : PySem.W.subIn K (.ref C) (.type "object") = some true
  s : PySem.W.notFirst K C (.type "str") = true
  i : PySem.W.notFirst K C (.type "int") = true
  n : PySem.W.notFirst K C (.type "NoneType") = true
  ks : PySem.W.kitOne K (.type "str") (.ref C) = some false
  ki : PySem.W.kitOne K (.type "int") (.ref C) = some false
  kn : PySem.W.kitOne K (.type "NoneType") (.ref C) = some false
  kc : PySem.W.kitOne K (.ref C) (.ref C) = some true
  ca : PySem.W.findIn K (.ref C) "__class__" = some (some (.builtin "object.__class__"))
  cn : PySem.W.specialIn K (.builtin "object.__class__") "__get__" = some (some (.builtin "getset_descriptor.__get__"))
  ct : PySem.W.takesIn K (.builtin "object.__class__") = some true
  cm : PySem.W.mroIn K C (.type "object") = some true
def eqcB (K : PySem.W.Frag) (C f : Addr) : Bool := decide (PySem.W.findIn K (.ref C) "__eq__" = some (some (.ref f))) && (PySem.W.isFn K (.ref f) && (decide (PySem.W.findIn K (.ref C) "__ne__" = some (some (.builtin "object.__ne__"))) && (decide (PySem.W.subIn K (.ref C) (.type "object") = some true) &&
  (PySem.W.notFirst K C (.type "str") && (PySem.W.notFirst K C (.type "int") && (PySem.W.notFirst K C (.type "NoneType") && (decide (PySem.W.kitOne K (.type "str") (.ref C) = some false) && (decide (PySem.W.kitOne K (.type "int") (.ref C) = some false) &&
  (decide (PySem.W.kitOne K (.type "NoneType") (.ref C) = some false) && (decide (PySem.W.kitOne K (.ref C) (.ref C) = some true) && (decide (PySem.W.findIn K (.ref C) "__class__" = some (some (.builtin "object.__class__"))) &&
  (decide (PySem.W.specialIn K (.builtin "object.__class__") "__get__" = some (some (.builtin "getset_descriptor.__get__"))) && (decide (PySem.W.takesIn K (.builtin "object.__class__") = some true) && decide (PySem.W.mroIn K C (.type "object") = some true))))))))))))))
theorem eqcB_ok {K : PySem.W.Frag} {C f : Addr} (h : eqcB K C f = true) : EqC K C f := by
  unfold eqcB at h
  simp only [Bool.and_eq_true] at h
  obtain ⟨h1, h2, h3, h4, h5, h6, h7, h8, h9, h10, h11, h12, h13, h14, h15⟩ := h
  exact ⟨of_decide_eq_true h1, h2, of_decide_eq_true h3, of_decide_eq_true h4, h5, h6, h7, of_decide_eq_true h8, of_decide_eq_true h9, of_decide_eq_true h10, of_decide_eq_true h11, of_decide_eq_true h12, of_decide_eq_true h13, of_decide_eq_true h14, of_decide_eq_true h15⟩
/-- isinstance(x, C): an instance of C, or a flat value -/
def cIsC (C : Addr) : List V → Hp → VK → Prop := fun xs H Q => ∃ x, xs = [x, .ref C] ∧ ((∃ b dy gs, x = .ref b ∧ H b = some (.ins C dy gs) ∧ Q (.bl true) H) ∨ (((∃ t, x = .str t) ∨ (∃ i, x = .int i) ∨ x = .non) ∧ Q (.bl false) H))
theorem call_isC9 {X : Cx} {C f : Addr} (T : EqC X.K C f) (cl : Cls X.K C) : CallR X (.builtin "isinstance") (cIsC C) := by
  intro pins s σ H xs us Q I rs h
  refine call_isi pins s σ H xs us Q I rs ?_
  obtain ⟨x, rfl, h⟩ := h
  rcases h with ⟨b, dy, gs, rfl, e, q⟩ | ⟨h, q⟩
  · exact ⟨_, _, .ref C, _, true, rfl, .own C, .base (.ins e cl T.ca T.cn T.ct T.cm), T.kc, q⟩
  · rcases h with ⟨t, rfl⟩ | ⟨i, rfl⟩ | rfl
    · exact ⟨_, _, _, _, false, rfl, .own C, .base (.str _), T.ks, q⟩
    · exact ⟨_, _, _, _, false, rfl, .own C, .base (.int _), T.ki, q⟩
    · exact ⟨_, _, _, _, false, rfl, .own C, .base .non, T.kn, q⟩
/-- the values beside which an instance of C may stand here -/
def Beside (C : Addr) (y : V) (H : Hp) : Prop := (∃ b dy gs, y = .ref b ∧ H b = some (.ins C dy gs)) ∨ (∃ t, y = .str t) ∨ (∃ i, y = .int i) ∨ y = .non
section
variable {X : Cx} {C f : Addr} {n : Nat} {sp : Sp}
theorem beside_type {pins : List (Addr × Obj)} {σ : L2.St} {H : Hp} {s : Shared} {y : V} {u : Value} (T : EqC X.K C f) (I : Inv X pins σ H s) (ry : RelV y u) (h : Beside C y H) : ∃ tb, PySem.W.Looks (model X.prog X.w) s.heap (typeOf u) tb ∧ PySem.W.notFirst X.K C tb = true := by
  rcases h with ⟨b, dy, gs, rfl, hb⟩ | ⟨t, rfl⟩ | ⟨i, rfl⟩ | rfl
  · cases ry
    obtain ⟨mB, J', _⟩ := ins_get I.hok hb
    obtain ⟨od', J', _⟩ := J'.look
    exact ⟨.ref C, J'.type, by simp [PySem.W.notFirst]⟩
  · obtain ⟨k, rfl⟩ := ry
    exact ⟨.type "str", PySem.W.Looks.of_pure (by kernel_rfl), T.s⟩
  · obtain ⟨k, rfl⟩ := ry
    exact ⟨.type "int", PySem.W.Looks.of_pure (by kernel_rfl), T.i⟩
  · cases ry
    exact ⟨.type "NoneType", PySem.W.Looks.of_pure (by kernel_rfl), T.n⟩
/-- x == y, x != y, x an instance of C -/
def rEqO (C : Addr) (sp : Sp) (neg : Bool) : R2 := fun x y H Q => ∃ a dx fs, x = .ref a ∧ H a = some (.ins C dx fs) ∧ Beside C y H ∧ sp [.ref a, y] H (fun v H' => ∃ c, v = .bl c ∧ Q (.bl (if neg then !c else c)) H') E0
theorem op_eqO (F : FnR X.prog X.w X.K X.mg X.base CX0 n f sp) (hr : Room n X.A) (T : EqC X.K C f) : OpR X (compareOp .Eq) (rEqO C sp false) := by
  intro pins s σ H x y v u Q I rx ry h
  obtain ⟨a, dx, fs, rfl, ea, hy, h⟩ := h
  cases rx
  obtain ⟨mA, O, _⟩ := ins_get I.hok ea
  obtain ⟨od, J, _⟩ := O.look
  obtain ⟨m, hF⟩ := I.fr
  obtain ⟨tb, hl, hn⟩ := beside_type T I ry hy
  show wpAny (model X.prog X.w) X.A (richCompare .Eq (.ref a) u) (EP X pins σ Q) X.xe s
  refine PySem.W.cmp_K (op := .Eq) hr.units0 hF I.ok.mod.kin J hl hn T.eq T.fn (wpAny_mono (run_sp (A := X.A) (vs := [.ref a, y]) F hr I.ok.frames I (.cons rfl (.cons ry .nil)) h) (fun r s' hv => ?_) fun _ _ e => e)
  obtain ⟨z, H', I', rz, c, rfl, q⟩ := hv
  cases rz
  exact ⟨.bl c, H', I', rfl, q⟩
theorem op_neO (F : FnR X.prog X.w X.K X.mg X.base CX0 n f sp) (hr : Room (n + 1) X.A) (T : EqC X.K C f) : OpR X (compareOp .NotEq) (rEqO C sp true) := by
  intro pins s σ H x y v u Q I rx ry h
  obtain ⟨a, dx, fs, rfl, ea, hy, h⟩ := h
  cases rx
  obtain ⟨mA, O, _⟩ := ins_get I.hok ea
  obtain ⟨od, J, _⟩ := O.look
  obtain ⟨m, hF⟩ := I.fr
  obtain ⟨tb, hl, hn⟩ := beside_type T I ry hy
  show wpAny (model X.prog X.w) X.A (richCompare .NotEq (.ref a) u) (EP X pins σ Q) X.xe s
  refine ne_K (by have := hr.un; omega) hF I.ok.mod.kin J hl hn T.ne T.ob T.eq T.fn (wpAny_mono (run_sp (A := X.A.in1) (vs := [.ref a, y]) F hr.in1 I.ok.frames I (.cons rfl (.cons ry .nil)) h) (fun r s' hv => ?_) fun _ _ e => e)
  obtain ⟨z, H', I', rz, c, rfl, q⟩ := hv
  cases rz
  exact ⟨c, rfl, .bl (!c), H', I', rfl, q⟩
end
/-! ### a try whose body raises nothing -/
theorem ps_try_quiet {X : Cx} {body : List Stmt} {h₀ : ExceptHandler} {hds : List ExceptHandler} {pos : Pos} {t : TS}
    (hb : ∀ (pn : List (Addr × Obj)) (xe : Value → Shared → Prop), PassesOwn (model X.prog X.w) X.A X.env xe → PSs (X.tr pn xe) body t) : PS X (.Try body (h₀ :: hds) [] [] pos) t := by
  refine ⟨fun pins s σ H D I h => ?_⟩
  have ok := I.ok
  refine wpAny_Try_except ?_
  refine wpAny_mono ((hb (X.pn ++ pins) (fun e s₁ => wpAny (model X.prog X.w) X.A (noteFrame e X.env) (fun _ s₂ => wpAny (model X.prog X.w) X.A (setFlight e none) (fun _ s₃ =>
    wpAny (model X.prog X.w) X.A (handleBy e X.env (h₀ :: hds)) (SP X pins D) X.xe s₃) X.xe s₂) X.xe s₁) PassesOwn.looking).run [] s σ H D (I.toTry _) h) (fun f s1 hsp => ?_) (fun e s1 he => he)
  cases f with
  | next =>
    obtain ⟨σ', H', J', q⟩ := hsp
    exact wpAny_execs_nil ⟨σ', H', J'.ofTry ok, q⟩
  | brk =>
    obtain ⟨σ', H', J', q⟩ := hsp
    exact ⟨σ', H', J'.ofTry ok, q⟩
  | cont =>
    obtain ⟨σ', H', J', q⟩ := hsp
    exact ⟨σ', H', J'.ofTry ok, q⟩
  | ret u =>
    obtain ⟨v, σ', H', J', r, q⟩ := hsp
    exact ⟨v, σ', H', J'.ofTry ok, r, q⟩
end Xr
set_option Elab.async false
set_option linter.all false
set_option maxRecDepth 100000
set_option maxHeartbeats 4000000
/-! Hc: facts of classes as Bools of the fragment: properties, classmethods, constants of a class, own errors. -/
namespace Hc
open PySem PySem.Spec PyProof.Rows L2 ClX
def oo (a : Option (Option Value)) (b : Value) : Bool := decide (a = some (some b))
theorem oo_ok {a : Option (Option Value)} {b : Value} (h : oo a b = true) : a = some (some b) := of_decide_eq_true h
/-- a property: its record -/
def propP (K : PySem.W.Frag) (C : Addr) (f : Str) : Addr := match PySem.W.findIn K (.ref C) f with
  | some (some (.ref p)) => p
  | _ => 0
def propB (K : PySem.W.Frag) (C : Addr) (f : Str) (g : Addr) : Bool := oo (PySem.W.findIn K (.ref C) f) (.ref (propP K C f)) && (oo (PySem.W.specialIn K (.ref (propP K C f)) "__get__") (.builtin "property.__get__") &&
  (decide (PySem.W.takesIn K (.ref (propP K C f)) = some true) && (match PySem.W.recIn K (propP K C f) "property" with
    | some (.ref q :: _) => decide (q = g)
    | _ => false)))
theorem propB_ok {K : PySem.W.Frag} {C : Addr} {f : Str} {g : Addr} (h : propB K C f g = true) : PropOf K C f (propP K C f) g := by
  unfold propB at h
  simp only [Bool.and_eq_true] at h
  obtain ⟨h1, h2, h3, h4⟩ := h
  refine ⟨oo_ok h1, oo_ok h2, of_decide_eq_true h3, ?_⟩
  split at h4
  · rename_i q rest e
    have eq : q = g := of_decide_eq_true h4
    exact ⟨rest, by rw [e, eq]⟩
  · cases h4
/-- reading attributes of the class itself -/
def readB (K : PySem.W.Frag) (C : Addr) : Bool := PySem.W.readsIn K C (.type "type") && oo (PySem.W.specialIn K (.ref C) "__getattribute__") (.builtin "type.__getattribute__")
theorem readB_ok {K : PySem.W.Frag} {C : Addr} (h : readB K C = true) : CRead K C (.type "type") := by
  unfold readB at h
  rw [Bool.and_eq_true] at h
  exact ⟨h.1, oo_ok h.2⟩
/-- a constant of the class that is an object: its address -/
def cvalP (K : PySem.W.Frag) (C : Addr) (f : Str) : Addr := match PySem.W.findCls K (.ref C) (.type "type") f with
  | some (.val (.ref p)) => p
  | _ => 0
def cvalB (K : PySem.W.Frag) (C : Addr) (f : Str) : Bool := match PySem.W.findCls K (.ref C) (.type "type") f with
  | some (.val (.ref _)) => true
  | _ => false
theorem cvalB_ok {K : PySem.W.Frag} {C : Addr} {f : Str} (h : cvalB K C f = true) : CVal K C (.type "type") f (.ref (cvalP K C f)) (.ref (cvalP K C f)) := by
  unfold cvalB at h
  split at h
  · rename_i p e
    refine ⟨?_, rfl⟩
    rw [e]
    unfold cvalP
    rw [e]
  · cases h
/-- a tuple of texts in the fragment -/
def strsB : List Value → List Str → Bool
  | [], [] => true
  | .str x _ :: r, y :: s => decide (x = y) && strsB r s
  | _, _ => false
theorem strsB_ok : ∀ {us : List Value} {ys : List Str}, strsB us ys = true → Vals (ys.map V.str) us
  | [], [], _ => .nil
  | .str x t :: r, y :: s, h => by
    have h' : (decide (x = y) && strsB r s) = true := h
    rw [Bool.and_eq_true] at h'
    have e : x = y := of_decide_eq_true h'.1
    subst e
    exact .cons ⟨t, rfl⟩ (strsB_ok h'.2)
def tupSB (K : PySem.W.Frag) (a : Addr) (ys : List Str) : Bool := match K.lookup a with
  | some ⟨.type c, _, .seq its _, _⟩ => decide (c = "tuple") && (decide (its.size ≤ 1000) && strsB its.toList ys)
  | _ => false
theorem tupSB_ok {K : PySem.W.Frag} {a : Addr} {ys : List Str} (h : tupSB K a ys = true) (H : Hp) : SqT K H a (ys.map V.str) := by
  unfold tupSB at h
  split at h
  · rename_i c d its n sl e
    simp only [Bool.and_eq_true] at h
    obtain ⟨h1, h2, h3⟩ := h
    have ec : c = "tuple" := of_decide_eq_true h1
    subst ec
    exact .inr ⟨_, its, n, e, rfl, rfl, Nat.le_trans (of_decide_eq_true h2) (by decide), strsB_ok h3⟩
  · cases h
/-- a classmethod: its record, its def -/
def cmP (K : PySem.W.Frag) (C : Addr) (m : Str) : Addr := match PySem.W.findCls K (.ref C) (.type "type") m with
  | some (.get _ (.ref p) _ _) => p
  | _ => 0
def cmB (K : PySem.W.Frag) (C : Addr) (m : Str) (g : Addr) : Bool := (match PySem.W.findCls K (.ref C) (.type "type") m with
  | some (.get (.builtin n) (.ref _) .none (.ref C')) => decide (n = "classmethod.__get__") && decide (C' = C)
  | _ => false) && ((match PySem.W.recIn K (cmP K C m) "classmethod" with
    | some (.ref q :: _) => decide (q = g)
    | _ => false) && PySem.W.fnIn K g)
theorem cmB_ok {K : PySem.W.Frag} {C : Addr} {m : Str} {g : Addr} (h : cmB K C m g = true) : CMet K C (.type "type") m (cmP K C m) g := by
  unfold cmB at h
  simp only [Bool.and_eq_true] at h
  obtain ⟨h1, h2, h3⟩ := h
  refine ⟨?_, ?_, h3⟩
  · split at h1
    · rename_i n p C' e
      rw [Bool.and_eq_true] at h1
      have e1 : n = "classmethod.__get__" := of_decide_eq_true h1.1
      have e2 : C' = C := of_decide_eq_true h1.2
      subst e1 e2
      rw [e]
      unfold cmP
      rw [e]
    · cases h1
  · split at h2
    · rename_i q rest e
      have eq : q = g := of_decide_eq_true h2
      exact ⟨rest, by rw [e, eq]⟩
    · cases h2
/-- an own error right under ValueError, with an __init__ of its own -/
def oexB (K : PySem.W.Frag) (C : Addr) : Bool := (match K.lookup C with
  | some ⟨.type T, _, .cls cd, sl⟩ => (match cd.mro, sl.toList with
    | .ref C' :: bm, [_, _, _, _, some (.builtin n), _] => decide (T = "type") && (decide (C' = C) && (decide (n = "ValueError.__new__") && (!cd.hasDel && (cd.hasDict && PySem.HandSPX.refsVE bm))))
    | _, _ => false)
  | _ => false) && (oo (PySem.W.findIn K (.ref C) "__setattr__") (.builtin "object.__setattr__") && (decide (PySem.W.subIn K (.ref C) (.type "BaseException") = some true) && (decide (PySem.W.typeIn K (.ref C) = some (.type "type")) && PySem.W.keepIn K (.ref C))))
theorem oexB_ok {K : PySem.W.Frag} {C : Addr} (h : oexB K C = true) : OexC K C := by
  unfold oexB at h
  simp only [Bool.and_eq_true] at h
  obtain ⟨h1, h2, h3, h4, h5⟩ := h
  refine ⟨?_, oo_ok h2, of_decide_eq_true h3, of_decide_eq_true h4, h5⟩
  split at h1
  · rename_i T dd cd sl ho
    split at h1
    · rename_i C' bm k0 k1 k2 k3 n k5 hm hs
      simp only [Bool.and_eq_true, Bool.not_eq_true'] at h1
      obtain ⟨e1, e2, e3, hdel, hd, hr⟩ := h1
      have e1 : T = "type" := of_decide_eq_true e1
      have e2 : C' = C := of_decide_eq_true e2
      have e3 : n = "ValueError.__new__" := of_decide_eq_true e3
      subst e1 e2 e3
      obtain ⟨nm, bs, mro, ns, qn, hdd, sn, sub, ab, col, del⟩ := cd
      dsimp only at hm hdel hd
      subst hm hdel hd
      have hsl : sl = #[k0, k1, k2, k3, some (.builtin "ValueError.__new__"), k5] := by
        obtain ⟨l⟩ := sl
        simp only at hs
        rw [hs]
      subst hsl
      exact ⟨nm, qn, ns, bs, bm, sn, sub, ab, col, dd, k0, k1, k2, k3, k5, ho, hr⟩
    · cases h1
  · cases h1
/-- __init__ of the class -/
def iniB (K : PySem.W.Frag) (C f : Addr) : Bool := oo (PySem.W.findIn K (.ref C) "__init__") (.ref f) && decide (PySem.W.typeIn K (.ref f) = some (.type "function"))
/-- any special method -/
def spcB (K : PySem.W.Frag) (C : Addr) (m : Str) (f : Addr) : Bool := oo (PySem.W.findIn K (.ref C) m) (.ref f) && PySem.W.isFn K (.ref f)
theorem iniB_ok {K : PySem.W.Frag} {C f : Addr} (h : iniB K C f = true) : PySem.W.findIn K (.ref C) "__init__" = some (some (.ref f)) ∧ PySem.W.typeIn K (.ref f) = some (.type "function") := by
  unfold iniB at h
  rw [Bool.and_eq_true] at h
  exact ⟨oo_ok h.1, of_decide_eq_true h.2⟩
theorem spcB_ok {K : PySem.W.Frag} {C f : Addr} {m : Str} (h : spcB K C m f = true) : PySem.W.findIn K (.ref C) m = some (some (.ref f)) ∧ PySem.W.isFn K (.ref f) = true := by
  unfold spcB at h
  rw [Bool.and_eq_true] at h
  exact ⟨oo_ok h.1, h.2⟩
end Hc
set_option Elab.async false
set_option linter.all false
set_option maxRecDepth 100000
set_option maxHeartbeats 4000000
/-! R10: a method m(self, **rest) called by keywords. -/
namespace Xr
open PySem PySem.Spec PyProof.Rows L2 ClX StX
open PySem.W (dictOf kwEs kwEs_key)
theorem fillKw {prog : Program} {w : World} {A : Around} {E : Value → Shared → Prop} {d : Addr} {Q : PUnit → Shared → Prop} : ∀ (ex : List (Str × Value)) (s : Shared) (es : List DictEntry) (n : Nat), s.heap.get? d = some (dictOf es n) →
    (∀ e ∈ es, ∀ x ∈ ex, e.key.isStr x.1 = false) → (∀ e ∈ es, e.refKey = false) → (ex.map (·.1)).Nodup →
    (∀ h' : Heap, (∀ b, b ≠ d → h'.get? b = s.heap.get? b) → h'.objs.size = s.heap.objs.size → h'.get? d = some (dictOf (es ++ kwEs w.params s.toks ex) (n + ex.length)) → Q ⟨⟩ { s with heap := h', toks := s.toks + ex.length }) →
    wpAny (model prog w) A (forIn ex PUnit.unit fun x _ => (nsSet d x.1 x.2 >>= fun _ => pure (ForInStep.yield PUnit.unit))) Q E s
  | [], s, es, n, D, _, _, _, h => by
    rw [List.forIn_nil]
    refine wpAny_pure (h s.heap (fun _ _ => rfl) rfl ?_)
    show s.heap.get? d = some (dictOf (es ++ []) n)
    rw [List.append_nil]
    exact D
  | x :: r, s, es, n, D, hs, hr, hn, h => by
    obtain ⟨hn1, hn2⟩ := List.nodup_cons.mp (show (x.1 :: r.map (·.1)).Nodup from hn)
    rw [List.forIn_cons]
    have hsx : ∀ e ∈ es, e.key.isStr x.1 = false := fun e he => hs e he x (.head _)
    have e1 : es.any (·.key.isStr x.1) = false := by
      cases q : es.any (·.key.isStr x.1) with
      | false => rfl
      | true => obtain ⟨e, he, z⟩ := List.any_eq_true.mp q; rw [hsx e he] at z; cases z
    have e2 : es.any (·.refKey) = false := by
      cases q : es.any (·.refKey) with
      | false => rfl
      | true => obtain ⟨e, he, z⟩ := List.any_eq_true.mp q; rw [hr e he] at z; cases z
    have e : Obj.putName x.1 (PyData.keyHash w.params x.1) (.str x.1 s.toks) x.2 (dictOf es n) = dictOf (es ++ [⟨PyData.keyHash w.params x.1, .str x.1 s.toks, x.2⟩]) (n + 1) := by
      rw [PySem.W.putName_dict, PySem.W.putL_new hsx]
      show dictOf _ (if es.any (·.key.isStr x.1) then n else n + 1) = _
      rw [e1, if_neg Bool.false_ne_true]
    have c : aRefKeyMayBeTheName x.1 es.toArray = false := by
      rw [aRefKeyMayBeTheName_at, ← Array.any_toList, ← Array.any_toList]
      show (!es.any (·.key.isStr x.1) && es.any (·.refKey)) = false
      rw [e2, Bool.and_false]
    refine wpAny_bind (wpAny_bind ?_)
    unfold nsSet
    refine wpAny_bind (wpAny_bind (wpAny_askSetting (wpAny_pure (wpAny_bind (wpAny_mkText (wpAny_bind (wpAny_loadPart D ?_)))))))
    dsimp only
    rw [c]
    refine wpAny_updatePart D (wpAny_pure ?_)
    refine fillKw r _ (es ++ [⟨PyData.keyHash w.params x.1, .str x.1 s.toks, x.2⟩]) (n + 1) ?_ (fun e he y hy => ?_) (fun e he => ?_) hn2 fun h'' o1 o2 o3 => ?_
    · show (s.heap.update d (Obj.putName x.1 (PyData.keyHash w.params x.1) (.str x.1 s.toks) x.2)).get? d = _
      rw [Heap.get?_update_self _ D (by rw [e]; rfl), e]
    · rcases List.mem_append.mp he with he | he
      · exact hs e he y (.tail _ hy)
      · obtain rfl := List.mem_singleton.mp he
        show (x.1 == y.1) = false
        exact beq_eq_false_iff_ne.mpr fun q => hn1 (by rw [q]; exact List.mem_map_of_mem hy)
    · rcases List.mem_append.mp he with he | he
      · exact hr e he
      · obtain rfl := List.mem_singleton.mp he
        rfl
    · have t1 : s.toks + 1 + r.length = s.toks + (r.length + 1) := by omega
      have t2 : n + 1 + r.length = n + (r.length + 1) := by omega
      have h1 := h h'' (fun b hb => (o1 b hb).trans (Heap.get?_update_other _ _ (Ne.symm hb))) (o2.trans (Heap.size_update _ _ _)) (by
        rw [t2, List.append_assoc] at o3
        exact o3)
      rw [show s.toks + (x :: r).length = s.toks + 1 + r.length by simp only [List.length_cons]; omega] at h1
      exact h1
theorem kwEs_mix {prog : Program} {w : World} : ∀ (ex : List (Str × Value)) (t : Tok), Pairs (mixKind prog w) (kwEs w.params t ex) (ex.map fun q => ((Sum.inr q.1 : Key), q.2))
  | [], _ => Pairs.nil
  | x :: r, t => Pairs.cons (keyIs_str x.1 t) rfl (kwEs_mix r (t + 1))
theorem kwDict {prog : Program} {w : World} {ex : List (Str × Value)} (t : Tok) (n : Nat) (hn : (ex.map (·.1)).Nodup) : (dictOf (kwEs w.params t ex) n).IsDictOf (mixKind prog w) (ex.map fun q => ((Sum.inr q.1 : Key), q.2)) :=
  ⟨(kwEs w.params t ex).toArray, n, ⟨rfl, rfl, rfl⟩, rfl, fun e he => by
    obtain ⟨k, u, hk, hh⟩ := kwEs_key ex t e (List.mem_toArray.mp he)
    exact ⟨.inr k, by rw [hk]; exact keyIs_str k u, hh.trans rfl⟩, kwEs_mix ex t, by
    rw [List.map_map]
    exact List.pairwise_map.mpr (List.pairwise_map.mp hn |>.imp fun h z => h (Sum.inr.inj z))⟩
def kvI (kw : List (Str × V)) : List (Key × V) := kw.map fun q => ((Sum.inr q.1 : Key), q.2)
theorem kvI_rel : ∀ {kw : List (Str × V)} {ku : List (Str × Value)}, RelK kw ku → KV (kvI kw) (ku.map fun q => ((Sum.inr q.1 : Key), q.2))
  | _, _, .nil => .nil
  | _, _, .cons h t => .cons ⟨congrArg Sum.inr h.1, h.2⟩ (kvI_rel t)
/-- the def at f, called with one argument by place and others by keywords, keeps sp: behind the first argument a new dict -/
def FnKw (P : Program) (w : World) (K : PySem.W.Frag) (mg : Str → Option Value) (base : Heap) (CX : CXT) (k : Nat) (f : Addr) (c : Str) (sp : Sp) : Prop :=
  ∀ (A : Around) (outer : List Env) (s : Shared) (H : Hp) (u : Value) (ku : List (Str × Value)) (y : V) (kw : List (Str × V)) (Q : VK) (E : XK), Room k A → Env0 P w K mg base A outer s H → RelV y u → RelK kw ku → (kw.map (·.1)).Nodup → (∀ q ∈ kw, q.1 ≠ c) → kw.length ≤ 1000 →
    (∀ p, H p = none → sp [y, .ref p] (upd H p (.dK (kvI kw))) Q E) → codeAny (model P w) A (.call (.ref f) ⟨[u], ku⟩) (CR CX outer P w H s Q E) s
section
variable {CX : CXT} {P : Program} {w : World} {K : PySem.W.Frag} {mg : Str → Option Value} {base : Heap} {k : Nat} {x qual c a : Str} {params : Arguments} {body : List Stmt} {scope : Scope} {f : Addr} {fd : FuncData} {N : List Str} {sp : Sp}
theorem fn_kwargs (F : FunD K x qual params body scope [] [] f fd) (S : FnScope N [c, a] scope) (hCX : CXUp CX) (h1 : params.posonlyargs.map (·.arg) = []) (h2 : params.args.map (·.arg) = [c]) (h3 : params.kwonlyargs.map (·.arg) = []) (h4 : params.vararg = none) (h5 : ∃ g, params.kwarg = some g ∧ g.arg = a)
    (hbody : ∀ (cdv : Value) (A : Around) (outer : List Env) (s : Shared) (H : Hp) (vs : List V) (Q : VK) (E : XK), Room k (A.deeper (envOfC qual scope s.heap.objs.size f cdv)) → sp vs H Q E →
      ∃ t, PSs (cxOf CX P w K mg base N qual scope f cdv A outer s H E) body t ∧ t { nx := fun _ H' => Q .non H', rt := Q } (start N vs) H) : FnKw P w K mg base CX (k + 1) f c sp := by
  intro A outer s H u ku y kw Q E hr e0 ry rk hnd hc hlen hq
  obtain ⟨oc, od, dV, kV, doc, pm, an, cdv, ct, osl, rfl, lk, hcd, hD, _⟩ := F.ex
  obtain rfl : dV = .none := by
    rcases hD with ⟨_, e⟩ | ⟨e, _⟩
    · exact e
    · exact absurd rfl e
  obtain ⟨g, h5, rfl⟩ := h5
  have hn : H s.heap.objs.size = Option.none := e0.hok.fresh (Nat.le_refl _)
  have hku : ku.map (·.1) = kw.map (·.1) := relK_keys rk
  have hcu : ∀ q ∈ ku, q.1 ≠ c := fun q hm e => by
    have : q.1 ∈ kw.map (·.1) := by rw [← hku]; exact List.mem_map_of_mem hm
    obtain ⟨z, hz, e2⟩ := List.mem_map.mp this
    exact hc z hz (e2.trans e)
  have hklen : ku.length = kw.length := by
    have := congrArg List.length hku
    simpa using this
  refine run_bnd lk hcd S hr e0 (G := fun xs H2 => ∃ p, H p = Option.none ∧ xs = [y, V.ref p] ∧ H2 = upd H p (.dK (kvI kw))) (fun A' Ex Q' h => ?_) fun s2 H2 xs ⟨p, hp, ex, eH⟩ hr' => ?_
  · delta bindArgs
    dsimp only [PySem.W.fnOf]
    rw [h1, h2, h3, h4, h5]
    refine wpAny_bind ?_
    refine wpAny_forIn_list _ (fun rest b s' => s' = s ∧ ∃ done, ku = done ++ rest ∧ b = ([(c, u)], done)) _ ?_ ?_ _ _ ⟨rfl, [], rfl, rfl⟩
    · rintro ⟨k1, v1⟩ rest b s' ⟨rfl, done, he, rfl⟩
      have hne : k1 ≠ c := hcu (k1, v1) (by rw [he]; exact List.mem_append_right _ List.mem_cons_self)
      have hcont : ((([c] : List Str).contains k1 || ([] : List Str).contains k1) = true) = False := by
        simp [hne]
      rw [if_neg (by rw [hcont]; exact id)]
      rw [if_pos (show (some g).isSome = true from rfl)]
      exact wpAny_pure ⟨rfl, done ++ [(k1, v1)], by rw [he]; simp, rfl⟩
    · rintro b s' ⟨rfl, done, he, rfl⟩
      rw [List.append_nil] at he
      subst he
      refine wpAny_bind (seqNone ?_)
      rw [if_neg (by simp)]
      rw [if_neg (by simp [List.lookup])]
      refine wpAny_bind (wpAny_pure ?_)
      dsimp only
      rw [List.forIn_nil]
      refine wpAny_bind (wpAny_pure ?_)
      dsimp only
      have sl : 1000000 ≤ sizeLine := by decide
      rw [if_neg (by simp), if_neg (by omega)]
      refine wpAny_bind (wpAny_alloc ?_)
      have hnd' : (ku.map (·.1)).Nodup := by rw [hku]; exact hnd
      refine wpAny_bind (fillKw ku _ [] 0 (Heap.get?_push_size _ rfl) (fun e he => nomatch he) (fun e he => nomatch he) hnd' fun h' o1 o2 o3 => wpAny_pure ?_)
      have kp : ∀ b o, s'.heap.get? b = some o → h'.get? b = some o := fun b o e => (o1 b (Nat.ne_of_lt (Heap.lt_size e))).trans (Heap.get?_push_of_some _ e)
      have new : ObjOk P w (upd H s'.heap.objs.size (.dK (kvI kw))) h' s'.heap.objs.size (.dK (kvI kw)) :=
        ⟨by unfold kvI; rw [List.length_map]; omega, beq_eq_false_iff_ne.mpr (Ne.symm (Nat.ne_of_lt (env0_big e0))), _, kvI_rel rk, Heap.dictOf_iff.mpr ⟨_, o3, kwDict _ _ hnd'⟩⟩
      have un : Un (frs outer) [] H (upd H s'.heap.objs.size (.dK (kvI kw))) s'.heap h' := Un.laid kp (Nat.le_refl _) hn
      have e2 : Env0 P w K mg base A outer { s' with heap := h', toks := s'.toks + ku.length } (upd H s'.heap.objs.size (.dK (kvI kw))) := by
        refine ⟨e0.frames, e0.mod, fun b x e => ⟨kp b x (e0.bs b x e).1, ?_⟩, ?_, Heap.FunFrames.of_keeps (fun b x e _ => ⟨x, kp b x e, rfl⟩) e0.funs, fun b hb => ?_, e0.hok.laid kp (Nat.le_refl _) new, e0.bare⟩
        · rw [upd_ne (Nat.ne_of_lt (Heap.lt_size (e0.bs b x e).1))]
          exact (e0.bs b x e).2
        · show base.objs.size ≤ h'.objs.size
          rw [o2]
          show base.objs.size ≤ (s'.heap.push _).objs.size
          rw [Heap.size_push]
          exact Nat.le_succ_of_le e0.bsz
        · obtain ⟨_, x, hx, _⟩ := e0.funs.mem hb
          rw [upd_ne (Nat.ne_of_lt (Heap.lt_size hx))]
          exact e0.frf b hb
      have z := h _ _ [y, V.ref s'.heap.objs.size] [u, Value.ref s'.heap.objs.size] e2 un rfl (fun e s'' => hCX outer s' H _ _ E e s'' un kp rfl) (.cons ry (.cons rfl .nil)) rfl ⟨_, hn, rfl, rfl⟩
      have ef : List.filterMap (fun n => Option.map (fun x => (n, x)) (List.lookup n [(c, u)])) ([] ++ [c] ++ []) ++ [(g.arg, Value.ref s'.heap.objs.size)] = [c, g.arg].zip [u, Value.ref s'.heap.objs.size] := by simp [List.lookup]
      rw [ef]
      exact z
  · subst ex eH
    exact hbody cdv A outer s2 _ _ Q E hr' (hq p hp)
end
end Xr
set_option Elab.async false
set_option linter.all false
set_option maxRecDepth 100000
set_option maxHeartbeats 4000000
/-! R11: dict(zip(a, b)) of two tuples. -/
namespace Xr
open PySem PySem.Spec PyProof.Rows L2 ClX StX RZ
section
variable {prog : Program} {w : World} {A : Around} {E : Value → Shared → Prop} {s : Shared}
/-- the two tuples' iterators at turn i, and what stands still -/
structure ZtS (h : Heap) (TI i1 i2 l1 l2 : Addr) (xs ys : Array Value) (i : Nat) : Prop where
  ti : IsPair h TI (.ref i1) (.ref i2)
  h1 : h.IsTupleIter i1 l1 i
  h2 : h.IsTupleIter i2 l2 i
  a1 : h.IsTuple l1 xs
  a2 : h.IsTuple l2 ys
theorem ZtS.keep {h h' : Heap} {TI i1 i2 l1 l2 : Addr} {xs ys : Array Value} {i : Nat} (S : ZtS h TI i1 i2 l1 l2 xs ys i) (k : ∀ b ∈ [TI, i1, i2, l1, l2], ∀ o, h.get? b = some o → h'.get? b = some o) : ZtS h' TI i1 i2 l1 l2 xs ys i :=
  ⟨k TI (by simp) _ S.ti, S.h1.at fun o => k i1 (by simp) o, S.h2.at fun o => k i2 (by simp) o, S.a1.at fun o => k l1 (by simp) o, S.a2.at fun o => k l2 (by simp) o⟩
/-- the first tuple given out is still there: the next pair is a new one -/
theorem zt_next {z TI TO T i1 i2 l1 l2 : Addr} {f : Bool} {oT : Obj} {i : Nat} {xs ys : Array Value} {x y : Value} {Q : Option Value → Shared → Prop} (D : ZipApart z TI TO i1 i2 l1 l2) (hz : IsZipHeld s.heap z TI TO T f) (hT : s.heap.get? T = some oT)
    (S : ZtS s.heap TI i1 i2 l1 l2 xs ys i) (hx : xs[i]? = some x) (hy : ys[i]? = some y)
    (hQ : ∀ h', IsZipHeld h' z TI TO T true → ZtS h' TI i1 i2 l1 l2 xs ys (i + 1) → IsPair h' s.heap.objs.size x y → (∀ c o, c ≠ z → c ≠ i1 → c ≠ i2 → s.heap.get? c = some o → h'.get? c = some o) → Q (some (.ref s.heap.objs.size)) { s with heap := h' }) :
    wpAny (model prog w) A (pyNext (.ref z)) Q E s := by
  have ty : s.TypeIs (.ref z) "zip" := ⟨_, hz, rfl⟩
  unfold pyNext
  refine wpAny_bind (wpAny_attempt (wpAny_callSpecial?_slot (name := Str.ofString "__next__") ty F.slot_zip_next (wpAny_call_entry F.slot_zip_next ty F.entry_zip_next ?_ (F.args_zip_next_1 _))))
  show wpAny _ _ (field (.ref z) 2 >>= _) _ _ _
  refine wpAny_bind (wpAny_field hz rfl (x := .bool false) rfl ?_)
  show wpAny _ _ (field (.ref z) 3 >>= _) _ _ _
  refine wpAny_bind (wpAny_field hz rfl (x := .ref TI) rfl (wpAny_bind (wpAny_seqItems S.ti rfl ?_)))
  show wpAny _ _ (Builtin.SmallTypes.ownedTupleIsFree (.ref z) >>= _) _ _ _
  refine wpAny_bind (wpAny_tupleHeld_zip hz hT fun g1 z1 b1 => ?_)
  rw [if_neg Bool.false_ne_true]
  refine wpAny_bind ?_
  rw [← Array.forIn_toList]
  simp only [List.forIn_cons, List.forIn_nil]
  refine wpAny_bind (wpAny_bind (wpAny_holding ?_))
  show wpAny _ _ (Builtin.SmallTypes.nextOf (.ref i1) >>= _) _ _ _
  refine wpAny_bind (nextOf_tuple_item (s := { s with heap := g1 }) (S.h1.extBut b1.extBut D.i1z) (S.a1.extBut b1.extBut D.l1z) hx fun g2 t1 b2 => wpAny_pure (wpAny_pure (wpAny_bind (wpAny_bind (wpAny_holding ?_)))))
  show wpAny _ _ (Builtin.SmallTypes.nextOf (.ref i2) >>= _) _ _ _
  refine wpAny_bind (nextOf_tuple_item (s := { s with heap := g2 }) ((S.h2.extBut b1.extBut D.i2z).extBut b2.extBut D.i12.symm) ((S.a2.extBut b1.extBut D.l2z).extBut b2.extBut D.l2i1) hy fun g3 t2 b3 => wpAny_pure (wpAny_pure (wpAny_pure ?_)))
  show wpAny _ _ (newTuple [x, y] >>= _) _ _ _
  refine wpAny_bind (wpAny_newTuple (wpAny_pure ⟨_, rfl, wpAny_pure ?_⟩))
  have sz : g3.objs.size = s.heap.objs.size := b3.1.trans (b2.1.trans b1.1)
  have kp : ∀ c o, c ≠ z → c ≠ i1 → c ≠ i2 → s.heap.get? c = some o → (g3.push { cls := .type "tuple", data := .seq #[x, y] }).get? c = some o := fun c o c1 c2 c3 e => Heap.get?_push_of_some _ (b3.extBut _ _ c3 (b2.extBut _ _ c2 (b1.extBut _ _ c1 e)))
  show Q (some (.ref g3.objs.size)) _
  rw [sz]
  refine hQ _ (Heap.get?_push_of_some _ (b3.extBut _ _ D.i2z.symm (b2.extBut _ _ D.i1z.symm z1))) ⟨kp _ _ D.TIz D.TIi1 D.TIi2 S.ti, (t1.extBut b3.extBut D.i12).at fun o e => Heap.get?_push_of_some _ e, t2.at fun o e => Heap.get?_push_of_some _ e, S.a1.at fun o e => kp _ o D.l1z D.l1i1 D.l1i2 e, S.a2.at fun o e => kp _ o D.l2z D.l2i1 D.l2i2 e⟩ ?_ kp
  have e : (g3.push { cls := .type "tuple", data := .seq #[x, y] }).get? g3.objs.size = some { cls := .type "tuple", data := .seq #[x, y] } := Heap.get?_push_size _ rfl
  rw [sz] at e
  exact e
theorem zt_end {z TI TO T i1 i2 l1 l2 : Addr} {f : Bool} {oT : Obj} {i : Nat} {xs ys : Array Value} {Q : Option Value → Shared → Prop} (hh : A.handled = none) (D : ZipApart z TI TO i1 i2 l1 l2) (hz : IsZipHeld s.heap z TI TO T f) (hT : s.heap.get? T = some oT)
    (S : ZtS s.heap TI i1 i2 l1 l2 xs ys i) (hend : xs[i]? = none)
    (hQ : ∀ h', (∀ c o, c ≠ z → c ≠ i1 → c ≠ i2 → s.heap.get? c = some o → h'.get? c = some o) → Q none { s with heap := h' }) : wpAny (model prog w) A (pyNext (.ref z)) Q E s := by
  have ty : s.TypeIs (.ref z) "zip" := ⟨_, hz, rfl⟩
  unfold pyNext
  refine wpAny_bind (wpAny_attempt (wpAny_callSpecial?_slot (name := Str.ofString "__next__") ty F.slot_zip_next (wpAny_call_entry F.slot_zip_next ty F.entry_zip_next ?_ (F.args_zip_next_1 _))))
  show wpAny _ _ (field (.ref z) 2 >>= _) _ _ _
  refine wpAny_bind (wpAny_field hz rfl (x := .bool false) rfl ?_)
  show wpAny _ _ (field (.ref z) 3 >>= _) _ _ _
  refine wpAny_bind (wpAny_field hz rfl (x := .ref TI) rfl (wpAny_bind (wpAny_seqItems S.ti rfl ?_)))
  show wpAny _ _ (Builtin.SmallTypes.ownedTupleIsFree (.ref z) >>= _) _ _ _
  refine wpAny_bind (wpAny_tupleHeld_zip hz hT fun g1 z1 b1 => ?_)
  rw [if_neg Bool.false_ne_true]
  refine wpAny_bind ?_
  rw [← Array.forIn_toList]
  simp only [List.forIn_cons, List.forIn_nil]
  refine wpAny_bind (wpAny_bind (wpAny_holding ?_))
  show wpAny _ _ (Builtin.SmallTypes.nextOf (.ref i1) >>= _) _ _ _
  refine wpAny_bind (nextOf_tuple_end (s := { s with heap := g1 }) hh (S.h1.extBut b1.extBut D.i1z) (S.a1.extBut b1.extBut D.l1z) hend fun g2 e b2 he => ?_)
  obtain ⟨o, ho, hc⟩ := he
  refine wpAny_bind (wpAny_isInstance (T := "StopIteration") (b := true) ⟨o, ho, hc⟩ isSubtype_stop (wpAny_pure (hQ _ fun c o c1 c2 _ x => b2 _ _ c2 (b1.extBut _ _ c1 x))))
/-- zip(l1, l2) of two tuples of one length, as what dict() may be given -/
theorem zt_arg {z TI TO i1 i2 l1 l2 : Addr} (D : ZipApart z TI TO i1 i2 l1 l2) {xs ys : Array Value} (hl : xs.size = ys.size) :
    PairArg prog w "zip" z [z, TI, TO, i1, i2, l1, l2] [z, TO, i1, i2] xs.size (fun i k v => xs[i]? = some k ∧ ys[i]? = some v) (fun h => IsZip h z TI TO .none ∧ (∃ a b, IsPair h TO a b) ∧ ZtS h TI i1 i2 l1 l2 xs ys 0) where
  type := fun s ok => ⟨_, ok.1, rfl⟩
  notDict := by decide
  keep := fun h h' ok k => ⟨k _ _ ok.1, ok.2.1.imp fun a ⟨b, e⟩ => ⟨b, k _ _ e⟩, ok.2.2.keep fun b _ o => k b o⟩
  there := fun h ok b hb => by
    obtain ⟨hz, ⟨a, c, hO⟩, S⟩ := ok
    obtain ⟨o1, e1, _⟩ := S.h1
    obtain ⟨o2, e2, _⟩ := S.h2
    obtain ⟨o3, e3, _⟩ := S.a1
    obtain ⟨o4, e4, _⟩ := S.a2
    have e : b = z ∨ b = TI ∨ b = TO ∨ b = i1 ∨ b = i2 ∨ b = l1 ∨ b = l2 := by simpa using hb
    rcases e with e | e | e | e | e | e | e <;> rw [e]
    · exact ⟨_, hz⟩
    · exact ⟨_, S.ti⟩
    · exact ⟨_, hO⟩
    · exact ⟨_, e1⟩
    · exact ⟨_, e2⟩
    · exact ⟨_, e3⟩
    · exact ⟨_, e4⟩
  sub := fun b hb => by
    have e : b = z ∨ b = TO ∨ b = i1 ∨ b = i2 := by simpa using hb
    rcases e with e | e | e | e <;> rw [e] <;> simp
  noKeys := fun A s Q E hA ok h => getAttrOr_miss_zip ok.1 rfl rfl rfl zip_no_keys (by decide +kernel) hA h
  iter := fun A s d Q E hA ok hd hdf h => by
    obtain ⟨hz, ⟨a, b, hO⟩, S⟩ := ok
    have hdf' : d ≠ z ∧ d ≠ TI ∧ d ≠ TO ∧ d ≠ i1 ∧ d ≠ i2 ∧ d ≠ l1 ∧ d ≠ l2 := by simpa using hdf
    obtain ⟨dz, dT, dO, d1, d2, d3, d4⟩ := hdf'
    have off : ∀ {h h' : Heap} {n : Nat}, ZtS h TI i1 i2 l1 l2 xs ys n → (∀ b o, b ≠ d → h.get? b = some o → h'.get? b = some o) → ZtS h' TI i1 i2 l1 l2 xs ys n := fun S k => S.keep fun b hb o => k b o (by
      have e : b = TI ∨ b = i1 ∨ b = i2 ∨ b = l1 ∨ b = l2 := by simpa using hb
      rcases e with e | e | e | e | e <;> rw [e] <;> exact Ne.symm (by assumption))
    refine wpAny_pyIter_zip hz (h z [z, TO, i1, i2] (fun n g => ZtS g TI i1 i2 l1 l2 xs ys n ∧ ((IsZip g z TI TO .none ∧ ∃ a b, IsPair g TO a b) ∨ ∃ T f oT, IsZipHeld g z TI TO T f ∧ g.get? T = some oT ∧ T ≠ z ∧ T ≠ i1 ∧ T ≠ i2 ∧ T ≠ d)) s.heap s.toks
      ⟨by simp; exact ⟨dz, dO, d1, d2⟩, fun n g g' st k => ⟨off st.1 k, st.2.imp (fun q => ⟨k _ _ (Ne.symm dz) q.1, q.2.imp fun a ⟨b, e⟩ => ⟨b, k _ _ (Ne.symm dO) e⟩⟩) fun ⟨T, f, oT, q1, q2, r1, r2, r3, r4⟩ => ⟨T, f, oT, k _ _ (Ne.symm dz) q1, k _ _ r4 q2, r1, r2, r3, r4⟩⟩, ?_, ?_⟩
      ⟨S, .inl ⟨hz, a, b, hO⟩⟩ (fun _ _ e => e) fun b hb => .inl hb)
    · intro n t Qn En hn st hds q
      obtain ⟨S, st⟩ := st
      obtain ⟨x, hx⟩ : ∃ x, xs[n]? = some x := ⟨_, Array.getElem?_eq_getElem hn⟩
      obtain ⟨y, hy⟩ : ∃ y, ys[n]? = some y := ⟨_, Array.getElem?_eq_getElem (hl ▸ hn)⟩
      have lt : ∀ {c o}, t.heap.get? c = some o → t.heap.objs.size ≠ c := fun e => Nat.ne_of_gt (Heap.lt_size e)
      have n1 : t.heap.objs.size ≠ i1 := let ⟨_, e, _⟩ := S.h1; lt e
      have n2 : t.heap.objs.size ≠ i2 := let ⟨_, e, _⟩ := S.h2; lt e
      rcases st with ⟨kz, a, b, kO⟩ | ⟨T, f, oT, kz, kT, r1, r2, r3, r4⟩
      · refine pyNext_zipT_item D kz S.ti kO S.h1 S.h2 S.a1 S.a2 hx hy fun h' c1 c2 c3 c4 c5 c6 k => ?_
        exact q _ x y h' t.toks ⟨hx, hy⟩ (.inl ⟨_, c5, rfl, _, rfl⟩) ⟨⟨k _ _ D.TIz D.TITO D.TIi1 D.TIi2 S.ti, c3, c4, S.a1.at fun o => k _ o D.l1z D.l1TO D.l1i1 D.l1i2, S.a2.at fun o => k _ o D.l2z D.l2TO D.l2i1 D.l2i2⟩, .inr ⟨_, false, _, c1, c5, lt kz, n1, n2, Nat.ne_of_gt hds⟩⟩
          fun c o hc e => k c o (fun x => hc (by simp [x])) (fun x => hc (by simp [x])) (fun x => hc (by simp [x])) (fun x => hc (by simp [x])) e
      · refine zt_next D kz kT S hx hy fun h' c1 c2 c3 k => ?_
        exact q _ x y h' t.toks ⟨hx, hy⟩ (.inl ⟨_, c3, rfl, _, rfl⟩) ⟨c2, .inr ⟨T, true, oT, c1, k _ _ r1 r2 r3 kT, r1, r2, r3, r4⟩⟩
          fun c o hc e => k c o (fun x => hc (by simp [x])) (fun x => hc (by simp [x])) (fun x => hc (by simp [x])) e
    · intro t Qn En st q
      obtain ⟨S, st⟩ := st
      have hx : xs[xs.size]? = none := Array.getElem?_eq_none (Nat.le_refl _)
      rcases st with ⟨kz, a, b, kO⟩ | ⟨T, f, oT, kz, kT, r1, r2, r3, r4⟩
      · exact pyNext_zipT_end hA D kz S.ti kO S.h1 S.h2 S.a1 S.a2 (.inl hx) fun h' k => q h' t.toks fun c o hc e => k c o (fun x => hc (by simp [x])) (fun x => hc (by simp [x])) (fun x => hc (by simp [x])) (fun x => hc (by simp [x])) e
      · exact zt_end hA D kz kT S hx fun h' k => q h' t.toks fun c o hc e => k c o (fun x => hc (by simp [x])) (fun x => hc (by simp [x])) (fun x => hc (by simp [x])) e
end
/-- the pairs of names and values -/
theorem zt_kv : ∀ {ns : List Str} {zs : List V} {us vs : List Value} {P : Program} {w : World}, Vals (ns.map V.str) us → Vals zs vs → us.length = vs.length →
    ∃ ku : List (Key × Value), KV (kvI (ns.zip zs)) ku ∧ PairsHave (mixKind P w) us.length (fun i k v => us.toArray[i]? = some k ∧ vs.toArray[i]? = some v) ku := by
  intro ns
  induction ns with
  | nil =>
    intro zs us vs P w r q hl
    cases r
    exact ⟨[], .nil, rfl, fun i k v e => by simp at e⟩
  | cons n ns ih =>
    intro zs us vs P w r q hl
    cases r with
    | @cons a u as us h t =>
      cases q with
      | nil => cases hl
      | @cons y v zs vs hy tq =>
        obtain ⟨ku, rk, ek, hk⟩ := ih (P := P) (w := w) t tq (Nat.succ.inj hl)
        refine ⟨(.inr n, v) :: ku, .cons ⟨rfl, hy⟩ rk, congrArg Nat.succ ek, fun i k v' e => ?_⟩
        cases i with
        | zero =>
          obtain ⟨e1, e2⟩ := e
          have e1' : u = k := by simpa using e1
          have e2' : v = v' := by simpa using e2
          subst e1' e2'
          obtain ⟨tk, rfl⟩ := (show ∃ t, u = Value.str n t from h)
          exact ⟨.inr n, rfl, keyIs_str n tk⟩
        | succ i => exact hk i k v' ⟨by simpa using e.1, by simpa using e.2⟩
/-- dict(zip(a, b)), a a tuple of names, b another one as long -/
def tDictZip (K : PySem.W.Frag) (t : TA) : TE := fun σ H Q => t σ H fun vs H1 => ∃ (a b : Addr) (ns : List Str) (zs : List V), vs = [.ref a, .ref b] ∧ SqT K H1 a (ns.map V.str) ∧ SqT K H1 b zs ∧ ns.length = zs.length ∧ ∀ p, H1 p = none → Q (.ref p) (upd H1 p (.dK (mergeK [] (kvI (ns.zip zs)))))
theorem pe_dictZip {X : Cx} {e e2 : Expr} {ta : TA} {p pos p2 pos2 : Pos} (hc : X.calm = true) (hg : Gl X "dict") (hm : X.mg "dict" = none) (hg2 : Gl X "zip") (hm2 : X.mg "zip" = none) (ha : PA X [e, e2] ta)
    (hs : starEach [e, e2] X.env = (false, eval e X.env) :: starEach [e2] X.env := by rfl) (hpl : (backTo pos2 (starEach [e2] X.env)).any (·.1) = false := by rfl)
    (hs1 : starEach [(.Call (.Name "zip" p2) [e, e2] [] pos2)] X.env = (false, eval (.Call (.Name "zip" p2) [e, e2] [] pos2) X.env) :: starEach [] X.env := by rfl) :
    PE X (.Call (.Name "dict" p) [.Call (.Name "zip" p2) [e, e2] [] pos2] [] pos) (tDictZip X.K ta) := by
  refine ⟨fun pins s σ H R I h => ?_⟩
  refine wpAny_Call_Name_kw (ld_blt I hg hm PyProof.Rows.boot_dict ?_)
  refine PyProof.Rows.callWith_type1 ?_ hs1 rfl
  rw [hs1]
  show wpAny _ _ (spliced ((false, eval (.Call (.Name "zip" p2) [e, e2] [] pos2) X.env) :: backTo pos (starEach [] X.env))) _ _ s
  refine Calls.spliced_cons ?_
  refine Call_ (ld_blt I hg2 hm2 PyProof.Rows.boot_zip (PyProof.Rows.callWith_type1 (thn (ha.run pos2 pins s σ H _ I h) fun us s1 ⟨vs, H1, I1, r1, q1⟩ => ?_) hs hpl))
  obtain ⟨a, b, ns, zs, ex, ta', tb', hl, q⟩ := q1
  subst ex
  obtain ⟨u, v, eu, ru, rv⟩ := vals2 r1
  subst eu
  cases ru
  cases rv
  obtain ⟨its, r2, p1, z1⟩ := I1.tuple ta'
  obtain ⟨its2, r3, p2', z2⟩ := I1.tuple tb'
  obtain ⟨o1, ho1, _⟩ := id p1
  obtain ⟨o2, ho2, _⟩ := id p2'
  have el : its.length = its2.length := by rw [← r2.length, ← r3.length, List.length_map, hl]
  refine call_zipT (show s1.heap.IsTuple a its.toArray from p1) (show s1.heap.IsTuple b its2.toArray from p2') fun h' hz hTI hTO h1 h2 hsz hk => ?_
  have D := PySem.W.ktu_apart s1.heap.objs.size a b (Heap.lt_size ho1) (Heap.lt_size ho2)
  have I2 : Inv X pins σ H1 { s1 with heap := h' } := I1.kept (t' := s1.toks) hk
  refine Calls.spliced_nil ?_
  obtain ⟨ku, rk, hp⟩ := zt_kv (P := X.prog) (w := X.w) r2 r3 el
  have ex : its.toArray.size = its.length := by simp
  have hp' : PairsHave (mixKind X.prog X.w) its.toArray.size (fun i k v => its.toArray[i]? = some k ∧ its2.toArray[i]? = some v) ku := by rw [ex]; exact hp
  refine PySem.call_dict_pairs (zt_arg D (xs := its.toArray) (ys := its2.toArray) (by simp [el])) (I2.ok.hd hc) ⟨hz, ⟨_, _, hTO⟩, hTI, h1, h2, Heap.IsTuple.at (h := s1.heap) p1 fun o e => hk _ o e, Heap.IsTuple.at (h := s1.heap) p2' fun o e => hk _ o e⟩ hp' ?_ fun h2 tk hd k => ?_
  · rw [ex, ← r2.length]; exact z1
  · have hb : (h'.objs.size == sysModules) = false := beq_eq_false_iff_ne.mpr (Nat.ne_of_gt I2.big)
    have hle : s1.heap.objs.size ≤ h'.objs.size := by rw [hsz]; omega
    have hlen : (mergeK [] (kvI (ns.zip zs))).length ≤ sizeLine := by
      refine Nat.le_trans (length_mergeK _ []) ?_
      have e1 : (kvI (ns.zip zs)).length = its.length := by rw [rk.length, hp.1]
      have e2 : its.length ≤ sizeLine := by rw [← r2.length]; exact z1
      rw [e1]
      simpa using e2
    refine ⟨.ref h'.objs.size, upd H1 h'.objs.size (.dK (mergeK [] (kvI (ns.zip zs)))), I1.laid (t' := tk) (fun c o e => k c o ?_ (hk _ _ e)) hle (show ObjOk X.prog X.w _ _ _ (.dK (mergeK [] (kvI (ns.zip zs)))) from ⟨hlen, hb, merged [] ku, KV.merge rk .nil, hd⟩), rfl, q _ (I1.hok.fresh hle)⟩
    have lt : c < s1.heap.objs.size := Heap.lt_size e
    intro hm
    have hm' : c = s1.heap.objs.size + 4 ∨ c = s1.heap.objs.size + 3 ∨ c = s1.heap.objs.size ∨ c = s1.heap.objs.size + 1 := by simpa using hm
    have l2 : @LT.lt Nat _ c s1.heap.objs.size := lt
    rcases hm' with z | z | z | z
    · have z2 : @Eq Nat c (s1.heap.objs.size + 4) := z
      omega
    · have z2 : @Eq Nat c (s1.heap.objs.size + 3) := z
      omega
    · have z2 : @Eq Nat c s1.heap.objs.size := z
      omega
    · have z2 : @Eq Nat c (s1.heap.objs.size + 1) := z
      omega
end Xr
set_option Elab.async false
set_option linter.all false
set_option maxRecDepth 100000
set_option maxHeartbeats 4000000
/-! R12: {**a, **b}. -/
namespace Xr
open PySem PySem.Spec PyProof.Rows L2 ClX StX
section
variable {X : Cx} {pins : List (Addr × Obj)} {σ : L2.St} {H : Hp} {s : Shared}
/-- the dict at a, merged into the one at d -/
theorem mergeD {d a : Addr} {kd ka : List (Key × V)} {Q : Unit → Shared → Prop} {E : Value → Shared → Prop} (I : Inv X pins σ H s) (hd : H d = some (.dK kd)) (ha : H a = some (.dK ka)) (hne : a ≠ d) (hsz : kd.length + ka.length ≤ sizeLine)
    (h : ∀ h', Inv X pins σ (upd H d (.dK (mergeK kd ka))) { s with heap := h' } → Q () { s with heap := h' }) : wpAny (model X.prog X.w) X.A (mergeMapping d (.ref a) false) Q E s := by
  obtain ⟨z, hS, vs, rel, dd⟩ := dk_of I.hok ha
  obtain ⟨z0, hS0, vs0, rel0, dd0⟩ := dk_of I.hok hd
  refine wpAny_mergeMapping (fun q => hne q.symm) hS dd0 dd (fun e => nomatch e) (fun h' hd' hs' => h h' ?_) (by rw [← rel0.length, ← rel.length]; exact hsz)
  have hex : ∃ u, h'.get? d = some u := by
    obtain ⟨o, _, _, ho, _⟩ := hd'
    exact ⟨o, ho⟩
  exact I.write (t' := s.toks) (x := d) (e := d) (o := .dK (mergeK kd ka)) (by rw [hd]; exact True.intro) (.inl rfl) (fun b u hb q => (hs'.2 b hb).trans q) hex ⟨Nat.le_trans (length_mergeK ka kd) hsz, hS0, _, rel.merge rel0, hd'⟩
end
/-- {**a, **b}: a new dict, which a and b are merged into -/
def tMerge2 (ta tb : TE) : TE := fun σ H Q => ∀ d, H d = none → ta σ (upd H d (.dK [])) fun x H1 => H1 d = some (.dK []) ∧ ∃ a ka, x = .ref a ∧ a ≠ d ∧ H1 a = some (.dK ka) ∧ ka.length ≤ 1000 ∧
  tb σ (upd H1 d (.dK (mergeK [] ka))) fun y H2 => H2 d = some (.dK (mergeK [] ka)) ∧ ∃ b kb, y = .ref b ∧ b ≠ d ∧ H2 b = some (.dK kb) ∧ kb.length ≤ 1000 ∧ Q (.ref d) (upd H2 d (.dK (mergeK (mergeK [] ka) kb)))
theorem pe_merge2 {X : Cx} {e1 e2 : Expr} {ta tb : TE} {pos : Pos} (ha : PE X e1 ta) (hb : PE X e2 tb) : PE X (.Dict [none, none] [e1, e2] pos) (tMerge2 ta tb) := by
  refine ⟨fun pins s σ H Q I h => ?_⟩
  have sl : 1000000 ≤ sizeLine := by decide
  have hn : H s.heap.objs.size = none := I.hok.fresh (Nat.le_refl _)
  have I1 : Inv X pins σ (upd H s.heap.objs.size (.dK [])) { s with heap := s.heap.push { cls := .type "dict", data := .dict #[] } } :=
    I.laid (t' := s.toks) (fun b u q => Heap.get?_push_of_some _ q) (Nat.le_refl _) (dk_empty _ I.big)
  have e : eval (.Dict [none, none] [e1, e2] pos) X.env = (do
      standAt pos
      dictDisplay [(none, do let x ← eval e1 X.env; standAt pos; pure x), (none, do let x ← eval e2 X.env; standAt pos; pure x)]) := by rfl
  rw [e]
  refine wpAny_bind (wpAny_standAt ?_)
  unfold dictDisplay
  simp only [List.forIn_cons, List.forIn_nil, List.isEmpty_nil, if_true]
  refine wpAny_bind (wpAny_bind (wpAny_bind (wpAny_pure ?_)))
  dsimp only
  refine wpAny_bind (wpAny_alloc (wpAny_bind (wpAny_holding (wpAny_bind (thn (ha.run pins _ σ _ _ I1 (h _ hn)) fun v s1 ⟨x, H1, I2, rx, hd, a, ka, ex, hne, ea, hl, q1⟩ => ?_)))))
  subst ex
  obtain rfl : v = Value.ref a := rx
  refine wpAny_bind (wpAny_standAt (wpAny_pure (wpAny_bind (wpAny_onRaise (wpAny_tryCatch (wpAny_onRaise (wpAny_holding (mergeD I2 hd ea hne (by rw [List.length_nil]; omega) fun h1 I3 => ?_))))))))
  refine wpAny_pure ?_
  dsimp only
  refine wpAny_bind (wpAny_bind ?_)
  rw [if_pos (by rfl)]
  refine wpAny_pure ?_
  dsimp only
  refine wpAny_bind (wpAny_pure (wpAny_bind (wpAny_holding (wpAny_bind (thn (hb.run pins _ σ _ _ I3 q1) fun v s2 ⟨y, H2, I4, ry, hd2, b, kb, ey, hne2, eb, hl2, q2⟩ => ?_)))))
  subst ey
  obtain rfl : v = Value.ref b := ry
  have lk : (mergeK [] ka).length ≤ 1000 := Nat.le_trans (length_mergeK ka []) (by rw [List.length_nil]; omega)
  refine wpAny_bind (wpAny_standAt (wpAny_pure (wpAny_bind (wpAny_onRaise (wpAny_tryCatch (wpAny_onRaise (wpAny_holding (mergeD I4 hd2 eb hne2 (by omega) fun h2 I5 => ?_))))))))
  refine wpAny_pure ?_
  dsimp only
  refine wpAny_pure ?_
  dsimp only
  refine wpAny_bind ?_
  rw [if_pos (by rfl)]
  refine wpAny_pure (wpAny_pure ⟨.ref s.heap.objs.size, _, I5, rfl, q2⟩)
end Xr
set_option Elab.async false
set_option linter.all false
set_option maxRecDepth 100000
set_option maxHeartbeats 4000000
/-! R13: o.m(k = v, ..), m a def m(self, **rest). -/
namespace Xr
open PySem PySem.Spec PyProof.Rows L2 ClX StX
/-- o.m(k = v, ..) -/
def tMethKw (C : Addr) (m : Str) (ks : List Str) (sp : Sp) (E : XK) (ta : TE) (tk : TA) : TE := fun σ H Q => ta σ H fun x H1 => ∃ a dx fs, x = .ref a ∧ H1 a = some (.ins C dx fs) ∧ fs.lookup m = none ∧
  tk σ H1 fun zs H2 => zs.length = ks.length ∧ ∀ p, H2 p = none → sp [.ref a, .ref p] (upd H2 p (.dK (kvI (ks.zip zs)))) Q E
theorem pe_methKw {X : Cx} {CX : CXT} {k : Nat} {C f : Addr} {c m : Str} {sp : Sp} {E : XK} {o : Expr} {pos apos : Pos} {ta : TE} {tk : TA} {kws : List Keyword} {ks : List Str} {pl : Sem Bool} (he : PE X o ta) (cl : Cls X.K C) (hm : Meth X.K C m f)
    (F : FnKw X.prog X.w X.K X.mg X.base CX k f c sp) (hr : Room k X.A) (hx : Passes CX X E) (hkw : PK X kws tk) (hnd : ks.Nodup) (hc : c ∉ ks) (hlen : ks.length ≤ 1000)
    (hall : (backToKw pos (keywordEach kws X.env)).all (·.1.isSome) = true := by rfl) (hks : (backToKw pos (keywordEach kws X.env)).filterMap (·.1) = ks := by rfl)
    (hpl : ((backTo pos (starEach [] X.env)).any (·.1) || (backToKw pos (keywordEach kws X.env)).any (·.1.isNone)) = false := by rfl)
    (ht : eval (.Call (.Attribute o m apos) [] kws pos) X.env = (do
      let ov ← eval o X.env
      standAt apos.atName
      let (f, first) ← holding [ov] (getMethod ov m pl)
      callWith pos f first (backTo pos (starEach [] X.env)) (backToKw pos (keywordEach kws X.env))) := by rfl) :
    PE X (.Call (.Attribute o m apos) [] kws pos) (tMethKw C m ks sp E ta tk) := by
  refine ⟨fun pins s σ H Q I h => ?_⟩
  refine PySem.W.methodCall_KW (pl := pl) (thn (he.run pins s σ H _ I h) fun u s1 ⟨x, H1, I1, rx, a, dx, fs, ex, ea, l, q⟩ => ?_) ht
  subst ex
  obtain rfl : u = Value.ref a := rx
  refine getmeth_ok I1 ea cl hm l ?_
  refine PySem.W.callWith_KW0 (first := [.ref a]) (h₀ := X.base) I.ok.mod.kin hm.kp hall (thn (hkw.run pos pins s1 σ H1 _ I1 q) fun ws s3 ⟨zs, H3, I3, rz, hl, hsp⟩ => ⟨I3.kIn, ?_⟩) hpl
  rw [hks]
  have zf : (ks.zip zs).map (·.1) = ks := zip_fst hl
  refine wpAny_call (codeAny_mono (F X.A X.stack s3 H3 (.ref a) (ks.zip ws) (.ref a) (ks.zip zs) Q E hr I3.env0 rfl (relK_zip rz) (by rw [zf]; exact hnd) (fun q hq e => hc ?_) ?_ hsp) fun r s' hq => ?_)
  · rw [← e, ← zf]
    exact List.mem_map_of_mem hq
  · have e := congrArg List.length zf
    rw [List.length_map] at e
    rw [e]
    exact hlen
  · cases r with
    | error e => exact hx _ σ H3 s3 e s' I3 hq
    | ok fl =>
      cases fl with
      | ret u => exact I3.after hq
      | next => exact False.elim hq
      | brk => exact False.elim hq
      | cont => exact False.elim hq
end Xr
set_option Elab.async false
set_option linter.all false
set_option maxRecDepth 100000
set_option maxHeartbeats 4000000
/-! R14: dicts of names, some of them exchanged. -/
namespace Xr
open PySem PySem.Spec PyProof.Rows L2 ClX StX
theorem kwV_kvI : ∀ kw : List (Str × V), kwV (kvI kw) = some kw
  | [] => rfl
  | (x, v) :: r => by
    show (kwV (kvI r)).map ((x, v) :: ·) = _
    rw [kwV_kvI r]; rfl
theorem merge_app : ∀ (more kvs : List (Key × V)), ((kvs ++ more).map (·.1)).Nodup → mergeK kvs more = kvs ++ more
  | [], kvs, _ => by rw [List.append_nil]; rfl
  | p :: r, kvs, h => by
    have e : kvs ++ p :: r = (kvs ++ [p]) ++ r := by rw [List.append_assoc]; rfl
    have hn : (kvs.any fun kv => decide (kv.1 = p.1)) = false := by
      rw [List.any_eq_false]
      intro kv hm z
      rw [List.map_append, List.nodup_append] at h
      exact h.2.2 kv.1 (List.mem_map_of_mem hm) p.1 (by rw [List.map_cons]; exact List.mem_cons_self ..) (of_decide_eq_true z)
    show mergeK (putK kvs p.1 p.2) r = _
    unfold putK
    rw [hn, if_neg Bool.false_ne_true, e]
    exact merge_app r _ (by rw [← e]; exact h)
theorem zip_miss (n : Str) (v : V) : ∀ (ns : List Str) (xs : List V), n ∉ ns → (kvI (ns.zip xs)).map (fun kv => if kv.1 = (Sum.inr n : Key) then (kv.1, v) else kv) = kvI (ns.zip xs)
  | [], _, _ => rfl
  | m :: ns, [], _ => rfl
  | m :: ns, x :: xs, h => by
    have h1 : ¬ ((Sum.inr m : Key) = Sum.inr n) := fun e => h (by rw [← Sum.inr.inj e]; exact List.mem_cons_self ..)
    show (if (Sum.inr m : Key) = Sum.inr n then ((Sum.inr m : Key), v) else ((Sum.inr m : Key), x)) :: (kvI (ns.zip xs)).map _ = _
    rw [if_neg h1, zip_miss n v ns xs fun e => h (List.mem_cons_of_mem _ e)]
    rfl
theorem zip_hit (n : Str) (v : V) : ∀ (ns : List Str) (xs : List V) (i : Nat), ns.Nodup → xs.length = ns.length → ns[i]? = some n → (kvI (ns.zip xs)).map (fun kv => if kv.1 = (Sum.inr n : Key) then (kv.1, v) else kv) = kvI (ns.zip (xs.set i v))
  | [], _, i, _, _, h => by simp at h
  | m :: ns, [], i, _, hl, _ => by cases hl
  | m :: ns, x :: xs, 0, hn, hl, h => by
    have e : m = n := by simpa using h
    subst e
    show (if (Sum.inr m : Key) = Sum.inr m then ((Sum.inr m : Key), v) else ((Sum.inr m : Key), x)) :: (kvI (ns.zip xs)).map _ = _
    rw [if_pos rfl, zip_miss m v ns xs (List.nodup_cons.mp hn).1]
    rfl
  | m :: ns, x :: xs, i + 1, hn, hl, h => by
    obtain ⟨hn1, hn2⟩ := List.nodup_cons.mp hn
    have hi : ns[i]? = some n := by simpa using h
    have h1 : ¬ ((Sum.inr m : Key) = Sum.inr n) := fun e => hn1 (by rw [Sum.inr.inj e]; exact List.mem_of_getElem? hi)
    show (if (Sum.inr m : Key) = Sum.inr n then ((Sum.inr m : Key), v) else ((Sum.inr m : Key), x)) :: (kvI (ns.zip xs)).map _ = _
    rw [if_neg h1, zip_hit n v ns xs i hn2 (Nat.succ.inj hl) hi]
    rfl
theorem kvI_keys (ns : List Str) (xs : List V) (hl : xs.length = ns.length) : (kvI (ns.zip xs)).map (·.1) = ns.map Sum.inr := by
  unfold kvI
  rw [List.map_map]
  have e := zip_fst (ks := ns) (zs := xs) hl
  rw [show ((fun x : Key × V => x.1) ∘ fun q : Str × V => ((Sum.inr q.1 : Key), q.2)) = (fun n => (Sum.inr n : Key)) ∘ (·.1) from rfl, ← List.map_map, e]
theorem put_zip {ns : List Str} {xs : List V} {i : Nat} {n : Str} (v : V) (hn : ns.Nodup) (hl : xs.length = ns.length) (h : ns[i]? = some n) : putK (kvI (ns.zip xs)) (.inr n) v = kvI (ns.zip (xs.set i v)) := by
  unfold putK
  rw [if_pos]
  · exact zip_hit n v ns xs i hn hl h
  · rw [List.any_eq_true]
    have hm : (Sum.inr n : Key) ∈ (kvI (ns.zip xs)).map (·.1) := by
      rw [kvI_keys ns xs hl]
      exact List.mem_map_of_mem (List.mem_of_getElem? h)
    obtain ⟨kv, hm, e⟩ := List.mem_map.mp hm
    exact ⟨kv, hm, decide_eq_true e⟩
theorem merge_self {ns : List Str} {xs : List V} (hn : ns.Nodup) (hl : xs.length = ns.length) : mergeK [] (kvI (ns.zip xs)) = kvI (ns.zip xs) :=
  merge_app (kvI (ns.zip xs)) [] (by
    rw [List.nil_append, kvI_keys ns xs hl]
    exact List.pairwise_map.mpr (hn.imp fun h z => h (Sum.inr.inj z)))
/-- parts exchanged, by their places -/
def setAll (xs : List V) (is : List (Nat × V)) : List V := is.foldl (fun xs iv => xs.set iv.1 iv.2) xs
def kwOfI (ns : List Str) (is : List (Nat × V)) : List (Str × V) := is.map fun iv => (ns.getD iv.1 "", iv.2)
theorem setAll_len : ∀ (is : List (Nat × V)) (xs : List V), (setAll xs is).length = xs.length
  | [], xs => rfl
  | iv :: is, xs => by
    show (setAll (xs.set iv.1 iv.2) is).length = _
    rw [setAll_len is, List.length_set]
theorem merge_set {ns : List Str} (hn : ns.Nodup) : ∀ (is : List (Nat × V)) (xs : List V), xs.length = ns.length → (∀ iv ∈ is, iv.1 < ns.length) → mergeK (kvI (ns.zip xs)) (kvI (kwOfI ns is)) = kvI (ns.zip (setAll xs is))
  | [], xs, _, _ => rfl
  | iv :: is, xs, hl, hi => by
    have h0 : ns[iv.1]? = some (ns.getD iv.1 "") := by
      rw [List.getD_eq_getElem?_getD, List.getElem?_eq_getElem (hi iv (List.mem_cons_self ..))]; rfl
    show mergeK (putK (kvI (ns.zip xs)) (.inr (ns.getD iv.1 "")) iv.2) (kvI (kwOfI ns is)) = kvI (ns.zip (setAll (xs.set iv.1 iv.2) is))
    rw [put_zip iv.2 hn hl h0]
    exact merge_set hn is _ (by rw [List.length_set]; exact hl) fun x hx => hi x (List.mem_cons_of_mem _ hx)
end Xr
set_option Elab.async false
set_option linter.all false
set_option maxRecDepth 100000
set_option maxHeartbeats 4000000
/-! R15: a def called in an except suite, that needs no more than its arguments there. -/
namespace Xr
open PySem PySem.Spec PyProof.Rows L2 ClX StX
/-- the def at f keeps sp while p's exception is handled, and lets nothing out -/
structure FnQ (P : Program) (w : World) (K : PySem.W.Frag) (mg : Str → Option Value) (base : Heap) (k : Nat) (f : Addr) (fd : FuncData) (ps : List Str) (sp : Sp) : Prop where
  len : ∀ vs H Q E, sp vs H Q E → vs.length = ps.length
  run : ∀ (A : Around) (outer : List Env) (s : Shared) (H : Hp) (args : Args) (us : List Value) (vs : List V) (Q : VK) (E : XK) (p : Addr × Obj), Room k A → L2H.PinOk outer H s p → (∃ vs, p.2.data = .fields vs) → Env0 P w K mg base A outer s H → BindsTo s fd args (ps.zip us) → Vals vs us → sp vs H Q E →
    codeAny (model P w) (A.mark (some (.ref p.1))) (.call (.ref f) args) (CR CX0 outer P w H s Q E) s
section
variable {P : Program} {w : World} {K : PySem.W.Frag} {mg : Str → Option Value} {base : Heap} {x qual : Str} {params : Arguments} {body : List Stmt} {scope : Scope} {dvs : List V} {kws : List (Str × V)} {f : Addr} {fd : FuncData}
theorem fn_q {N ps : List Str} {k : Nat} {sp : Sp} (F : FunD K x qual params body scope dvs kws f fd) (S : FnScope N ps scope) (len : ∀ vs H Q E, sp vs H Q E → vs.length = ps.length)
    (hbody : ∀ (cdv : Value) (A : Around) (outer : List Env) (s : Shared) (H : Hp) (vs : List V) (Q : VK) (E : XK) (p : Addr × Obj), Room k (A.deeper (envOfC qual scope s.heap.objs.size f cdv)) → sp vs H Q E →
      ∃ t, PSs ((cxOf CX0 P w K mg base N qual scope f cdv A outer s H E).suite p.1 [p]) body t ∧ t { nx := fun _ H' => Q .non H', rt := Q } (start N vs) H) : FnQ P w K mg base (k + 1) f fd ps sp := by
  obtain ⟨oc, od, dV, kV, doc, pm, an, cdv, ct, osl, rfl, lk, hcd, _, _⟩ := F.ex
  refine ⟨len, fun A outer s H args us vs Q E p hr hpin hfl e0 hb r hsp => ?_⟩
  have hl := len _ _ _ _ hsp
  have KX : K.In s.heap := e0.mod.kin.keeps fun b o e => (e0.bs b o e).1
  have lim : s.heap.NoLimit := e0.mod.nolimit.keeps fun b o e => (e0.bs b o e).1
  have hkind : ∀ y ∈ ps.zip us, scope.names.lookup y.1 = some .local ∨ (scope.names.lookup y.1 = some .cell ∧ ((cellsFrom (s.heap.objs.size + 1) scope.names []).lookup y.1).isSome = true) := fun ⟨n, v⟩ hy =>
    (S.par n (List.of_mem_zip hy).1).imp id fun q => ⟨q, PySem.W.cellsFrom_some _ _ _ (.inl q)⟩
  refine codeAny_call_function (show (A.mark (some (.ref p.1))).depth < recursionLimit from hr.depth) (KX _ _ lk) rfl S.co S.gen rfl (PySem.W.codeRec_of KX hcd) (hb _ _ _ _ ?_)
  refine wpAny_newFunctionEnv_cells S.kind hkind fun env he s1 y => ?_
  subst he
  refine ⟨lim.keeps y.toInCall.keep, codeAny_func ?_⟩
  obtain ⟨t, ht, hq⟩ := hbody cdv A outer s H vs Q E p (hr.deeper _) hsp
  have I0 := inv_start (CX := CX0) (E := E) S hr.hd e0 hl r y
  obtain ⟨vs0, hd0⟩ := hfl
  have I := I0.suite (a := p.1) (oe := p.2) (y.toInCall.keep _ _ hpin.get) hd0 hpin.free (Nat.ne_of_lt (Heap.lt_size hpin.get)) hpin.nofs
  refine wpAny_mono (ht.run [] s1 (start N vs) H _ I hq) (fun fl s' hs => ?_) fun e s' hs => hs.elim
  cases fl with
  | ret u =>
    obtain ⟨v, σ', H', J, rv, q⟩ := hs
    exact ⟨v, H', J.os, J.bare, J.base, J.hok, rv, q⟩
  | next =>
    obtain ⟨σ', H', J, q⟩ := hs
    exact ⟨.non, H', J.os, J.bare, J.base, J.hok, rfl, q⟩
  | brk =>
    obtain ⟨_, _, _, q⟩ := hs
    exact False.elim q
  | cont =>
    obtain ⟨_, _, _, q⟩ := hs
    exact False.elim q
end
def tCallQ (sp : Sp) (t : TA) : TE := fun σ H Q => t σ H fun vs H1 => sp vs H1 Q E0
section
variable {X : Cx} {a : Addr} {oe : Obj} {pn : List (Addr × Obj)} {k : Nat} {f : Addr} {fd : FuncData} {ps : List Str} {sp : Sp} {x : Str} {q pos : Pos} {e : Expr} {es : List Expr} {t : TA}
theorem run_fnQ {pins : List (Addr × Obj)} {σ : L2.St} {H : Hp} {s : Shared} {Q : VK} {us : List Value} {vs : List V} (F : FnQ X.prog X.w X.K X.mg X.base k f fd ps sp) (hr : Room k X.A) (hfl : ∃ vs, oe.data = .fields vs) (hb : Binds X.K fd ps [])
    (I : Inv (X.suite a ((a, oe) :: pn)) pins σ H s) (r : Vals vs us) (h : sp vs H Q E0) : wpAny (model X.prog X.w) (X.A.mark (some (.ref a))) (call (.ref f) us) (EP (X.suite a ((a, oe) :: pn)) pins σ Q) (fun _ _ => False) s := by
  have hl : us.length = ps.length := by rw [← r.length]; exact F.len _ _ _ _ h
  have b := hb s us I.kIn (by rw [List.append_nil]; exact hl)
  rw [List.append_nil] at b
  have P1 := I.pin (a, oe) (List.mem_append_left _ List.mem_cons_self)
  have hpin : L2H.PinOk X.stack H s (a, oe) := ⟨P1.1, P1.2.1, fun hm => (List.mem_cons.mp (I.stkSub a hm)).elim P1.2.2.1 P1.2.2.2.1, P1.2.2.2.2⟩
  have e0 : Env0 X.prog X.w X.K X.mg X.base X.A X.stack s H := by
    have e1 := I.env0
    exact ⟨e1.frames, e1.mod, e1.bs, e1.bsz, e1.funs, e1.frf, e1.hok, e1.bare⟩
  refine wpAny_call (codeAny_mono (F.run X.A X.stack s H ⟨us, []⟩ us vs Q E0 (a, oe) hr hpin hfl e0 b r h) fun r s' hq => ?_)
  cases r with
  | error e => exact hq.elim
  | ok fl =>
    cases fl with
    | ret u => exact I.after hq
    | next => exact False.elim hq
    | brk => exact False.elim hq
    | cont => exact False.elim hq
theorem pe_callQ (F : FnQ X.prog X.w X.K X.mg X.base k f fd ps sp) (hr : Room k X.A) (hfl : ∃ vs, oe.data = .fields vs) (hg : Gl X x) (hm : X.mg x = some (.ref f)) (hk : PySem.W.keepIn X.K (.ref f) = true) (hb : Binds X.K fd ps [])
    (ha : PA (X.suite a ((a, oe) :: pn)) (e :: es) t) (hdb : (x == ("__debug__" : Str)) = false := by decide) (he : starEach (e :: es) X.env = (false, eval e X.env) :: starEach es X.env := by rfl) (hpl : (backTo pos (starEach es X.env)).any (·.1) = false := by rfl) :
    PE (X.suite a ((a, oe) :: pn)) (.Call (.Name x q) (e :: es) [] pos) (tCallQ sp t) := by
  refine ⟨fun pins s σ H Q I h => ?_⟩
  refine wpAny_Call_Name_kw (ld_glob (X := X.suite a ((a, oe) :: pn)) I hg hm ?_ hdb)
  refine PySem.W.callWith_K (h₀ := X.base) I.ok.mod.kin hk (thn (ha.run pos pins s σ H _ I h) fun us s1 ⟨vs, H1, I1, r, q⟩ => ⟨I1.kIn, ?_⟩) he hpl
  exact run_fnQ (X := X) (a := a) (oe := oe) (pn := pn) F hr hfl hb I1 r q
end
end Xr
set_option Elab.async false
set_option linter.all false
set_option maxRecDepth 100000
set_option maxHeartbeats 4000000
/-! R16: except clauses one after another, each by a test (a class, a pair of classes), with or without a name. -/
namespace Xr
open PySem PySem.Spec PyProof.Rows L2 ClX StX
/-- the exception at a has landed in X, over the state sI -/
structure Fly (X : Cx) (pins : List (Addr × Obj)) (a : Addr) (B : Heap) (sI s : Shared) (σ : L2.St) (H : Hp) (cls : Value) (d : Option Addr) : Prop where
  J : Inv X pins σ H sI
  nb : ∀ b o, sI.heap.get? b = some o → b ∉ frs X.stack → B.get? b = some o
  up : sI.heap.UpToSlots s.heap
  fl : HandSPX.FlyingZ B (X.env :: X.outer) a (Zc cls d) s.heap
  na : H a = none
  os : s.os = sI.os
  ag : AllBare s.gens
section
variable {X : Cx} {pins : List (Addr × Obj)} {a : Addr} {B : Heap} {sI s : Shared} {σ : L2.St} {H : Hp} {cls : Value} {d : Option Addr}
theorem Fly.inv (F : Fly X pins a B sI s σ H cls d) : Inv X pins σ H s := F.J.landed F.nb F.fl.1 F.up F.os F.ag
theorem Fly.keeps {h' : Heap} {t : Nat} (F : Fly X pins a B sI s σ H cls d) (k : ∀ b o, s.heap.get? b = some o → h'.get? b = some o) : Fly X pins a B sI { s with heap := h', toks := t } σ H cls d := by
  obtain ⟨k1, k2, k3, oe, vs, T, oT, ts, e1, e2, e3, e4, e5, e6, e7, e8, e9⟩ := F.fl
  exact ⟨F.J, F.nb, F.up.trans (Heap.UpToSlots.of_keeps k), ⟨fun b o e => k b o (k1 b o e), k2, Heap.FunFrames.of_keeps (fun b x e _ => ⟨x, k b x e, rfl⟩) k3, oe, vs, T, oT, ts, k _ _ e1, e2, e3, e4, e5, e6, k _ _ e7, e8, e9⟩, F.na, F.os, F.ag⟩
theorem Fly.suite (hf : X.env.frame = some X.env.locals) (F : Fly X pins a B sI s σ H cls d) : ∃ oe vs, s.heap.get? a = some oe ∧ Zc cls d oe ∧ oe.data = .fields vs ∧ Inv (X.suite a ((a, oe) :: (X.pn ++ pins))) [] σ H s := by
  obtain ⟨oe, vs, he, hz, hd⟩ := F.fl.there
  have nfr : a ∉ frs (X.env :: X.outer) := fun hm => by
    obtain ⟨_, o', e', hnf⟩ := F.fl.2.2.1.mem hm
    rw [he] at e'
    cases e'
    exact hnf _ hd
  refine ⟨oe, vs, he, hz, hd, F.inv.suite he hd F.na (fun z => nfr (List.mem_filterMap.mpr ⟨X.env, List.mem_cons_self, by rw [hf, z]⟩)) fun hm => ?_⟩
  obtain ⟨e, he, q⟩ := List.mem_filterMap.mp hm
  exact nfr (List.mem_filterMap.mpr ⟨e, List.mem_cons_of_mem _ he, q⟩)
end
/-- what the clauses do with it -/
structure Catch (X : Cx) (hds : List ExceptHandler) (w : Ends → WX) : Prop where
  run : ∀ (pins : List (Addr × Obj)) (a : Addr) (B : Heap) (sI s : Shared) (σ : L2.St) (H : Hp) (cls : Value) (d : Option Addr) (D : Ends), Fly X pins a B sI s σ H cls d → w D cls d σ H → wpAny (model X.prog X.w) X.A (handleBy (.ref a) X.env hds) (SP X pins D) X.xe s
/-- a clause's test -/
structure Test (X : Cx) (t : Expr) (m : Value → Option Bool) : Prop where
  run : ∀ (pins : List (Addr × Obj)) (a : Addr) (B : Heap) (sI s : Shared) (σ : L2.St) (H : Hp) (cls : Value) (d : Option Addr) (b : Bool) (R : Bool → Shared → Prop) (E1 E2 : Value → Shared → Prop), Fly X pins a B sI s σ H cls d → m cls = some b → (∀ s', Fly X pins a B sI s' σ H cls d → R b s') →
    wpAny (model X.prog X.w) (X.A.mark (some (.ref a))) (eval t X.env) (fun c s₁ => wpAny (model X.prog X.w) (X.A.mark (some (.ref a))) (excMatches (.ref a) c) R E1 s₁) E2 s
section
variable {X : Cx} {hds : List ExceptHandler} {w : Ends → WX}
theorem ps_try_c {body : List Stmt} {h₀ : ExceptHandler} {pos : Pos} {tb : WX → TS} (hs : X.stack = X.env :: X.outer) (hf : X.env.frame = some X.env.locals)
    (hb : ∀ (W : WX) (pn : List (Addr × Obj)) (xe : Value → Shared → Prop), Takes (X.tr pn xe) W → PassesOwn (model X.prog X.w) X.A X.env xe → PSs (X.tr pn xe) body (tb W)) (hc : Catch X (h₀ :: hds) w) :
    PS X (.Try body (h₀ :: hds) [] [] pos) (fun D σ H => tb (w D) D σ H) := by
  refine ⟨fun pins s σ H D I h => ?_⟩
  have ok := I.ok
  have hfr : X.A.frames = some (X.env :: X.outer) := by rw [ok.frames, hs]
  refine wpAny_Try_except ?_
  refine wpAny_mono ((hb (w D) (X.pn ++ pins) (fun e s₁ => wpAny (model X.prog X.w) X.A (noteFrame e X.env) (fun _ s₂ => wpAny (model X.prog X.w) X.A (setFlight e none) (fun _ s₃ =>
    wpAny (model X.prog X.w) X.A (handleBy e X.env (h₀ :: hds)) (SP X pins D) X.xe s₃) X.xe s₂) X.xe s₁) (fun u s' xx => ?_) PassesOwn.looking).run [] s σ H D (I.toTry _) h) (fun f s1 hsp => ?_) (fun e s1 he => he)
  · obtain ⟨a, B, sI, pins', σ', H', cls, d, rfl, J', nb, up, sky, na, os, ag, wi⟩ := xx
    have sky' : Sky B (X.env :: X.outer) a (Zc cls d) X.env.locals s'.heap := by rw [← hs]; exact sky
    show wpAny (model X.prog X.w) X.A (noteFrame (.ref a) X.env) _ _ _
    exact Sky.land Zc.steady hfr hf sky' fun h3 fl3 up3 => hc.run pins a B sI { s' with heap := h3 } σ' H' cls d D ⟨J'.ofTry ok, nb, up.trans up3, fl3, na, os, ag⟩ wi
  · cases f with
    | next =>
      obtain ⟨σ', H', J', q⟩ := hsp
      exact wpAny_execs_nil ⟨σ', H', J'.ofTry ok, q⟩
    | brk =>
      obtain ⟨σ', H', J', q⟩ := hsp
      exact ⟨σ', H', J'.ofTry ok, q⟩
    | cont =>
      obtain ⟨σ', H', J', q⟩ := hsp
      exact ⟨σ', H', J'.ofTry ok, q⟩
    | ret u =>
      obtain ⟨v, σ', H', J', r, q⟩ := hsp
      exact ⟨v, σ', H', J'.ofTry ok, r, q⟩
/-- no clause is left: the exception flies on -/
theorem catch_nil {Wout : WX} (hs : X.stack = X.env :: X.outer) (hf : X.env.frame = some X.env.locals) (tk : Takes X Wout) : Catch X [] (fun _ => Wout) := by
  refine ⟨fun pins a B sI s σ H cls d D F wi => wpAny_handleBy_nil ?_⟩
  obtain ⟨k1, k2, k3, oe, vs, T, oT, ts', he, hz, hd, h1, hr⟩ := id F.fl
  unfold PySem.passOn
  refine wpAny_bind (wpAny_field he hd h1 ?_)
  rw [if_neg (show ¬ ((Value.ref T == Value.none) = true) from by simp)]
  have fin : wpAny (model X.prog X.w) X.A (setFlight (.ref a) X.env.frame) (fun _ s4 => wpAny (model X.prog X.w) X.A (throw (.ref a) : Sem Flow) (SP X pins D) X.xe s4) X.xe s := by
    rw [hf]
    refine HandSPX.setFlight_upZ F.fl fun h4 hh4 up4 => wpAny_throw (tk _ _ ?_)
    exact ⟨a, B, sI, pins, σ, H, cls, d, rfl, F.J, F.nb, F.up.trans up4, .inr (.inr (by rw [hs]; exact hh4)), F.na, F.os, F.ag, wi⟩
  first
    | exact wpAny_bind (wpAny_pure (wpAny_bind fin))
    | exact wpAny_bind fin
/-- a class's name -/
theorem name_ok {x : Str} {c : Value} {np : Pos} {a : Addr} {pn : List (Addr × Obj)} {pins : List (Addr × Obj)} {σ : L2.St} {H : Hp} {s : Shared} {Q : Value → Shared → Prop} {E : Value → Shared → Prop} (hc : Names X x c) (S : Inv (X.suite a pn) pins σ H s) (q : Q c s) :
    wpAny (model X.prog X.w) (X.A.mark (some (.ref a))) (eval (.Name x np) X.env) Q E s := by
  obtain ⟨hg, hdbg, hm | ⟨hm, hv, hnn⟩⟩ := hc
  · exact ld_glob (X := X.suite a pn) S hg hm q hdbg
  · exact ld_blt (X := X.suite a pn) S hg hm hv q hnn hdbg
theorem test_one {x : Str} {c : Value} {np : Pos} (hf : X.env.frame = some X.env.locals) (hc : Names X x c) : Test X (.Name x np) (fun cls => PySem.W.exmOne X.K cls c) := by
  refine ⟨fun pins a B sI s σ H cls d b R E1 E2 F hm q => ?_⟩
  obtain ⟨oe, vs, he, hz, hd, S⟩ := F.suite hf
  have LT : PySem.W.Looks (model X.prog X.w) s.heap (typeOf (.ref a)) cls := fun A Q E s k q => wpAny_typeOf_ref (k _ _ he) (by rw [hz.1]; exact q)
  exact name_ok hc S ((PySem.W.exm_one (M := model X.prog X.w) F.inv.kIn LT hm).here (q s F))
/-- (x, y), two classes -/
theorem test_two {x y : Str} {c c2 : Value} {np np2 pos : Pos} {kk : Nat} (hf : X.env.frame = some X.env.locals) (hc : Names X x c) (hc2 : Names X y c2)
    (hst : starEach [Expr.Name x np, .Name y np2] X.env = [(false, eval (.Name x np) X.env), (false, eval (.Name y np2) X.env)] := by rfl) : Test X (.Tuple [.Name x np, .Name y np2] kk pos) (fun cls => PySem.W.exmAny X.K cls [c, c2]) := by
  refine ⟨fun pins a B sI s σ H cls d b R E1 E2 F hm q => ?_⟩
  obtain ⟨oe, vs, he, hz, hd, S⟩ := F.suite hf
  refine wpAny_Tuple_spliced ?_
  rw [hst]
  show wpAny _ _ (spliced [(false, eval (.Name x np) X.env), (false, eval (.Name y np2) X.env)]) _ _ _
  refine Calls.spliced_cons (name_ok hc S (Calls.spliced_cons (name_ok hc2 S (Calls.spliced_nil ?_))))
  refine ⟨(by decide : 2 ≤ sizeLine), ?_⟩
  have k : ∀ b o, s.heap.get? b = some o → (s.heap.push { cls := .type "tuple", data := .seq #[c, c2] }).get? b = some o := fun b o e => Heap.get?_push_of_some _ e
  have F2 : Fly X pins a B sI { s with heap := s.heap.push { cls := .type "tuple", data := .seq #[c, c2] } } σ H cls d := F.keeps (t := s.toks) k
  obtain ⟨oe2, vs2, he2, hz2, _⟩ := F2.fl.there
  have LT : PySem.W.Looks (model X.prog X.w) (s.heap.push { cls := .type "tuple", data := .seq #[c, c2] }) (typeOf (.ref a)) cls := fun A Q E s k q => wpAny_typeOf_ref (k _ _ he2) (by rw [hz2.1]; exact q)
  exact (PySem.W.exm_tup2 (M := model X.prog X.w) F2.inv.kIn LT (Heap.get?_push_size _ rfl) hm).here (q _ F2)
/-- what a clause without a name wishes -/
def wCl (m : Value → Option Bool) (ts : Addr → Value → Option Addr → TS) (w : Ends → WX) : Ends → WX := fun D cls d σ H => ∃ b, m cls = some b ∧ (b = true → ∀ a, H a = none → ts a cls d D σ H) ∧ (b = false → w D cls d σ H)
/-- .. with a name: slot i is its -/
def wClAs (m : Value → Option Bool) (i : Nat) (ts : Addr → Value → Option Addr → TS) (w : Ends → WX) : Ends → WX := fun D cls d σ H => ∃ b, m cls = some b ∧
  (b = true → ∀ a, H a = none → ts a cls d { nx := fun σ' H' => D.nx (σ'.set i none) H', rt := D.rt, bk := fun σ' H' => D.bk (σ'.set i none) H', ct := fun σ' H' => D.ct (σ'.set i none) H' } (σ.set i (some (.ref a))) H) ∧ (b = false → w D cls d σ H)
theorem catch_cl {t : Expr} {m : Value → Option Bool} {ts : Addr → Value → Option Addr → TS} {b₀ : Stmt} {suite : List Stmt} {pos' : Pos} (hf : X.env.frame = some X.env.locals) (T : Test X t m)
    (hsu : ∀ (a : Addr) (oe : Obj) (cls : Value) (d : Option Addr) (pn : List (Addr × Obj)), Zc cls d oe → (∃ vs, oe.data = .fields vs) → PSs (X.suite a ((a, oe) :: pn)) (b₀ :: suite) (ts a cls d)) (R : Catch X hds w) :
    Catch X (.ExceptHandler (some t) none (b₀ :: suite) pos' :: hds) (wCl m ts w) := by
  refine ⟨fun pins a B sI s σ H cls d D F ⟨b, hm, hyes, hno⟩ => ?_⟩
  refine wpAny_handleBy_cons (codeAny_handlers_test (T.run pins a B sI s σ H cls d b _ _ _ F hm fun s2 F2 => ?_)) (by intro q; cases q)
  cases b with
  | false => exact R.run pins a B sI s2 σ H cls d D F2 (hno rfl)
  | true =>
    have ok := F.J.ok
    refine codeAny_handlers_suite ?_
    refine HandSPX.lands_againZ F2.fl fun h4 fl4 up4 => ?_
    have F4 : Fly X pins a B sI { s2 with heap := h4 } σ H cls d := ⟨F2.J, F2.nb, F2.up.trans up4, fl4, F2.na, F2.os, F2.ag⟩
    obtain ⟨oe4, vs4, he4, hz4, hd4, S4⟩ := F4.suite hf
    refine wpAny_mono ((hsu a oe4 cls d (X.pn ++ pins) hz4 ⟨_, hd4⟩).run [] _ _ H _ S4 (hyes rfl a F.na)) (fun f s6 hsp => ?_) (fun _ _ z => False.elim z)
    cases f with
    | next =>
      obtain ⟨σ6, H6, S6, q6⟩ := hsp
      exact ⟨_, _, S6.unsuite ok, q6⟩
    | brk =>
      obtain ⟨σ6, H6, S6, q6⟩ := hsp
      exact ⟨_, _, S6.unsuite ok, q6⟩
    | cont =>
      obtain ⟨σ6, H6, S6, q6⟩ := hsp
      exact ⟨_, _, S6.unsuite ok, q6⟩
    | ret u =>
      obtain ⟨v6, σ6, H6, S6, r6, q6⟩ := hsp
      exact ⟨_, _, _, S6.unsuite ok, r6, q6⟩
theorem catch_as {t : Expr} {m : Value → Option Bool} {i : Nat} {n : Str} {ts : Addr → Value → Option Addr → TS} {b₀ : Stmt} {suite : List Stmt} {pos' : Pos} (hf : X.env.frame = some X.env.locals) (hN : X.N.Nodup) (hi : X.N[i]? = some n) (hln : X.env.kindOf n = some .local) (T : Test X t m)
    (hsu : ∀ (a : Addr) (oe : Obj) (cls : Value) (d : Option Addr) (pn : List (Addr × Obj)), Zc cls d oe → (∃ vs, oe.data = .fields vs) → PSs (X.suite a ((a, oe) :: pn)) (b₀ :: suite) (ts a cls d)) (R : Catch X hds w) :
    Catch X (.ExceptHandler (some t) (some n) (b₀ :: suite) pos' :: hds) (wClAs m i ts w) := by
  refine ⟨fun pins a B sI s σ H cls d D F ⟨b, hm, hyes, hno⟩ => ?_⟩
  refine wpAny_handleBy_cons (codeAny_handlers_test (T.run pins a B sI s σ H cls d b _ _ _ F hm fun s2 F2 => ?_)) (by intro q; cases q)
  cases b with
  | false => exact R.run pins a B sI s2 σ H cls d D F2 (hno rfl)
  | true =>
    have ok := F.J.ok
    refine codeAny_handlers_suite_as ?_
    refine HandSPX.lands_againZ F2.fl fun h4 fl4 up4 => ?_
    have F4 : Fly X pins a B sI { s2 with heap := h4 } σ H cls d := ⟨F2.J, F2.nb, F2.up.trans up4, fl4, F2.na, F2.os, F2.ag⟩
    obtain ⟨oe4, vs4, he4, hz4, hd4, S4⟩ := F4.suite hf
    refine store_ok (X := X.suite a ((a, oe4) :: (X.pn ++ pins))) (v := .ref a) S4 hN hi (.inl hln) rfl (fun s5 S5 => ?_) (.inr hln)
    refine wpAny_mono ((hsu a oe4 cls d (X.pn ++ pins) hz4 ⟨_, hd4⟩).run [] s5 _ H _ S5 (hyes rfl a F.na)) (fun f s6 hsp => ?_) (fun _ _ z => False.elim z)
    have end_ : ∀ {σ6 : L2.St} {H6 : Hp} {Q : Shared → Prop}, Inv (X.suite a ((a, oe4) :: (X.pn ++ pins))) [] σ6 H6 s6 → (∀ s7, Inv X pins (σ6.set i none) H6 s7 → Q s7) →
        wpAny (model X.prog X.w) X.A (do bindName X.env n .none; unbindBehindTheSuite X.env n pos') (fun _ s7 => Q s7) X.xe s6 := fun {σ6 H6 Q} S6 hq => gone_ok (S6.unsuite ok) hN hi hln hq
    cases f with
    | next =>
      obtain ⟨σ6, H6, S6, q6⟩ := hsp
      exact end_ S6 fun s7 J7 => ⟨_, _, J7, q6⟩
    | brk =>
      obtain ⟨σ6, H6, S6, q6⟩ := hsp
      exact end_ S6 fun s7 J7 => ⟨_, _, J7, q6⟩
    | cont =>
      obtain ⟨σ6, H6, S6, q6⟩ := hsp
      exact end_ S6 fun s7 J7 => ⟨_, _, J7, q6⟩
    | ret u =>
      obtain ⟨v6, σ6, H6, S6, r6, q6⟩ := hsp
      exact end_ S6 fun s7 J7 => ⟨_, _, _, J7, r6, q6⟩
end
end Xr
set_option Elab.async false
set_option linter.all false
set_option maxRecDepth 100000
set_option maxHeartbeats 4000000
/-! R17: min(xs) of a list of tuples (number, text). -/
namespace Xr
open PySem PySem.Spec PyProof.Rows L2 ClX StX
/-- the comparison, while the walk is on -/
def CmpIn (prog : Program) (w : World) (A : Around) (P : Nat → Value → Prop) (bt : Nat → Nat → Bool) (St : Nat → Heap → Prop) : Prop :=
  ∀ i j k vi vj (s : Shared) (Q : Value → Shared → Prop) (E : Value → Shared → Prop), St k s.heap → P i vi → P j vj → Q (.bool (bt i j)) s → wpAny (model prog w) A (richCompare .Lt vi vj) Q E s
section
variable {prog : Program} {w : World} {A : Around} {R : Result → Shared → Prop} {I : Addr} {fp wr : List Addr} {n : Nat} {P : Nat → Value → Prop} {St : Nat → Heap → Prop} {bt : Nat → Nat → Bool} {S : Addr}
theorem minOn (W : Walks prog w A.in1 I fp wr n P St) (cmp : CmpIn prog w A.in1 P bt St) (hSf : S ∉ fp) : ∀ (k j : Nat) (s : Shared) (vb : Value) (c : Nat), n = j + 1 + k → St (j + 1) s.heap → P (argBest bt j) vb →
    s.heap.get? S = some { cls := .type "list", dict := none, data := .seq #[vb, vb] c, slots := #[] } →
    (∀ v h' tk, P (argBest bt (n - 1)) v → (∀ b o, b ∉ wr → b ≠ S → s.heap.get? b = some o → h'.get? b = some o) → R (.ok (.ret v)) { s with heap := h', toks := tk }) →
    codeAny (model prog w) A (.builtin "min.loop" ⟨[.ref I, .none, .ref S], []⟩) R s := by
  have hSw : S ∉ wr := fun h => hSf (W.sub _ h)
  have nm : (toString "min" ++ toString ".loop" : String) = "min.loop" := by decide
  intro k
  induction k with
  | zero =>
    intro j s vb c e st pb g hR
    have e1 : n = j + 1 := e
    refine codeAny_builtin F.entry_min_loop ?_
    rw [Around.under_plainId F.plain_min_loop _]
    show wpAny _ A.in1 (seqItems? (.ref S) >>= _) _ _ s
    refine wpAny_bind (wpAny_seqItems g rfl ?_)
    show wpAny _ A.in1 (tryCatch (pyNext (.ref I)) _ >>= _) _ _ s
    refine wpAny_bind (wpAny_tryCatch (W.done s _ _ (e1 ▸ st) fun h' tk kp => ?_))
    have g' := kp S _ hSw g
    show wpAny _ A.in1 (updateSeq S (fun _ => #[]) >>= _) _ _ _
    refine wpAny_bind (wpAny_updateSeq g' rfl (wpAny_bind (wpAny_letGo (wpAny_pure ?_))))
    refine hR vb _ tk ?_ fun b o b1 b2 e => (Heap.get?_update_other _ _ (Ne.symm b2)).trans (kp b o b1 e)
    rw [e1]
    exact pb
  | succ k ih =>
    intro j s vb c e st pb g hR
    refine codeAny_builtin F.entry_min_loop ?_
    rw [Around.under_plainId F.plain_min_loop _]
    show wpAny _ A.in1 (seqItems? (.ref S) >>= _) _ _ s
    refine wpAny_bind (wpAny_seqItems g rfl ?_)
    show wpAny _ A.in1 (tryCatch (pyNext (.ref I)) _ >>= _) _ _ s
    refine wpAny_bind (wpAny_tryCatch (W.item (j + 1) s _ _ (by omega) st fun v h' tk pv st' kp => ?_))
    have g' := kp S _ hSw g
    show wpAny _ A.in1 (tryCatch (holding [v, v] (richCompare .Lt v vb >>= _)) _ >>= _) _ _ _
    refine wpAny_bind (wpAny_tryCatch (wpAny_holding (wpAny_bind (cmp (j + 1) (argBest bt j) _ v vb _ _ _ st' pv pb ?_))))
    refine wpAny_bind (wpAny_holding (wpAny_truthy_bool (wpAny_bind (wpAny_letGo (wpAny_pure ?_)))))
    cases hb : bt (j + 1) (argBest bt j) with
    | true =>
      simp only [if_true]
      refine wpAny_bind (wpAny_updateSeq g' rfl (wpAny_bind (wpAny_letGo ?_)))
      rw [nm]
      refine wpAny_pure ⟨plainId_quiet F.plain_min_loop _, ih (j + 1) _ v _ (by omega) (W.frame _ _ _ st' fun b hbf o e => (Heap.get?_update_other _ _ (fun h : S = b => hSf (by rw [h]; exact hbf))).trans e) (by simp only [argBest, hb, if_true]; exact pv) (Heap.get?_update_self _ g' rfl) fun v' h2 tk2 pv' kp2 => ?_⟩
      exact hR v' h2 tk2 pv' fun b o b1 b2 e => kp2 b o b1 b2 ((Heap.get?_update_other _ _ (Ne.symm b2)).trans (kp b o b1 e))
    | false =>
      simp only [Bool.false_eq_true, if_false]
      refine wpAny_bind (wpAny_letGo ?_)
      rw [nm]
      refine wpAny_pure ⟨plainId_quiet F.plain_min_loop _, ih (j + 1) _ vb c (by omega) st' (by simp only [argBest, hb, Bool.false_eq_true, if_false]; exact pb) g' fun v' h2 tk2 pv' kp2 => ?_⟩
      exact hR v' h2 tk2 pv' fun b o b1 b2 e => kp2 b o b1 b2 (kp b o b1 e)
theorem minFrom (W : Walks prog w A.in1 I fp wr n P St) (cmp : CmpIn prog w A.in1 P bt St) (hSf : S ∉ fp) (hn : 0 < n) {s : Shared} {c : Nat} (st : St 0 s.heap) (g : s.heap.get? S = some { cls := .type "list", dict := none, data := .seq #[] c, slots := #[] })
    (hR : ∀ v h' tk, P (argBest bt (n - 1)) v → (∀ b o, b ∉ wr → b ≠ S → s.heap.get? b = some o → h'.get? b = some o) → R (.ok (.ret v)) { s with heap := h', toks := tk }) :
    codeAny (model prog w) A (.builtin "min.loop" ⟨[.ref I, .none, .ref S], []⟩) R s := by
  have hSw : S ∉ wr := fun h => hSf (W.sub _ h)
  have nm : (toString "min" ++ toString ".loop" : String) = "min.loop" := by decide
  refine codeAny_builtin F.entry_min_loop ?_
  rw [Around.under_plainId F.plain_min_loop _]
  show wpAny _ A.in1 (seqItems? (.ref S) >>= _) _ _ s
  refine wpAny_bind (wpAny_seqItems g rfl ?_)
  show wpAny _ A.in1 (tryCatch (pyNext (.ref I)) _ >>= _) _ _ s
  refine wpAny_bind (wpAny_tryCatch (W.item 0 s _ _ hn st fun v h' tk pv st' kp => ?_))
  have g' := kp S _ hSw g
  show wpAny _ A.in1 (updateSeq S (fun _ => #[v, v]) >>= _) _ _ _
  refine wpAny_bind (wpAny_updateSeq g' rfl ?_)
  rw [nm]
  refine wpAny_pure ⟨plainId_quiet F.plain_min_loop _, minOn W cmp hSf (n - 1) 0 _ v _ (by omega) (W.frame _ _ _ st' fun b hbf o e => (Heap.get?_update_other _ _ (fun h : S = b => hSf (by rw [h]; exact hbf))).trans e) pv (Heap.get?_update_self _ g' rfl) fun v' h2 tk2 pv' kp2 => ?_⟩
  exact hR v' h2 tk2 pv' fun b o b1 b2 e => kp2 b o b1 b2 ((Heap.get?_update_other _ _ (Ne.symm b2)).trans (kp b o b1 e))
end
section
variable {prog : Program} {w : World} {A : Around} {E : Value → Shared → Prop} {s : Shared}
theorem call_minIn {x : Value} {Q : Value → Shared → Prop}
    (h : wpAny (model prog w) A.in1 (pyIter x) (fun it s₂ => ∃ I fp wr n P St bt, it = .ref I ∧ Walks prog w A.in1 I fp wr n P St ∧ St 0 s₂.heap ∧ (∀ b ∈ fp, b < s₂.heap.objs.size) ∧ 0 < n ∧ CmpIn prog w A.in1 P bt St ∧
      ∀ v h' tk, P (argBest bt (n - 1)) v → (∀ b o, b ∉ wr → s₂.heap.get? b = some o → h'.get? b = some o) → Q v { s₂ with heap := h', toks := tk }) E s) :
    wpAny (model prog w) A (call (.builtin "min") [x]) Q E s := by
  have nm : (toString "min" ++ toString ".loop" : String) = "min.loop" := by decide
  refine call_function_tree F.kind_min F.plain_min F.entry_min (F.args_min1 _) ?_
  show wpAny _ A.in1 (Builtin.Builtins.bindParams "min" ["key", "default"] 0 ⟨[], []⟩ >>= _) _ _ s
  refine wpAny_bind (wpAny_of_eq (show Builtin.Builtins.bindParams "min" ["key", "default"] 0 ⟨[], []⟩ = pure [none, none] from rfl) (wpAny_bind (wpAny_pure ?_)))
  refine wpAny_bind (wpAny_mono h (fun it s₂ ⟨I, fp, wr, n, P, S0, bt, eI, W, st, lt, hn, cmp, q⟩ => ?_) fun _ _ e => e)
  subst eI
  refine wpAny_bind (wpAny_newObj_type ?_)
  have hSf : s₂.heap.objs.size ∉ fp := fun hm => Nat.lt_irrefl _ (lt _ hm)
  rw [nm]
  refine wpAny_pure ⟨plainId_quiet F.plain_min_loop _, minFrom W cmp hSf hn (W.frame _ _ _ st fun b _ o e => Heap.get?_push_of_some _ e) (Heap.get?_push_size _ rfl) fun v h' tk pv kp => ?_⟩
  exact q v h' tk pv fun b o b1 e => kp b o b1 (Nat.ne_of_lt (Heap.lt_size e)) (Heap.get?_push_of_some _ e)
end
theorem argBest_key {key : Nat → Int} {bt : Nat → Nat → Bool} (h1 : ∀ i j, bt i j = true → key i ≤ key j) (h2 : ∀ i j, bt i j = false → key j ≤ key i) : ∀ k, argBest bt k ≤ k ∧ ∀ j, j ≤ k → key (argBest bt k) ≤ key j
  | 0 => ⟨Nat.le_refl _, fun j hj => by rw [Nat.le_zero.mp hj]; exact Int.le_refl _⟩
  | k + 1 => by
    obtain ⟨a1, a2⟩ := argBest_key h1 h2 k
    cases hb : bt (k + 1) (argBest bt k) with
    | true =>
      have e : argBest bt (k + 1) = k + 1 := by simp only [argBest, hb, if_true]
      rw [e]
      refine ⟨Nat.le_refl _, fun j hj => ?_⟩
      by_cases hjk : j = k + 1
      · rw [hjk]; exact Int.le_refl _
      · exact Int.le_trans (h1 _ _ hb) (a2 j (by omega))
    | false =>
      have e : argBest bt (k + 1) = argBest bt k := by simp only [argBest, hb, Bool.false_eq_true, if_false]
      rw [e]
      refine ⟨by omega, fun j hj => ?_⟩
      by_cases hjk : j = k + 1
      · rw [hjk]; exact h2 _ _ hb
      · exact a2 j (by omega)
/-- min(xs), xs a list of pairs (number, text): one whose number is least -/
def rMinT (K : PySem.W.Frag) : List V → Hp → VK → Prop := fun vs H Q => ∃ (a : Addr) (ps : List Addr) (ks : List (Int × Str)), vs = [V.ref a] ∧ SqL K H a (ps.map V.ref) ∧ 0 < ps.length ∧ ps.length = ks.length ∧
  (∀ (j : Nat) (p : Addr) (k : Int × Str), ps[j]? = some p → ks[j]? = some k → SqT K H p [.int k.1, .str k.2]) ∧ ∀ (m : Nat) (p : Addr) (k : Int × Str), ps[m]? = some p → ks[m]? = some k → (∀ k' ∈ ks, k.1 ≤ k'.1) → Q (.ref p) H
def tupBt (ks : List (Int × Str)) (i j : Nat) : Bool := Ob.lexAt (fun x => if x = 0 then (ks.getD i (0, "")).1 == (ks.getD j (0, "")).1 else (ks.getD i (0, "")).2 == (ks.getD j (0, "")).2)
  (fun x => if x = 0 then decide ((ks.getD i (0, "")).1 < (ks.getD j (0, "")).1) else decide ((ks.getD i (0, "")).2.cps.toList < (ks.getD j (0, "")).2.cps.toList)) false 0 2
theorem tupBt_1 {ks : List (Int × Str)} {i j : Nat} (h : tupBt ks i j = true) : (ks.getD i (0, "")).1 ≤ (ks.getD j (0, "")).1 := by
  unfold tupBt at h
  rw [Ob.lexAt_succ] at h
  by_cases e : (ks.getD i (0, "")).1 = (ks.getD j (0, "")).1
  · exact Int.le_of_eq e
  · have e' : ((ks.getD i (0, "")).1 == (ks.getD j (0, "")).1) = false := beq_eq_false_iff_ne.mpr e
    simp only [if_true, e', Bool.false_eq_true, if_false] at h
    exact Int.le_of_lt (of_decide_eq_true h)
theorem tupBt_2 {ks : List (Int × Str)} {i j : Nat} (h : tupBt ks i j = false) : (ks.getD j (0, "")).1 ≤ (ks.getD i (0, "")).1 := by
  unfold tupBt at h
  rw [Ob.lexAt_succ] at h
  by_cases e : (ks.getD i (0, "")).1 = (ks.getD j (0, "")).1
  · exact Int.le_of_eq e.symm
  · have e' : ((ks.getD i (0, "")).1 == (ks.getD j (0, "")).1) = false := beq_eq_false_iff_ne.mpr e
    simp only [if_true, e', Bool.false_eq_true, if_false] at h
    have := of_decide_eq_false h
    omega
theorem cr_minT {X : Cx} (hc : X.calm = true) (hu : X.A.units + 64 < cLine) : CallR X (.builtin "min") (rMinT X.K) := by
  intro pins s σ H vs us Q I r h
  obtain ⟨a, ps, ks, rfl, hs, h0, hl, ht, q⟩ := h
  obtain ⟨its, rv, pl, _⟩ := I.list hs
  have ei := refs_at rv
  subst ei
  rw [Vals.ref1 r]
  have hL : s.heap.IsList a (ps.map Value.ref).toArray := pl.isList
  have tup : ∀ (j : Nat) (p : Addr) (k : Int × Str), ps[j]? = some p → ks[j]? = some k → ∃ t u, s.heap.IsTuple p #[.int k.1 t, .str k.2 u] := fun j p k hp hk => by
    obtain ⟨its, rv, pt, _⟩ := I.tuple (ht j p k hp hk)
    obtain ⟨x, y, rfl, ⟨t, rfl⟩, ⟨u, rfl⟩⟩ := vals2 rv
    exact ⟨t, u, pt⟩
  have hal : a < s.heap.objs.size := by obtain ⟨_, e, _⟩ := hL; exact Heap.lt_size e
  have hpl : ∀ (j : Nat) (p : Addr), ps[j]? = some p → p < s.heap.objs.size := fun j p hp => by
    have hj : j < ks.length := by rw [← hl]; exact (List.getElem?_eq_some_iff.mp hp).1
    obtain ⟨t, u, o, e, _⟩ := tup j p _ hp (List.getElem?_eq_getElem hj)
    exact Heap.lt_size e
  have hI : a ≠ s.heap.objs.size := Nat.ne_of_lt hal
  have W := Walks.list (prog := X.prog) (w := X.w) (A := X.A.in1) (I.ok.hd hc) s.heap.objs.size a hI (ps.map Value.ref).toArray
  have k0 : ∀ b o, s.heap.get? b = some o → (s.heap.push { cls := .type "list_iterator", data := .fields #[.ref a, .int 0 0] }).get? b = some o := fun b o e => Heap.get?_push_of_some _ e
  refine call_minIn (wpAny_pyIter_list hL ?_)
  refine ⟨s.heap.objs.size, [s.heap.objs.size, a] ++ ps, [s.heap.objs.size], ps.length, fun i v => (ps.map Value.ref).toArray[i]? = some v, fun i h => (h.IsListIter s.heap.objs.size a i ∧ h.IsList a (ps.map Value.ref).toArray) ∧ ∀ (j : Nat) (p : Addr) (k : Int × Str), ps[j]? = some p → ks[j]? = some k → ∃ t u, h.IsTuple p #[.int k.1 t, .str k.2 u], tupBt ks, rfl, ?_, ?_, ?_, h0, ?_, ?_⟩
  · have sz : (ps.map Value.ref).toArray.size = ps.length := by simp
    rw [sz] at W
    refine ⟨fun b hb => List.mem_append_left _ (W.sub b hb), fun i h h' st k => ⟨W.frame i h h' st.1 fun b hb => k b (List.mem_append_left _ hb), fun j p kk hp hk => ?_⟩, fun i s' Q' E' hi st hq => ?_, fun s' Q' E' st hq => W.done s' Q' E' st.1 hq, fun i s' Q' E' st hq => W.self i s' Q' E' st.1 hq⟩
    · obtain ⟨t, u, z⟩ := st.2 j p kk hp hk
      exact ⟨t, u, Heap.IsTuple.at (h := h) z fun o => k p (List.mem_append_right _ (List.mem_of_getElem? hp)) o⟩
    · refine W.item i s' Q' E' hi st.1 fun v h' tk pv st' kp => hq v h' tk pv ⟨st', fun j p kk hp hk => ?_⟩ kp
      obtain ⟨t, u, z⟩ := st.2 j p kk hp hk
      have hne : p ∉ [s.heap.objs.size] := fun hm => Nat.ne_of_lt (hpl j p hp) (List.mem_singleton.mp hm)
      exact ⟨t, u, Heap.IsTuple.at (h := s'.heap) z fun o => kp p o hne⟩
  · refine ⟨⟨⟨_, Heap.get?_push_size _ rfl, rfl, rfl⟩, hL.at fun o => k0 a o⟩, fun j p k hp hk => ?_⟩
    obtain ⟨t, u, z⟩ := tup j p k hp hk
    exact ⟨t, u, Heap.IsTuple.at (h := s.heap) z fun o => k0 p o⟩
  · intro b hb
    have szp : (s.heap.push { cls := .type "list_iterator", data := .fields #[.ref a, .int 0 0] }).objs.size = s.heap.objs.size + 1 := Heap.size_push ..
    show b < (s.heap.push { cls := .type "list_iterator", data := .fields #[.ref a, .int 0 0] }).objs.size
    rw [szp]
    rcases List.mem_append.mp hb with hb | hb
    · have hb' : b = s.heap.objs.size ∨ b = a := by simpa using hb
      rcases hb' with z | z
      · rw [z]; exact Nat.lt_succ_self _
      · rw [z]; exact Nat.lt_succ_of_lt hal
    · obtain ⟨j, hj⟩ := List.mem_iff_getElem?.mp hb
      exact Nat.lt_succ_of_lt (hpl j b hj)
  · intro i j k vi vj s' Q' E' st hi hj hq
    have at_ : ∀ (i : Nat) (v : Value), (ps.map Value.ref).toArray[i]? = some v → ∃ p, ps[i]? = some p ∧ v = .ref p ∧ ∃ t u, s'.heap.IsTuple p #[.int (ks.getD i (0, "")).1 t, .str (ks.getD i (0, "")).2 u] := fun i v e => by
      have e' : (ps[i]?).map Value.ref = some v := by simpa using e
      cases hp : ps[i]? with
      | none => rw [hp] at e'; cases e'
      | some p =>
        rw [hp] at e'
        have hk : i < ks.length := by rw [← hl]; exact (List.getElem?_eq_some_iff.mp hp).1
        obtain ⟨t, u, z⟩ := st.2 i p _ hp (List.getElem?_eq_getElem hk)
        refine ⟨p, rfl, (Option.some.inj e').symm, t, u, ?_⟩
        rw [List.getD_eq_getElem?_getD, List.getElem?_eq_getElem hk]
        exact z
    obtain ⟨p, _, rfl, t, u, z⟩ := at_ i vi hi
    obtain ⟨p2, _, rfl, t2, u2, z2⟩ := at_ j vj hj
    refine Ob.RcOp.tuples_lt (A := X.A.in1) (s := s') (e := fun x => if x = 0 then (ks.getD i (0, "")).1 == (ks.getD j (0, "")).1 else (ks.getD i (0, "")).2 == (ks.getD j (0, "")).2)
      (r := fun x => if x = 0 then decide ((ks.getD i (0, "")).1 < (ks.getD j (0, "")).1) else decide ((ks.getD i (0, "")).2.cps.toList < (ks.getD j (0, "")).2.cps.toList)) z z2 (show X.A.units + 1 < cLine by omega) (fun x h1 h2 => ?_) (fun x h1 h2 _ => ?_) X.prog X.w E' Q' hq
    · have hx : x = 0 ∨ x = 1 := by
        have : x < 2 := h1
        omega
      rcases hx with rfl | rfl
      · exact PySem.SeqAt.EqAt.int_int _ _ _ _
      · exact PySem.SeqAt.EqAt.str_str _ _ _ _
    · have hx : x = 0 ∨ x = 1 := by
        have : x < 2 := h1
        omega
      rcases hx with rfl | rfl
      · exact Ob.RcOp.lt_int _ _ _ _
      · exact fun _ _ _ _ h => PyProof.Rows.lt_str h
  · intro v h' tk hv kp
    obtain ⟨hm, hall⟩ := argBest_key (key := fun i => (ks.getD i (0, "")).1) (bt := tupBt ks) (fun i j => tupBt_1) (fun i j => tupBt_2) (ps.length - 1)
    have hmp : argBest (tupBt ks) (ps.length - 1) < ps.length := by omega
    generalize argBest (tupBt ks) (ps.length - 1) = m at *
    have hp : ps[m]? = some ps[m] := List.getElem?_eq_getElem hmp
    have hk : m < ks.length := by omega
    have ev : v = .ref ps[m] := by
      have : (ps[m]?).map Value.ref = some v := by simpa using hv
      rw [hp] at this
      exact (Option.some.inj this).symm
    subst ev
    refine ⟨.ref ps[m], H, I.kept (t' := tk) fun b o e => kp b o (fun hb => Nat.ne_of_lt (Heap.lt_size e) (List.mem_singleton.mp hb)) (k0 b o e), rfl, q m _ ks[m] hp (List.getElem?_eq_getElem hk) fun k' hk' => ?_⟩
    obtain ⟨j, hj⟩ := List.mem_iff_getElem?.mp hk'
    have hjl := (List.getElem?_eq_some_iff.mp hj).1
    have hh := hall j (by omega)
    simp only [List.getD_eq_getElem?_getD, List.getElem?_eq_getElem hk, hj, Option.getD_some] at hh
    exact hh
end Xr
set_option Elab.async false
set_option linter.all false
set_option maxRecDepth 100000
set_option maxHeartbeats 4000000
/-! R18: max of two ints, int of a truth, a list times an int, pop, a comprehension over range, a def with keyword-only defaults. -/
namespace Xs
open PySem PySem.Spec PyProof.Rows L2
def hMax2 : List V → Hp → VK → Prop := fun xs H Q => match xs with
  | [.int i, .int j] => Q (.int (if j > i then j else i)) H
  | _ => False
theorem hc_max2 {X : Cx} (hc : X.calm = true) : CallR X (.builtin "max") hMax2 := by
  intro pins s σ H xs us Q I rs h
  refine call_max2 hc pins s σ H xs us Q I rs ?_
  match xs, h with
  | [.int i, .int j], h => exact ⟨i, j, rfl, h⟩
theorem cc_max2 {X : Cx} (hc : X.calm = true) : CallR X (.builtin "max") hMax2 := hc_max2 hc
def hInt1 : List V → Hp → VK → Prop := fun xs H Q => match xs with
  | [.int i] => Q (.int i) H
  | [.bl k] => Q (.int (if k then 1 else 0)) H
  | _ => False
theorem hc_int1 {X : Cx} : CallR X (.type "int") hInt1 := by
  intro pins s σ H xs us Q I rs h
  refine call_int1 pins s σ H xs us Q I rs ?_
  match xs, h with
  | [.int i], h => exact .inl ⟨i, rfl, h⟩
  | [.bl k], h => exact .inr ⟨k, rfl, h⟩
/-- a product: of two ints; of a list and an int -/
def hMul : R2 := fun x y H Q => match x, y with
  | .int i, .int j => CMul i j ∧ Q (.int (i * j)) H
  | .ref l, .int k => (match H l with
    | some (.lst xs) => -(2 ^ 63) ≤ k ∧ k < 2 ^ 63 ∧ xs.length * k.toNat ≤ sizeLine ∧ ∀ p, H p = none → Q (.ref p) (upd H p (.lst (List.replicate k.toNat xs).flatten))
    | _ => False)
  | _, _ => False
theorem ho_mul {X : Cx} : OpR X (binaryOp .Mult) hMul := by
  intro pins s σ H x y v u Q I rx ry h
  unfold hMul at h
  split at h
  · exact op_mul pins s σ H _ _ v u Q I rx ry ⟨_, _, rfl, rfl, h.1, h.2⟩
  · split at h
    · obtain ⟨h1, h2, h3, h4⟩ := h
      exact op_rep pins s σ H _ _ v u Q I rx ry ⟨_, _, _, rfl, rfl, ‹_›, h1, h2, h3, h4⟩
    · exact h.elim
  · exact h.elim
theorem pop_at {H : Hp} {l : Addr} {xs : List V} {y : V} {Q : VK} (h : H l = some (.lst xs)) (hy : xs[xs.length - 1]? = some y) (q : Q y (upd H l (.lst xs.dropLast))) : rPop (.ref l) [] H Q := ⟨l, xs, y, rfl, rfl, h, hy, q⟩
theorem cat_ok {H : Hp} {p r : Addr} {xs ys : List V} {Q : VK} (hp : H p = some (.lst xs)) (hq : H r = some (.lst ys)) (hl : xs.length + ys.length ≤ sizeLine) (k : ∀ t, H t = none → Q (.ref t) (upd H t (.lst (xs ++ ys)))) : rCat (.ref p) (.ref r) H Q := ⟨_, _, _, _, rfl, rfl, hp, hq, hl, k⟩
/-- isinstance(x, list) -/
def hIsL : List V → Hp → VK → Prop := fun xs H Q => match xs with
  | [x, .ty n] => n = "list" ∧ (match x with
    | .str _ => Q (.bl false) H
    | .non => Q (.bl false) H
    | .bl _ => Q (.bl false) H
    | .int _ => Q (.bl false) H
    | .ref p => (match H p with
      | some (.lst _) => Q (.bl true) H
      | some (.tup _) => Q (.bl false) H
      | _ => False)
    | _ => False)
  | _ => False
theorem hc_isL {X : Cx} : CallR X (.builtin "isinstance") hIsL := by
  intro pins s σ H xs us Q I rs h
  refine call_isi pins s σ H xs us Q I rs ?_
  unfold hIsL at h
  split at h
  · rename_i x n
    obtain ⟨rfl, h⟩ := h
    split at h
    · exact ⟨_, _, _, _, false, rfl, .ty _, .base (.str _), rfl, h⟩
    · exact ⟨_, _, _, _, false, rfl, .ty _, .base .non, rfl, h⟩
    · exact ⟨_, _, _, _, false, rfl, .ty _, .base (.bl _), rfl, h⟩
    · exact ⟨_, _, _, _, false, rfl, .ty _, .base (.int _), rfl, h⟩
    · split at h
      · exact ⟨_, _, _, _, true, rfl, .ty _, .base (.lst ‹_›), rfl, h⟩
      · exact ⟨_, _, _, _, false, rfl, .ty _, .base (.tup ‹_›), rfl, h⟩
      · exact h.elim
    · exact h.elim
  · exact h.elim
theorem lcp_range {lo : Int} {n : Nat} {g : TG} {tt : TT} {te : TE} {vs : List Nat} {σ : L2.St} {H1 : Hp} {D : Addr} {Qd : Hp → Prop} (Pv : Nat → Hp → Prop) (h0 : Pv 0 (upd H1 D (.lst [])))
    (hs : ∀ i H, i < n → Pv i H → g (.int (lo + (i : Nat))) (wipe σ vs) H fun σ2 H2 => wipe σ2 vs = wipe σ vs ∧ tt σ2 H2 fun b H3 =>
      if b = true then te σ2 H3 fun y H4 => ∃ acc, H4 D = some (.lst acc) ∧ acc.length < sizeLine ∧ Pv (i + 1) (upd H4 D (.lst (acc ++ [y]))) else Pv (i + 1) H3) (hd : ∀ H, Pv n H → Qd H) : LcP (Itr lo n) g tt te vs σ H1 D Qd := by
  refine ⟨fun i m H => m = n - i ∧ i ≤ n ∧ Pv i H, ⟨n, by simp, Nat.zero_le _, h0⟩, ?_⟩
  rintro i m H ⟨rfl, hi, p⟩
  by_cases hlt : i < n
  · refine .inr ⟨hlt, Pv (i + 1), fun H' p' => ⟨n - (i + 1), by omega, rfl, hlt, p'⟩, fun v H' y => ?_⟩
    obtain ⟨e, e2⟩ := y
    subst e e2
    exact hs i _ hlt p
  · have e : i = n := by omega
    subst e
    exact .inl ⟨Nat.le_refl _, hd H p⟩
/-- the def at f keeps the promise sp; ds: the values of its keyword-only parameters ks, which a call may leave out all together or name all together -/
def OkK (P : Program) (w : World) (K : PySem.W.Frag) (mg : Str → Option Value) (base : Heap) (CX : CXT) (k : Nat) (f : Addr) (n : Nat) (ps ks : List Str) (dv : List V) (sp : Sp) : Prop :=
  ∃ fd, FnOk P w K mg base CX k f fd ps sp ∧ (∃ ds, Vals dv ds ∧ Binds K fd ps ds) ∧ ∃ g, KBn K fd ps n ks g (fun vs zs => vs ++ zs)
section
variable {X : Cx} {CX : CXT} {k n : Nat} {f : Addr} {ps ks : List Str} {dv : List V} {sp : Sp} {E : XK} {x : Str} {e : Expr} {es : List Expr} {t tk : TA} {p pos : Pos} {kws : List Keyword}
def tCallD (sp : Sp) (dv : List V) (E : XK) (t : TA) : TE := fun σ H Q => t σ H fun vs H1 => sp (vs ++ dv) H1 Q E
/-- f(e, ..), the keyword-only parameters left out -/
theorem pfD (F : OkK X.prog X.w X.K X.mg X.base CX k f n ps ks dv sp) (hr : Room k X.A) (hm : X.mg x = some (.ref f)) (hk : PySem.W.keepIn X.K (.ref f) = true) (hx : Passes CX X E) (ha : PA X (e :: es) t) (hg : Gl X x := by rfl) (hdb : (x == ("__debug__" : Str)) = false := by decide)
    (he : starEach (e :: es) X.env = (false, eval e X.env) :: starEach es X.env := by rfl) (hpl : (backTo pos (starEach es X.env)).any (·.1) = false := by rfl) : PE X (.Call (.Name x p) (e :: es) [] pos) (tCallD sp dv E t) := by
  obtain ⟨fd, G, ⟨ds, rv, b⟩, _⟩ := F
  exact pe_call G hr hg hm hk b rv hx ha hdb he hpl
def tCallKO (n m : Nat) (sp : Sp) (E : XK) (t tk : TA) : TE := fun σ H Q => t σ H fun vs H1 => tk σ H1 fun zs H2 => vs.length = n ∧ zs.length = m ∧ sp (vs ++ zs) H2 Q E
/-- f(e, .., k = v, ..), all keyword-only parameters named, in their order -/
theorem pfKO (F : OkK X.prog X.w X.K X.mg X.base CX k f n ps ks dv sp) (hr : Room k X.A) (hm : X.mg x = some (.ref f)) (hk : PySem.W.keepIn X.K (.ref f) = true) (hx : Passes CX X E) (ha : PA X (e :: es) t) (hkw : PK X kws tk) (hg : Gl X x := by rfl)
    (hall : (backToKw pos (keywordEach kws X.env)).all (·.1.isSome) = true := by rfl) (hks : (backToKw pos (keywordEach kws X.env)).filterMap (·.1) = ks := by rfl)
    (hdb : (x == ("__debug__" : Str)) = false := by decide) (he : starEach (e :: es) X.env = (false, eval e X.env) :: starEach es X.env := by rfl)
    (hpl : ((backTo pos (starEach (e :: es) X.env)).any (·.1) || (backToKw pos (keywordEach kws X.env)).any (·.1.isNone)) = false := by rfl) : PE X (.Call (.Name x p) (e :: es) kws pos) (tCallKO n ks.length sp E t tk) := by
  obtain ⟨fd, G, _, g, b⟩ := F
  exact pe_callN G hr hg hm hk b hx ha hkw hall hks hdb he hpl
end
end Xs
set_option Elab.async false
set_option linter.all false
set_option maxRecDepth 100000
set_option maxHeartbeats 4000000
/-! R19: own exceptions right under any of five built-in errors: made, with one field stored, raised. -/
namespace Gx
open PySem PySem.W PySem.Calls PyProof.Rows PySem.HandSPX Builtin Builtin.ObjectAttr
/-- what is asked of a built-in base: n its __new__, bm its mro -/
structure Bas (n : String) (bm : List Value) : Prop where
  F : ∃ B i : String, ExcBaseFacts B n i bm
  pass : ∀ v : Value, refuseLoop v "__setattr__" bm = pure ()
  ob : bm.contains (.type "object") = true
  ne : bm.isEmpty = false
def tailOf (l : List String) : List Value := l.map Value.type
def bases : List (String × List Value) := [("ValueError.__new__", tailOf ["ValueError", "Exception", "BaseException", "object"]), ("TypeError.__new__", tailOf ["TypeError", "Exception", "BaseException", "object"]),
  ("LookupError.__new__", tailOf ["LookupError", "Exception", "BaseException", "object"]), ("OverflowError.__new__", tailOf ["OverflowError", "ArithmeticError", "Exception", "BaseException", "object"]), ("RuntimeError.__new__", tailOf ["RuntimeError", "Exception", "BaseException", "object"])]
theorem bas_ok {p : String × List Value} (h : p ∈ bases) : Bas p.1 p.2 := by
  simp only [bases, List.mem_cons, List.not_mem_nil, or_false] at h
  rcases h with rfl | rfl | rfl | rfl | rfl
  · exact ⟨⟨_, _, F.excBase_ValueError⟩, F.store_ValueError.passes, by decide +kernel, rfl⟩
  · exact ⟨⟨_, _, F.excBase_TypeError⟩, F.store_TypeError.passes, by decide +kernel, rfl⟩
  · exact ⟨⟨_, _, F.excBase_LookupError⟩, F.store_LookupError.passes, by decide +kernel, rfl⟩
  · exact ⟨⟨_, _, F.excBase_OverflowError⟩, F.store_OverflowError.passes, by decide +kernel, rfl⟩
  · exact ⟨⟨_, _, F.excBase_RuntimeError⟩, F.store_RuntimeError.passes, by decide +kernel, rfl⟩
section
variable {pr : Program} {wo : World} {ar : Around} {R : Result → Shared → Prop} {m : Heap} {ge : Array GenState} {dr : Drawn} {tn : Nat} {oss : OsState}
/-- a first field of an exception: the object gets its dict -/
theorem osa_first {K : W.Frag} {key : Str} {kt : Tok} {val : Value} {z C : Addr} {fv : Array Value} {cd : ClassData} {n : String} {bm : List Value} (KI : K.In m) (at_ : m.get? z = some { cls := .ref C, data := .fields fv })
    (ec : W.clsIn K C = some cd) (em : cd.mro = .ref C :: bm) (bas : Bas n bm) (ed : cd.hasDict = true) (no : W.findIn K (.ref C) key = some none)
    (go : ∀ m' kt' dx, (∀ b o, b ≠ z → m.get? b = some o → m'.get? b = some o) → m.objs.size ≤ dx → dx ≠ z → m'.get? z = some { cls := .ref C, dict := some dx, data := .fields fv } →
      m'.Ns1 dx (fun y => if y = key then some val else none) → R (.ok (.ret .none)) ⟨m', ge, dr, kt', oss⟩) :
    codeAny (model pr wo) ar (.call (.builtin "object.__setattr__") ⟨[.ref z, .str key kt, val], []⟩) R ⟨m, ge, dr, tn, oss⟩ := by
  have J : W.InstAt m z { cls := .ref C, data := .fields fv } C none := ⟨at_, rfl, rfl, trivial⟩
  have em0 : cd.mro.isEmpty = false := by rw [em] <;> rfl
  have em1 : cd.mro.contains (.type "object") = true := by rw [em, List.contains_cons, bas.ob, Bool.or_true]
  have lt : z ≠ m.objs.size := Nat.ne_of_lt (Heap.lt_size at_)
  have isO : W.Looks (model pr wo) m (isInstance (.ref z) (.type "object")) true := J.type.andThen (W.looks_mroIn KI (by unfold W.mroIn; rw [ec, Option.bind_some, if_neg (by rw [em0]; decide), em1]))
  refine codeAny_call_builtin F.store_object.slot.plain F.store_object.entry (@W.check_slot (model pr wo) _ _ ⟨m, ge, dr, tn, oss⟩ "object.__setattr__" "object" "__setattr__" (.ref z) [.str key kt, val] [] _ F.store_object.kind F.store_object.split isO (F.store_object.args (.ref z) (.str key kt) val) ?_)
  have lm : W.Looks (model pr wo) m (mroOf (.ref C)) cd.mro := (W.looks_clsIn KI ec).andThen .now
  have l3 : W.Looks (model pr wo) m (storeTaker? none) none := .now
  have lc : W.Looks (model pr wo) m (classData C) cd := W.looks_clsIn KI ec
  rw [W.osa_eq, refuse_eq]
  refine wpAny_bind (wpAny_bind (J.type.at (wpAny_bind (lm.at ?_))))
  rw [em, refuseLoop_ref, bas.pass]
  refine wpAny_pure (wpAny_bind (J.type.at (wpAny_bind ((W.looks_findIn KI no).at (wpAny_bind (l3.at ?_))))))
  show wpAny _ _ (storeInOwnDict (.ref z) (.ref C) (.str key kt) key val false) _ _ _
  clear em em0 em1
  obtain ⟨c1, c2, c3, c4, c5, hd, c7, c8, c9, c10, c11⟩ := cd
  dsimp only at ed
  subst ed
  unfold storeInOwnDict ownDictForStores
  repeat (first | with_reducible refine store_in_new ?_ ?_ | with_reducible refine wpAny_loadPart_at at_ ?_ | with_reducible refine lc.at ?_ | wp_step)
  · exact ⟨_, #[], _, (Heap.get?_update_ne _ _ _ _ lt.symm).trans (Heap.get?_push_at rfl rfl), rfl, fun e he => absurd he (by simp), fun _ => rfl⟩
  · intro m' kt' hn hs
    have a1 : (m.push { cls := .type "dict", data := .dict #[] }).get? z = some { cls := .ref C, data := .fields fv } := Heap.get?_push_of_some _ at_
    refine go m' kt' m.objs.size (fun b o hb ho => ?_) (Nat.le_refl _) lt.symm ?_ hn
    · exact (hs.2 b (Nat.ne_of_lt (Heap.lt_size ho))).trans ((Heap.get?_update_ne _ _ _ _ hb).trans (Heap.get?_push_of_some _ ho))
    · exact (hs.2 z lt).trans (Heap.get?_update_self _ a1 rfl)
end
end Gx
namespace L2
open PySem PySem.Spec PyProof.Rows
/-- what the written part says of an own exception class right under one of the five -/
structure OexA (K : PySem.W.Frag) (C : Addr) : Prop where
  cls : ∃ nm q N bs bm sn sub ab col dd k0 k1 k2 k3 k5 n, K.lookup C = some (excClassObj nm q C N bs bm true sn sub ab col dd k0 k1 k2 k3 k5 n) ∧ Gx.Bas n bm
  sa : PySem.W.findIn K (.ref C) "__setattr__" = some (some (.builtin "object.__setattr__"))
  exC : PySem.W.subIn K (.ref C) (.type "BaseException") = some true
  tyC : PySem.W.typeIn K (.ref C) = some (.type "type")
  kC : PySem.W.keepIn K (.ref C) = true
def oexAB (K : PySem.W.Frag) (C : Addr) : Bool := (match K.lookup C with
  | some ⟨.type T, _, .cls cd, sl⟩ => (match cd.mro, sl.toList with
    | .ref C' :: bm, [_, _, _, _, some (.builtin n), _] => decide (T = "type") && (decide (C' = C) && (decide ((n, bm) ∈ Gx.bases) && (!cd.hasDel && cd.hasDict)))
    | _, _ => false)
  | _ => false) && (Hc.oo (PySem.W.findIn K (.ref C) "__setattr__") (.builtin "object.__setattr__") && (decide (PySem.W.subIn K (.ref C) (.type "BaseException") = some true) && (decide (PySem.W.typeIn K (.ref C) = some (.type "type")) && PySem.W.keepIn K (.ref C))))
theorem oexAB_ok {K : PySem.W.Frag} {C : Addr} (h : oexAB K C = true) : OexA K C := by
  unfold oexAB at h
  simp only [Bool.and_eq_true] at h
  obtain ⟨h1, h2, h3, h4, h5⟩ := h
  refine ⟨?_, Hc.oo_ok h2, of_decide_eq_true h3, of_decide_eq_true h4, h5⟩
  split at h1
  · rename_i T dd cd sl ho
    split at h1
    · rename_i C' bm k0 k1 k2 k3 n k5 hm hs
      simp only [Bool.and_eq_true, Bool.not_eq_true'] at h1
      obtain ⟨e1, e2, e3, hdel, hd⟩ := h1
      have e1 : T = "type" := of_decide_eq_true e1
      have e2 : C' = C := of_decide_eq_true e2
      have e3 : (n, bm) ∈ Gx.bases := of_decide_eq_true e3
      subst e1 e2
      obtain ⟨nm, bs, mro, ns, qn, hdd, sn, sub, ab, col, del⟩ := cd
      dsimp only at hm hdel hd
      subst hm hdel hd
      have hsl : sl = #[k0, k1, k2, k3, some (.builtin n), k5] := by
        obtain ⟨l⟩ := sl
        simp only at hs
        rw [hs]
      subst hsl
      exact ⟨nm, qn, ns, bs, bm, sn, sub, ab, col, dd, k0, k1, k2, k3, k5, n, ho, Gx.bas_ok e3⟩
    · cases h1
  · cases h1
section
variable {X : Cx} {pp : List (Addr × Obj)} {sg : St} {H : Hp} {sh : Shared} {a C : Addr} {f : Str} {y : V} {u : Value} {Q : Unit → Shared → Prop} {E : Value → Shared → Prop} {A : Around}
/-- self.f = y, the first and only one -/
theorem osa_ok (T : OexA X.K C) (I : Inv X pp sg H sh) (ea : H a = some (exo a C none)) (no : PySem.W.findIn X.K (.ref C) f = some none) (ry : RelV y u)
    (go : ∀ dx s', H dx = none → dx ≠ a → Inv X pp sg (upd (upd H dx (exd dx [(f, y)])) a (exo a C (some dx))) s' → Q () s') : wpAny (model X.prog X.w) A (setAttr (.ref a) f u) Q E sh := by
  obtain ⟨nm, q, N, bs, bm, sn, sub, ab, col, dd, k0, k1, k2, k3, k5, n, at_, bas⟩ := T.cls
  have ec : PySem.W.clsIn X.K C = some { name := nm, bases := bs, mro := .ref C :: bm, ns := N, qualname := q, hasDict := true, slotNames := sn, subclasses := sub, abstract := ab, collection := col, hasDel := false } := by
    unfold PySem.W.clsIn
    rw [at_] <;> rfl
  obtain ⟨t1, ho⟩ := exo_at I.hok ea
  obtain ⟨m, ge, dr, tn, oss⟩ := sh
  refine PySem.W.set_plain I.kIn (ox := { cls := .ref C, dict := none, data := .fields #[.ref t1, .none, .none, .none, .bool false, .none] }) (od := none) ⟨ho, rfl, rfl, trivial⟩ T.sa ?_
  refine Gx.osa_first I.kIn ho ec rfl bas rfl no fun m' kt' dx k dn dne hx hn => ?_
  have free : H dx = none := I.hok.fresh dn
  have ned : ∀ {b : Addr} {o : Obj}, m.get? b = some o → b ≠ dx := fun {b o} r => Nat.ne_of_lt (Nat.lt_of_lt_of_le (Heap.lt_size r) dn)
  have nea : ∀ {b : Addr}, H b = none → b ≠ a := fun {b} r z => by
    subst z
    rw [ea] at r
    cases r
  have U : Un X.fs [] H (upd (upd H dx (exd dx [(f, y)])) a (exo a C (some dx))) m m' := {
    keep := fun b o r r2 _ _ => k b o (nea r2) r
    slot := fun b o r r2 _ _ => ⟨o.slots, k b o (nea r2) r⟩
    free := fun b o r r2 _ => by rw [upd_ne (nea r2), upd_ne (ned r)]; exact r2
    there := fun b o r _ => by
      rcases Classical.em (b = a) with hb | hb
      · subst hb; exact ⟨_, hx⟩
      · exact ⟨o, k b o hb r⟩
    tups := fun b xs r => by rw [upd_ne (at_ne ea r exo_tup), upd_ne (ne_of_none r free)]; exact r
    frzs := fun b o v r => by rw [upd_ne (at_ne ea r exo_frz), upd_ne (ne_of_none r free)]; exact r
    tbls := fun b ps r => ⟨#[], by rw [upd_ne (at_ne ea r exo_tbl), upd_ne (ne_of_none r free), r]; simp⟩ }
  refine go dx _ free dne (I.un (t' := kt') U fun b o r => ?_)
  rcases Classical.em (b = a) with hb | hb
  · subst hb
    rw [upd_same] at r
    cases r
    exact exo_ok hx
  · rw [upd_ne hb] at r
    rcases Classical.em (b = dx) with hd | hd
    · subst hd
      rw [upd_same] at r
      cases r
      exact exd_ok hn (relO_put (fs := []) ry fun _ => True.intro)
    · rw [upd_ne hd] at r
      refine (I.hok b o r).stay (fun c v hc => k c v ?_) (fun c hc => ?_) (fun c xs hc => ?_)
      · rcases hc with hc | hc
        · subst hc; exact hb
        · exact at_ne ea hc exo_own
      · rw [upd_ne (at_ne ea hc exo_own), upd_ne (ne_of_none hc free)]; exact hc
      · rw [upd_ne (at_ne ea hc exo_tup), upd_ne (ne_of_none hc free)]; exact hc
/-- self.f = e, once -/
def tOsa (K : PySem.W.Frag) (f : Str) (to te : TE) : TS := fun D σ H => te σ H fun y H1 => to σ H1 fun x H2 => ∃ a C : Addr, x = .ref a ∧ OexA K C ∧ PySem.W.findIn K (.ref C) f = some none ∧
  H2 a = some (exo a C none) ∧ ∀ dx, H2 dx = none → dx ≠ a → D.nx σ (upd (upd H2 dx (exd dx [(f, y)])) a (exo a C (some dx)))
theorem ps_osa {o e : Expr} {to te : TE} {p' pos : Pos} (ho : PE X o to) (he : PE X e te) (hs : swapsWith e (some (.Attribute o f p')) pos.line X.env = pure false := by rfl) : PS X (.Assign [.Attribute o f p'] e pos) (tOsa X.K f to te) := by
  refine ⟨fun pn s σ H D I h => plainObj_wpAny_Assign_Attribute (thn (he.run pn s σ H _ I h) fun v s1 ⟨y, H1, I1, r1, q1⟩ => thn (ho.run pn s1 σ H1 _ I1 q1) fun u s2 ⟨x, H2, I2, r2, a, C, ex, T, no, ea, q⟩ => ?_) hs⟩
  subst ex
  cases (show u = Value.ref a from r2)
  exact osa_ok T I2 ea no r1 fun dx s' n1 n2 J => ⟨σ, _, J, q dx n1 n2⟩
/-- raise C(e, ..) -/
theorem pmk_oexA {CX : CXT} {e : Expr} {es : List Expr} {ta : TA} {p pos : Pos} {x : Str} {fI : Addr} {k : Nat} {fd : FuncData} {ps : List Str} {sp : Sp} {ds : List Value} {dvs : List V} (T : OexA X.K C) (iC : PySem.W.findIn X.K (.ref C) "__init__" = some (some (.ref fI)))
    (tI : PySem.W.typeIn X.K (.ref fI) = some (.type "function")) (G : FnOk X.prog X.w X.K X.mg X.base CX k fI fd ps sp) (hr : Room (k + 1) X.A) (hb : Binds X.K fd ps ds) (hd : Vals dvs ds) (hx : Passes CX X (fun _ _ _ => False)) (hg : Gl X x) (hm : X.mg x = some (.ref C))
    (ha : PA X (e :: es) ta) (hdb : (x == ("__debug__" : Str)) = false := by decide) (he : starEach (e :: es) X.env = (false, eval e X.env) :: starEach es X.env := by rfl) (hpl : (backTo pos (starEach es X.env)).any (·.1) = false := by rfl) :
    PMk X (.Call (.Name x p) (e :: es) [] pos) (tMkO C sp dvs ta) := by
  intro pn s σ H Q I h
  obtain ⟨nm, q, N, bs, bm, sn, sub, ab, col, dd, k0, k1, k2, k3, k5, n, at_, bas⟩ := T.cls
  obtain ⟨B, i0, F⟩ := bas.F
  refine wpAny_Call_Name_kw (ld_glob I hg hm ?_ hdb)
  refine PySem.W.callWith_K (h₀ := X.base) I.ok.mod.kin T.kC (thn (ha.run pos pn s σ H _ I h) fun us s1 ⟨vs, H1, I1, r1, hz, q1⟩ => ⟨I1.kIn, ?_⟩) he hpl
  show wpAny _ _ (call (.ref C) us) _ _ _
  obtain ⟨m, g, dr, tk, os⟩ := s1
  have lt : m.objs.size ≤ m.objs.size + 1 := Nat.le_succ _
  have hq := q1 (m.objs.size + 1) (I1.hok.fresh lt)
  have kk : ∀ b o, m.get? b = some o → ((m.push (PySem.W.kdv_tup us)).push (PySem.HandSPX.excO C m.objs.size)).get? b = some o := fun b o r => Heap.get?_push_of_some _ (Heap.get?_push_of_some _ r)
  have ge : ((m.push (PySem.W.kdv_tup us)).push (PySem.HandSPX.excO C m.objs.size)).get? (m.objs.size + 1) = some (PySem.HandSPX.excO C m.objs.size) := by heap_get
  have I2 : Inv X pn σ (upd H1 (m.objs.size + 1) (exo (m.objs.size + 1) C none)) ⟨(m.push (PySem.W.kdv_tup us)).push (PySem.HandSPX.excO C m.objs.size), g, dr, tk, os⟩ :=
    I1.laid (t' := tk) (a := m.objs.size + 1) (o := exo (m.objs.size + 1) C none) (h' := (m.push (PySem.W.kdv_tup us)).push (PySem.HandSPX.excO C m.objs.size)) kk lt (exo_ok ge)
  have r2 : Vals (V.ref (m.objs.size + 1) :: (vs ++ dvs)) (Value.ref (m.objs.size + 1) :: (us ++ ds)) := .cons rfl (r1.append hd)
  have l1 : (Value.ref (m.objs.size + 1) :: us ++ ds).length = ps.length := (G.len _ _ _ _ hq ▸ r2.length).symm
  have l2 : us.length ≤ sizeLine := by
    have := Paired.length r1
    rw [sizeLine_eq]
    omega
  refine wpAny_call (PySem.HandSPX.call_own F (fun _ => rfl) (I1.kIn _ _ at_) (PySem.W.looks_findIn I1.kIn iC) (fun v => PySem.W.bind_fn I1.kIn v tI) l2
    (codeAny_mono (G.run _ X.stack _ _ ⟨Value.ref (m.objs.size + 1) :: us, []⟩ (Value.ref (m.objs.size + 1) :: (us ++ ds)) _ _ (fun _ _ _ => False) (hr.make C us []) (I2.env0.make C us []) (hb _ (Value.ref (m.objs.size + 1) :: us) I2.kIn l1) r2 hq) fun r s' z => ?_))
  match r, z with
  | .error er, z => exact hx pn σ _ _ er s' I2 z
  | .ok (.ret u), z =>
    obtain ⟨v, H2, os2, bare2, un2, hok2, rv, ev, d, fs, e1, e2, e3, q2⟩ := z
    subst ev
    obtain ⟨h2, g2, d2, t2, os'⟩ := s'
    exact ⟨rv, mk_end (raises_own T.exC T.tyC) I1 lt kk un2 hok2 os2 bare2 e1 e2 e3 q2⟩
end
end L2
set_option Elab.async false
set_option linter.all false
set_option maxRecDepth 100000
set_option maxHeartbeats 4000000
/-! R20: x + y of two instances of a class with __add__; slices of tuples by the heap. -/
namespace Xs
open PySem PySem.Spec PyProof.Rows L2
/-- what is asked of the class at C: f its __add__ -/
structure AddC (K : PySem.W.Frag) (C f : Addr) : Prop where
  at_ : PySem.W.findIn K (.ref C) "__add__" = some (some (.ref f))
  fn : PySem.W.isFn K (.ref f) = true
  first : PySem.W.selfFirst K C = true
section
variable {X : Cx} {C f : Addr} {n : Nat} {sp : Sp}
def rAddO (C : Addr) (sp : Sp) : R2 := fun x y H Q => ∃ a b dx dy fs gs, x = .ref a ∧ y = .ref b ∧ H a = some (.ins C dx fs) ∧ H b = some (.ins C dy gs) ∧ sp [.ref a, .ref b] H Q E0
theorem op_addO (F : FnR X.prog X.w X.K X.mg X.base CX0 n f sp) (hr : Room n X.A) (T : AddC X.K C f) : OpR X (binaryOp .Add) (rAddO C sp) := by
  intro pins s σ H x y v u Q I rx ry h
  obtain ⟨a, b, dx, dy, fs, gs, rfl, rfl, ea, eb, h⟩ := h
  cases rx
  cases ry
  obtain ⟨mA, O, _⟩ := ins_get I.hok ea
  obtain ⟨od, J, _⟩ := O.look
  obtain ⟨mB, O2, _⟩ := ins_get I.hok eb
  obtain ⟨od2, J2, _⟩ := O2.look
  obtain ⟨m, hF⟩ := I.fr
  refine PySem.W.binop_K (op := .Add) hF I.ok.mod.kin J J2.type T.first T.at_ T.fn (wpAny_mono (Xr.run_sp (A := X.A) (vs := [.ref a, .ref b]) F hr I.ok.frames I (.cons rfl (.cons rfl .nil)) h) (fun r s' hv => ?_) fun _ _ e => e)
  obtain ⟨z, H', I', rz, q⟩ := hv
  have q' : EP X pins σ Q r s' := ⟨z, H', I', rz, q⟩
  cases z with
  | non => cases (show r = Value.none from rz); exact q'
  | bl b => cases (show r = Value.bool b from rz); exact q'
  | int i => obtain ⟨t, e⟩ := (show ∃ t, r = Value.int i t from rz); subst e; exact q'
  | str i => obtain ⟨t, e⟩ := (show ∃ t, r = Value.str i t from rz); subst e; exact q'
  | byt i => obtain ⟨t, e⟩ := (show ∃ t, r = Value.bytes i t from rz); subst e; exact q'
  | flt i => obtain ⟨t, e⟩ := (show ∃ t, r = Value.float i t from rz); subst e; exact q'
  | ref p => cases (show r = Value.ref p from rz); exact q'
  | ty n => cases (show r = Value.type n from rz); exact q'
/-- t[lo:hi], t a tuple of the heap, not the whole of it -/
def hSlT : V → Option Int → Option Int → Hp → VK → Prop := fun x lo hi H Q => match x with
  | .ref a => (match H a with
    | some (.tup xs) => ¬ (HT.sIx xs.length 0 lo = 0 ∧ HT.sIx xs.length xs.length hi = xs.length) ∧ ∀ p, H p = none → Q (.ref p) (upd H p (.tup (cutV xs lo hi)))
    | _ => False)
  | _ => False
theorem hs_tup : SlR X hSlT := fun pins s σ H x v vl vu lo hi sl Q I rx hs pl pu h => by
  unfold hSlT at h
  split at h
  · split at h
    · exact sl_tup pins s σ H _ v vl vu lo hi sl Q I rx hs pl pu ⟨_, _, rfl, .inl (Rd.of ‹_›), h.1, h.2⟩
    · exact h.elim
  · exact h.elim
theorem slT_at {H : Hp} {a : Addr} {xs ys : List V} {lo hi : Option Int} {Q : VK} (h : H a = some (.tup xs)) (hw : ¬ (HT.sIx xs.length 0 lo = 0 ∧ HT.sIx xs.length xs.length hi = xs.length)) (e : cutV xs lo hi = ys) (q : ∀ p, H p = none → Q (.ref p) (upd H p (.tup ys))) : hSlT (.ref a) lo hi H Q := by
  unfold hSlT
  dsimp only
  rw [h]
  exact ⟨hw, by rw [e]; exact q⟩
theorem catT_ok {K : PySem.W.Frag} {H : Hp} {p r : Addr} {xs ys : List V} {Q : VK} (hp : H p = some (.tup xs)) (hq : H r = some (.tup ys)) (hx : xs ≠ []) (hy : ys ≠ []) (hl : xs.length + ys.length ≤ sizeLine) (k : ∀ t, H t = none → Q (.ref t) (upd H t (.tup (xs ++ ys)))) : rCatT K (.ref p) (.ref r) H Q :=
  ⟨_, _, _, _, rfl, rfl, .inl (Rd.of hp), .inl (Rd.of hq), hx, hl, fun e => absurd e hy, fun _ => k⟩
end
end Xs
set_option Elab.async false
set_option linter.all false
set_option maxRecDepth 100000
set_option maxHeartbeats 4000000
/-! R36: in and not in a list of instances by the class's own __eq__. -/
namespace Xr
open PySem PySem.Spec PyProof.Rows L2 ClX
open PySem.SeqAt
open AutoSeq1 (wpAny_loadPart')
open MeetsSeq MeetsSeq2 MeetsSeq3 SeqRoads2
section
variable {prog : Program} {w : World} {A : Around} {R : Result → Shared → Prop}
def InI (prog : Program) (w : World) (A : Around) (E : Value → Shared → Prop) (l : Addr) (x : Value) (N : Nat) (I : Nat → Shared → Prop) (J : Shared → Prop) : Prop :=
  ∀ i s, I i s → ∃ (items : Array Value) (n : Nat), s.heap.get? l = some { cls := .type "list", data := .seq items n } ∧ items.size = N ∧ ∀ (h1 : i < items.size), wpAny (model prog w) A.in1 (eqBool items[i] x) (fun r s' => if r = true then J s' else I (i + 1) s') E s
theorem contains_loopG (l : Addr) (x : Value) (N : Nat) (I : Nat → Shared → Prop) (J : Shared → Prop) (hl : InI prog w A (fun e s' => R (.error e) s') l x N I J)
    (fin : ∀ s, I N s → R (.ok (.ret (.bool false))) s) (hit : ∀ s, J s → R (.ok (.ret (.bool true))) s) (k : Nat) :
    ∀ i : Nat, N - i = k → i ≤ N → ∀ s, I i s →
      wpAny (model prog w) A.in1 (Builtin.«list.__contains__.loop» ⟨[.ref l, x, rawInt i], []⟩) (GQ.FinOf prog w A R) (fun e s' => R (.error e) s') s := by
  induction k with
  | zero =>
    intro i hk hi s h
    obtain ⟨items, n, hl1, hs1, _⟩ := hl _ _ h
    have hi' : i = N := by omega
    have hR := fin s (hi' ▸ h)
    obtain ⟨hp, g, d, tk, os⟩ := s
    wp_walk using wpAny_loadPart' hl1
    have hi1 : items[((i : Nat) : Int).toNat]? = none := by simp; omega
    rw [hi1]
    wp_walk
    exact hR
  | succ k ih =>
    intro i hk hi s h
    obtain ⟨items, n, hl1, hs1, turn⟩ := hl _ _ h
    have hlt : i < items.size := by omega
    have ht := turn hlt
    obtain ⟨hp, g, d, tk, os⟩ := s
    wp_walk using wpAny_loadPart' hl1
    have hi1 : items[((i : Nat) : Int).toNat]? = some items[i] := by simp [hlt]
    have hc : ((i : Int) + 1) = ((i + 1 : Nat) : Int) := by omega
    rw [hi1]
    refine wpAny_bind (wpAny_mono ht (fun r s2 h2 => ?_) fun _ _ x => x)
    cases r with
    | true =>
      have h3 := hit s2 (by simpa using h2)
      obtain ⟨hp2, g2, d2, tk2, os2⟩ := s2
      wp_walk
      exact h3
    | false =>
      have h3 := ih (i + 1) (by omega) (by omega) s2 (by simpa using h2)
      obtain ⟨hp2, g2, d2, tk2, os2⟩ := s2
      wp_walk
      rw [hc]
      exact ⟨plainId_quiet plain_contains_loop _, codeAny_builtin entry_contains_loop (by
        rw [Around.under_plainId plain_contains_loop _]
        exact h3)⟩
theorem list_containsG (l : Addr) (x : Value) (N : Nat) (I : Nat → Shared → Prop) (J : Shared → Prop) (hl : InI prog w A (fun e s' => R (.error e) s') l x N I J)
    (fin : ∀ s, I N s → R (.ok (.ret (.bool false))) s) (hit : ∀ s, J s → R (.ok (.ret (.bool true))) s) {s : Shared} (h : I 0 s) :
    wpAny (model prog w) A.in1 (Builtin.«list.__contains__» ⟨[.ref l, x], []⟩) (GQ.FinOf prog w A R) (fun e s' => R (.error e) s') s := by
  have hrec := contains_loopG (A := A) (R := R) l x N I J hl fin hit _ 0 rfl (Nat.zero_le _) s h
  obtain ⟨items, n, hl1, hs1, _⟩ := hl _ _ h
  obtain ⟨hp, g, d, tk, os⟩ := s
  wp_walk using wpAny_loadPart' hl1
  exact ⟨plainId_quiet plain_contains_loop _, codeAny_builtin entry_contains_loop (by
    rw [Around.under_plainId plain_contains_loop _]
    exact hrec)⟩
end
section
variable {X : Cx} {C f : Addr} {n : Nat} {sp : Sp}
theorem rc_eqO {A : Around} {pins : List (Addr × Obj)} {σ : L2.St} {H : Hp} {s : Shared} {a : Addr} {y : V} {u : Value} {Q : VK} {E : Value → Shared → Prop} (F : FnR X.prog X.w X.K X.mg X.base CX0 n f sp) (hr : Room n A) (hA : A.frames = some X.stack) (T : EqC X.K C f)
    (I : Inv X pins σ H s) (ry : RelV y u) (h : rEqO C sp false (.ref a) y H Q) : wpAny (model X.prog X.w) A (richCompare .Eq (.ref a) u) (EP X pins σ Q) E s := by
  obtain ⟨a', dx, fs, ha', ea, hy, h⟩ := h
  cases ha'
  obtain ⟨mA, O, _⟩ := ins_get I.hok ea
  obtain ⟨od, J, _⟩ := O.look
  obtain ⟨m, hF⟩ := I.fr
  obtain ⟨tb, hl, hn⟩ := beside_type T I ry hy
  refine PySem.W.cmp_K (op := .Eq) hr.units0 hF I.ok.mod.kin J hl hn T.eq T.fn (wpAny_mono (run_sp (A := A) (vs := [.ref a, y]) F hr hA I (.cons rfl (.cons ry .nil)) h) (fun r s' hv => ?_) fun _ _ e => e)
  obtain ⟨z, H', I', rz, c, rfl, q⟩ := hv
  cases rz
  exact ⟨.bl c, H', I', rfl, q⟩
/-- the items of a list, one after another: is the value one of them -/
def inO (C : Addr) (sp : Sp) (p b : Addr) (all : List V) (Q : Bool → Hp → Prop) : List V → Hp → Prop
  | [], H => H p = some (.lst all) ∧ Q false H
  | y :: ys, H => H p = some (.lst all) ∧ ∃ a, y = .ref a ∧ ((a = b ∧ Q true H) ∨ (a ≠ b ∧ rEqO C sp false (.ref a) (.ref b) H (fun v H' => ∃ c, v = .bl c ∧ if c = true then Q true H' else inO C sp p b all Q ys H')))
theorem inO_lst {p b : Addr} {all ys : List V} {Q : Bool → Hp → Prop} {H : Hp} (h : inO C sp p b all Q ys H) : H p = some (.lst all) := by
  cases ys with
  | nil => exact h.1
  | cons y ys => exact h.1
def rInO (C : Addr) (sp : Sp) (neg : Bool) : R2 := fun x y H Q => ∃ p b xs, x = .ref b ∧ y = .ref p ∧ inO C sp p b xs (fun c H' => Q (.bl (if neg then !c else c)) H') xs H
theorem in_turn {A : Around} {pins : List (Addr × Obj)} {σ : L2.St} {p b : Addr} {xs : List V} {E : Value → Shared → Prop} {Q : Bool → Hp → Prop} (F : FnR X.prog X.w X.K X.mg X.base CX0 n f sp) (hr : Room n A.in1) (hA : A.in1.frames = some X.stack) (T : EqC X.K C f) :
    InI X.prog X.w A E p (.ref b) xs.length (fun i s' => ∃ H', Inv X pins σ H' s' ∧ inO C sp p b xs Q (xs.drop i) H') (fun s' => ∃ H', Inv X pins σ H' s' ∧ Q true H') := by
  rintro i s ⟨H, I, h⟩
  obtain ⟨z, its, k, r, e⟩ := I.hok p _ (inO_lst h)
  refine ⟨its.toArray, k, e, by rw [List.size_toArray, ← r.length], fun h1 => ?_⟩
  have h1' : i < its.length := by simpa using h1
  have hx : i < xs.length := by rw [r.length]; exact h1'
  obtain ⟨u, hu, ru⟩ := r.get (List.getElem?_eq_getElem hx)
  have g1 : its[i]? = some its.toArray[i] := by
    rw [List.getElem?_eq_getElem h1'] <;> simp
  rw [g1] at hu
  rw [Option.some.inj hu]
  rw [List.drop_eq_getElem_cons hx] at h
  obtain ⟨_, a, ea, h⟩ := h
  rw [ea] at ru
  obtain rfl : u = Value.ref a := by cases ru; rfl
  rcases h with ⟨rfl, q⟩ | ⟨hne, h⟩
  · exact SeqAt.EqAt.same (A := A.in1) (s := s) (.ref a) X.prog X.w E _ (by
      rw [if_pos rfl]
      exact ⟨H, I, q⟩)
  · refine GQ.eqBool_refG hne (wpAny_mono (rc_eqO F hr hA T I (y := .ref b) rfl h) (fun v s' hv => ?_) fun _ _ x => x)
    obtain ⟨z, H', I', rz, c, rfl, q⟩ := hv
    cases rz
    refine ⟨c, rfl, ?_⟩
    cases c with
    | true =>
      rw [if_pos rfl] at q ⊢
      exact ⟨H', I', q⟩
    | false =>
      rw [if_neg Bool.false_ne_true] at q ⊢
      exact ⟨H', I', q⟩
theorem op_inO (F : FnR X.prog X.w X.K X.mg X.base CX0 n f sp) (hr : Room (n + 1) X.A) (T : EqC X.K C f) : OpR X (compareOp .In) (rInO C sp false) := by
  intro pins s σ H x y v u Q I rx ry h
  obtain ⟨p, b, xs, rfl, rfl, h⟩ := h
  cases rx
  cases ry
  obtain ⟨z, its, k, r, e⟩ := I.hok p _ (inO_lst h)
  have hT : s.TypeIs (.ref p) "list" := ⟨_, e, rfl⟩
  show wpAny _ X.A (do return Value.bool (← contains (.ref p) (.ref b)) : Sem Value) _ _ s
  refine wpAny_bind (wpAny_contains_slot hT PySem.F.slot_list_contains (GQ.call_here PySem.F.slot_list_contains hT PySem.F.entry_list_contains (PySem.F.args_list_contains_2 _ _) ?_))
  refine list_containsG (A := X.A) p (.ref b) xs.length _ _ (in_turn (A := X.A) (pins := pins) (σ := σ) F hr.in1 I.ok.frames T) ?_ ?_ ⟨H, I, by rw [List.drop_zero]; exact h⟩
  · rintro s' ⟨H', I', q⟩
    rw [List.drop_length] at q
    exact wpAny_truthy_bool (wpAny_pure ⟨.bl false, H', I', rfl, q.2⟩)
  · rintro s' ⟨H', I', q⟩
    exact wpAny_truthy_bool (wpAny_pure ⟨.bl true, H', I', rfl, q⟩)
theorem op_notInO (F : FnR X.prog X.w X.K X.mg X.base CX0 n f sp) (hr : Room (n + 1) X.A) (T : EqC X.K C f) : OpR X (compareOp .NotIn) (rInO C sp true) := by
  intro pins s σ H x y v u Q I rx ry h
  obtain ⟨p, b, xs, rfl, rfl, h⟩ := h
  cases rx
  cases ry
  obtain ⟨z, its, k, r, e⟩ := I.hok p _ (inO_lst h)
  have hT : s.TypeIs (.ref p) "list" := ⟨_, e, rfl⟩
  show wpAny _ X.A (do return Value.bool (!(← contains (.ref p) (.ref b))) : Sem Value) _ _ s
  refine wpAny_bind (wpAny_contains_slot hT PySem.F.slot_list_contains (GQ.call_here PySem.F.slot_list_contains hT PySem.F.entry_list_contains (PySem.F.args_list_contains_2 _ _) ?_))
  refine list_containsG (A := X.A) p (.ref b) xs.length _ _ (in_turn (A := X.A) (pins := pins) (σ := σ) F hr.in1 I.ok.frames T) ?_ ?_ ⟨H, I, by rw [List.drop_zero]; exact h⟩
  · rintro s' ⟨H', I', q⟩
    rw [List.drop_length] at q
    exact wpAny_truthy_bool (wpAny_pure ⟨.bl true, H', I', rfl, q.2⟩)
  · rintro s' ⟨H', I', q⟩
    exact wpAny_truthy_bool (wpAny_pure ⟨.bl false, H', I', rfl, q⟩)
end
end Xr
set_option Elab.async false
set_option linter.all false
set_option maxRecDepth 100000
set_option maxHeartbeats 4000000
/-! R37: min(list, key=f, default=d), f an own function that gives pairs of an int and a text. -/
namespace Xr
open PySem PySem.Spec PyProof.Rows L2 ClX
section
variable {A : Around} {s : Shared}
theorem rcOp_lt_str (x y : Str) (t u : Tok) : Ob.RcOp .Lt A s (.str x t) (.str y u) (decide (x.cps.toList < y.cps.toList)) := fun prog w E Q h =>
  richCompare_gives (typeIs_str s x t) (typeIs_str s y u) PySem.F.slot_str_lt PySem.F.entry_str_lt (PySem.F.args_str_lt_2 _ _) (gives_str_lt x y t u) (by simp [Made.takes]) h
/-- < of two pairs -/
def ltIS (n : Int) (z : Str) (m : Int) (y : Str) : Bool := if n = m then decide (z.cps.toList < y.cps.toList) else decide (n < m)
theorem str_irr (z : Str) : ¬ z.cps.toList < z.cps.toList := List.lt_irrefl _
theorem lexAt_is (n : Int) (z : Str) (m : Int) (y : Str) : Ob.lexAt (fun j => if j = 0 then decide (n = m) else decide (z = y)) (fun j => if j = 0 then decide (n < m) else decide (z.cps.toList < y.cps.toList)) false 0 2 = ltIS n z m y := by
  unfold ltIS
  simp only [Ob.lexAt_succ, Ob.lexAt_zero]
  by_cases h : n = m
  · simp only [h, decide_true, if_true]
    by_cases e : z = y
    · subst e
      simp [str_irr]
    · simp [e]
  · simp [h]
theorem rc_pair {n m : Int} {z y : Str} {a b : Addr} {i1 i2 : Array Value} (h1 : s.heap.IsTuple a i1) (h2 : s.heap.IsTuple b i2) (hu : A.units < cLine)
    (r1 : ∃ t u, i1 = #[.int n t, .str z u]) (r2 : ∃ t u, i2 = #[.int m t, .str y u]) : Ob.RcOp .Lt A s (.ref a) (.ref b) (ltIS n z m y) := by
  obtain ⟨t, u, rfl⟩ := r1
  obtain ⟨t', u', rfl⟩ := r2
  have R := Ob.RcOp.tuples_lt (A := A) (s := s) (e := fun j => if j = 0 then decide (n = m) else decide (z = y)) (r := fun j => if j = 0 then decide (n < m) else decide (z.cps.toList < y.cps.toList)) h1 h2 hu
    (fun j g1 g2 => by
      have hj : j < 2 := g1
      have hc : j = 0 ∨ j = 1 := by omega
      rcases hc with rfl | rfl
      · have e : (n == m) = decide (n = m) := by
          by_cases q : n = m
          · rw [decide_eq_true q]; exact beq_iff_eq.mpr q
          · rw [decide_eq_false q]; exact beq_eq_false_iff_ne.mpr q
        show SeqAt.EqAt _ _ (Value.int n t) (Value.int m t') (decide (n = m))
        rw [← e]
        exact SeqAt.EqAt.int_int _ _ _ _
      · show SeqAt.EqAt _ _ (Value.str z u) (Value.str y u') (decide (z = y))
        have e : (z == y) = decide (z = y) := by
          by_cases q : z = y
          · rw [decide_eq_true q]; exact beq_iff_eq.mpr q
          · rw [decide_eq_false q]; exact beq_eq_false_iff_ne.mpr q
        rw [← e]
        exact SeqAt.EqAt.str_str _ _ _ _)
    (fun j g1 g2 _ => by
      have hj : j < 2 := g1
      have hc : j = 0 ∨ j = 1 := by omega
      rcases hc with rfl | rfl
      · exact Ob.RcOp.lt_int _ _ _ _
      · exact rcOp_lt_str _ _ _ _)
  rw [← lexAt_is]
  exact R
end
/-- two keys: a pair each, and whether the first is less -/
def LtK (K : PySem.W.Frag) (H : Hp) (k bk : V) (b : Bool) : Prop := ∃ t u n z m y, k = .ref t ∧ bk = .ref u ∧ SqT K H t [.int n, .str z] ∧ SqT K H u [.int m, .str y] ∧ b = ltIS n z m y
/-- the items one after another, beside the best so far and its key -/
def minO (K : PySem.W.Frag) (sp : Sp) (l : Addr) (all : List V) (d : V) (Q : VK) : List V → Option (V × V) → Hp → Prop
  | [], best, H => H l = some (.lst all) ∧ Q (match best with | none => d | some (x, _) => x) H
  | x :: r, best, H => H l = some (.lst all) ∧ sp [x] H (fun k H' => match best with
    | none => minO K sp l all d Q r (some (x, k)) H'
    | some (bx, bk) => ∃ b, LtK K H' k bk b ∧ minO K sp l all d Q r (if b = true then some (x, k) else some (bx, bk)) H') E0
theorem minO_lst {K : PySem.W.Frag} {sp : Sp} {l : Addr} {all : List V} {d : V} {Q : VK} {r : List V} {best : Option (V × V)} {H : Hp} (h : minO K sp l all d Q r best H) : H l = some (.lst all) := by
  cases r with
  | nil => exact h.1
  | cons x r => exact h.1
def rMinKD (K : PySem.W.Frag) (f : Addr) (sp : Sp) : List V → List V → Hp → VK → Prop := fun vs zs H Q => ∃ l xs d, vs = [.ref l] ∧ zs = [.ref f, d] ∧ minO K sp l xs d Q xs none H
theorem args_minKD (a v d : Value) : argsOk "min" ⟨[a], [(Str.ofString "key", v), (Str.ofString "default", d)]⟩ := by unfold argsOk; kernel_rfl
/-- what the loop keeps of the best -/
def BestV (best : Option (V × V)) (items : Array Value) : Prop := match best with
  | none => items = #[]
  | some (x, k) => ∃ u v, items = #[u, v] ∧ RelV x u ∧ RelV k v
section
variable {X : Cx} {n : Nat} {f : Addr} {sp : Sp}
theorem min_loopO {pins : List (Addr × Obj)} {σ : L2.St} {l S I : Addr} {all : List V} {d : V} {dv : Value} {Q : VK} {E : Value → Shared → Prop} {A : Around} (F : FnR X.prog X.w X.K X.mg X.base CX0 n f sp) (hr : Room n A.in1) (hA : A.in1.frames = some X.stack) (hh : A.handled = none) (rd : RelV d dv)
    {H0 : Hp} (fS : FpOk X pins H0 S) (fI : FpOk X pins H0 I) (hSI : S ≠ I) :
    ∀ (r : List V) (j : Nat) (best : Option (V × V)) (s : Shared) (H : Hp) (items : Array Value) (c : Nat) (oI : Obj), all.drop j = r → j ≤ all.length → Inv X (pins ++ [(S, seqObj "list" items c), (I, oI)]) σ H s → oI.cls = .type "list_iterator" → oI.data = .fields #[.ref l, .int j 0] → BestV best items → (best = none → j = 0) →
      minO X.K sp l all d Q r best H →
      codeAny (model X.prog X.w) A (.builtin "min.loop" ⟨[.ref I, .ref f, .ref S], [("default", dv)]⟩) (fun r s' => match r with | .ok (.ret v) => EP X pins σ Q v s' | .ok _ => False | .error e => E e s') s := by
  have hname : (toString "min" ++ toString ".loop" : String) = "min.loop" := by decide
  intro r
  induction r with
  | nil =>
    intro j best s H items c oI hj hjl I0 ic idd hb h0 hm
    obtain ⟨hl, q⟩ := hm
    have pS := I0.pin (S, seqObj "list" items c) (List.mem_append_right _ (List.mem_append_right _ (.head _)))
    have pI := I0.pin (I, oI) (List.mem_append_right _ (List.mem_append_right _ (.tail _ (.head _))))
    obtain ⟨its, rv, pl, hz⟩ := I0.list (.inl (Rd.of hl))
    have hj2 : j = all.length := by
      have := congrArg List.length hj
      rw [List.length_drop] at this
      simp only [List.length_nil] at this
      omega
    have hlI : l ≠ I := fun e => by
      have := pI.2.1
      rw [← e, hl] at this; cases this
    have W := Walks.list (prog := X.prog) (w := X.w) (A := A.in1) hh I l hlI its.toArray
    have hsz : its.toArray.size = all.length := by rw [List.size_toArray, ← rv.length]
    have It : Inv X pins σ H s := I0.unpinned
    have gI : FpOk X pins H I := ⟨pI.2.1, fI.2⟩
    refine codeAny_builtin PySem.F.entry_min_loop ?_
    rw [Around.under_plainId PySem.F.plain_min_loop _]
    show wpAny _ A.in1 (seqItems? (.ref S) >>= _) _ _ _
    refine wpAny_bind (wpAny_seqItems pS.1 rfl ?_)
    show wpAny _ A.in1 (tryCatch (pyNext (.ref I)) _ >>= _) _ _ _
    refine wpAny_bind (wpAny_tryCatch (W.done _ _ _ ⟨by rw [hsz, ← hj2]; exact ⟨oI, pI.1, ic, idd⟩, pl.isList⟩ fun h' tk' hk' => ?_))
    have I1 : Inv X pins σ H { s with heap := h', toks := tk' } := It.turnedL (ch := [I]) (fun b o hb e => hk' b o hb e) fun b hb => by rw [List.mem_singleton.mp hb]; exact gI
    have hS1 := hk' S _ (by simpa using hSI) pS.1
    cases best with
    | none =>
      obtain rfl : items = #[] := hb
      exact wpAny_bind (wpAny_rule (wpAny_pure (show EP X pins σ Q dv _ from ⟨d, H, I1, rd, q⟩)))
    | some p =>
      obtain ⟨x, k⟩ := p
      obtain ⟨u, v, rfl, rx, rk⟩ := hb
      show wpAny _ A.in1 (updateSeq S (fun _ => #[]) >>= _) _ _ _
      refine wpAny_bind ?_
      refine wpAny_updateSeq hS1 rfl (wpAny_bind (wpAny_letGo (wpAny_pure ?_)))
      have s1 := Heap.SameBut.update h' S (Obj.mapSeq fun _ => (#[] : Array Value))
      have gS : FpOk X pins H S := ⟨pS.2.1, fS.2⟩
      have I2 := I1.turnedL (h' := h'.update S (Obj.mapSeq fun _ => (#[] : Array Value))) (t' := tk') (ch := [S]) (fun b o hb e => by
        rw [s1.2 b (by simpa using hb)]; exact e) fun b hb => by rw [List.mem_singleton.mp hb]; exact gS
      exact (show EP X pins σ Q u _ from ⟨x, H, I2, rx, q⟩)
  | cons x r ih =>
    intro j best s H items c oI hj hjl I0 ic idd hb h0 hm
    obtain ⟨hl, hx⟩ := hm
    have pS := I0.pin (S, seqObj "list" items c) (List.mem_append_right _ (List.mem_append_right _ (.head _)))
    have pI := I0.pin (I, oI) (List.mem_append_right _ (List.mem_append_right _ (.tail _ (.head _))))
    obtain ⟨its, rv, pl, hz⟩ := I0.list (.inl (Rd.of hl))
    have hj2 : j < all.length := by
      have := congrArg List.length hj
      rw [List.length_drop, List.length_cons] at this
      omega
    have hlI : l ≠ I := fun e => by
      have := pI.2.1
      rw [← e, hl] at this; cases this
    have W := Walks.list (prog := X.prog) (w := X.w) (A := A.in1) hh I l hlI its.toArray
    have hsz : its.toArray.size = all.length := by rw [List.size_toArray, ← rv.length]
    have It : Inv X pins σ H s := I0.unpinned
    have gI : FpOk X pins H I := ⟨pI.2.1, fI.2⟩
    have hxj : all[j]? = some x := by
      rw [List.drop_eq_getElem_cons hj2] at hj
      rw [List.getElem?_eq_getElem hj2, (List.cons.inj hj).1]
    have hdr : all.drop (j + 1) = r := by
      rw [List.drop_eq_getElem_cons hj2] at hj
      exact (List.cons.inj hj).2
    refine codeAny_builtin PySem.F.entry_min_loop ?_
    rw [Around.under_plainId PySem.F.plain_min_loop _]
    show wpAny _ A.in1 (seqItems? (.ref S) >>= _) _ _ _
    refine wpAny_bind (wpAny_seqItems pS.1 rfl ?_)
    show wpAny _ A.in1 (tryCatch (pyNext (.ref I)) _ >>= _) _ _ _
    refine wpAny_bind (wpAny_tryCatch (W.item j _ _ _ (by rw [hsz]; exact hj2) ⟨⟨oI, pI.1, ic, idd⟩, pl.isList⟩ fun v h' tk' hP hst' hk' => ?_))
    have hv : its[j]? = some v := by simpa using hP
    obtain ⟨v', hv', rvx⟩ := rv.get hxj
    rw [hv] at hv'
    obtain rfl := Option.some.inj hv'
    obtain ⟨oI', hoI', hoc, hod⟩ := id hst'.1
    have I1 : Inv X pins σ H { s with heap := h', toks := tk' } := It.turnedL (ch := [I]) (fun b o hb e => hk' b o hb e) fun b hb => by rw [List.mem_singleton.mp hb]; exact gI
    have hS1 := hk' S _ (by simpa using hSI) pS.1
    have I2 : Inv X (pins ++ [(S, seqObj "list" items c), (I, oI')]) σ H { s with heap := h', toks := tk' } := I1.pins_of fun p hp => by
      rcases List.mem_append.mp hp with hp | hp
      · exact I1.pin p (List.mem_append_right _ hp)
      · rcases List.mem_cons.mp hp with rfl | hp
        · exact ⟨hS1, pS.2.1, pS.2.2.1, pS.2.2.2.1, fun v z => nomatch z⟩
        · rw [List.mem_singleton.mp hp]
          exact ⟨hoI', pI.2.1, pI.2.2.1, pI.2.2.2.1, fun v z => by rw [hod] at z; cases z⟩
    show wpAny _ A.in1 (tryCatch (holding [v] (call (.ref f) [v])) _ >>= _) _ _ _
    refine wpAny_bind (wpAny_tryCatch (wpAny_holding (wpAny_mono (run_sp (A := A.in1) (vs := [x]) F hr hA I2 (.cons rvx .nil) hx) (fun kv s2 he => ?_) fun _ _ e => e)))
    obtain ⟨k, H2, I3, rk, qk⟩ := he
    have pS3 := I3.pin (S, seqObj "list" items c) (List.mem_append_right _ (List.mem_append_right _ (.head _)))
    have pI3 := I3.pin (I, oI') (List.mem_append_right _ (List.mem_append_right _ (.tail _ (.head _))))
    have gS3 : FpOk X pins H2 S := ⟨pS3.2.1, fS.2⟩
    -- the best one is written anew
    have put : ∀ (s3 : Shared) (H3 : Hp) (best' : Option (V × V)) (a b : Value), Inv X (pins ++ [(S, seqObj "list" items c), (I, oI')]) σ H3 s3 → BestV best' #[a, b] → (best' = none → False) → minO X.K sp l all d Q r best' H3 → ∀ {P : Shared → Prop},
        (∀ s4, codeAny (model X.prog X.w) A (.builtin "min.loop" ⟨[.ref I, .ref f, .ref S], [("default", dv)]⟩) (fun r s' => match r with | .ok (.ret v) => EP X pins σ Q v s' | .ok _ => False | .error e => E e s') s4 → s4 = { s3 with heap := s3.heap.update S (Obj.mapSeq fun _ => #[a, b]) } → P s4) →
        P { s3 with heap := s3.heap.update S (Obj.mapSeq fun _ => #[a, b]) } := by
      intro s3 H3 best' a b J3 hb' hn' hm' P hP
      have qS := J3.pin (S, seqObj "list" items c) (List.mem_append_right _ (List.mem_append_right _ (.head _)))
      have qI := J3.pin (I, oI') (List.mem_append_right _ (List.mem_append_right _ (.tail _ (.head _))))
      have s1 := Heap.SameBut.update s3.heap S (Obj.mapSeq fun _ => #[a, b])
      obtain ⟨c2, hc2⟩ : ∃ c2, (s3.heap.update S (Obj.mapSeq fun _ => #[a, b])).get? S = some (seqObj "list" #[a, b] c2) := ⟨_, get?_update_seq qS.1 fun _ => #[a, b]⟩
      have J4 : Inv X pins σ H3 { s3 with heap := s3.heap.update S (Obj.mapSeq fun _ => #[a, b]) } := (J3.unpinned).turnedL (ch := [S]) (t' := s3.toks) (fun b' o hb e => by
        rw [s1.2 b' (by simpa using hb)]; exact e) fun b' hb => by rw [List.mem_singleton.mp hb]; exact ⟨qS.2.1, fS.2⟩
      have J5 : Inv X (pins ++ [(S, seqObj "list" #[a, b] c2), (I, oI')]) σ H3 { s3 with heap := s3.heap.update S (Obj.mapSeq fun _ => #[a, b]) } := J4.pins_of fun p hp => by
        rcases List.mem_append.mp hp with hp | hp
        · exact J4.pin p (List.mem_append_right _ hp)
        · rcases List.mem_cons.mp hp with rfl | hp
          · exact ⟨hc2, qS.2.1, qS.2.2.1, qS.2.2.2.1, fun v z => nomatch z⟩
          · rw [List.mem_singleton.mp hp]
            exact ⟨(s1.2 I hSI.symm).trans qI.1, qI.2⟩
      exact hP _ (ih (j + 1) best' _ H3 #[a, b] c2 oI' hdr hj2 J5 hoc hod hb' (fun z => (hn' z).elim) hm') rfl
    cases best with
    | none =>
      obtain rfl : items = #[] := hb
      show wpAny _ A.in1 (updateSeq S (fun _ => #[v, kv]) >>= _) _ _ _
      refine wpAny_bind ?_
      refine wpAny_updateSeq pS3.1 rfl ?_
      rw [hname]
      refine put s2 H2 (some (x, k)) v kv I3 ⟨v, kv, rfl, rvx, rk⟩ (fun z => nomatch z) qk fun s4 hs4 _ => ?_
      exact wpAny_pure ⟨plainId_quiet PySem.F.plain_min_loop _, hs4⟩
    | some p =>
      obtain ⟨bx, bk⟩ := p
      obtain ⟨u0, v0, rfl, rb, rbk⟩ := hb
      obtain ⟨b, ⟨t, u, m1, z1, m2, z2, rfl, rfl, ht, hu, rfl⟩, qk⟩ := qk
      obtain rfl : kv = Value.ref t := by cases rk; rfl
      obtain rfl : v0 = Value.ref u := by cases rbk; rfl
      obtain ⟨i1, r1, p1, _⟩ := I3.tuple ht
      obtain ⟨i2, r2, p2, _⟩ := I3.tuple hu
      have two : ∀ {ii : List Value} {m : Int} {z : Str}, Vals [.int m, .str z] ii → ∃ t u, ii.toArray = #[.int m t, .str z u] := fun {ii} {m} {z} rr => by
        obtain ⟨w1, w2, rfl, ⟨t1, e1⟩, ⟨t2, e2⟩⟩ := vals2 rr
        exact ⟨t1, t2, by rw [e1, e2]⟩
      have R := rc_pair (A := A.in1) (s := s2) p1 p2 hr.units0 (two r1) (two r2)
      show wpAny _ A.in1 (tryCatch (holding [v, .ref t] (richCompare .Lt (.ref t) (.ref u) >>= _)) _ >>= _) _ _ _
      refine wpAny_bind (wpAny_tryCatch (wpAny_holding (wpAny_bind (R X.prog X.w _ _ ?_))))
      refine wpAny_bind (wpAny_holding (wpAny_truthy_bool ?_))
      refine wpAny_bind (wpAny_letGo (wpAny_pure ?_))
      cases hlt : ltIS m1 z1 m2 z2 with
      | true =>
        rw [hlt, if_pos rfl] at qk
        simp only [if_true]
        refine wpAny_bind ?_
        refine wpAny_updateSeq pS3.1 rfl (wpAny_bind (wpAny_letGo ?_))
        rw [hname]
        refine put s2 H2 (some (x, .ref t)) v (.ref t) I3 ⟨v, .ref t, rfl, rvx, rfl⟩ (fun z => nomatch z) qk fun s4 hs4 _ => ?_
        exact wpAny_pure ⟨plainId_quiet PySem.F.plain_min_loop _, hs4⟩
      | false =>
        rw [hlt, if_neg Bool.false_ne_true] at qk
        simp only [Bool.false_eq_true, if_false]
        refine wpAny_bind (wpAny_letGo ?_)
        rw [hname]
        exact wpAny_pure ⟨plainId_quiet PySem.F.plain_min_loop _, ih (j + 1) (some (bx, .ref u)) _ H2 _ c oI' hdr hj2 I3 hoc hod ⟨u0, .ref u, rfl, rb, rfl⟩ (fun z => nomatch z) qk⟩
theorem cr_minKD (hc : X.calm = true) (F : FnR X.prog X.w X.K X.mg X.base CX0 n f sp) (hr : Room (n + 1) X.A) : CallRK X (.builtin "min") [Str.ofString "key", Str.ofString "default"] (rMinKD X.K f sp) := by
  have hname : (toString "min" ++ toString ".loop" : String) = "min.loop" := by decide
  intro pins s σ H vs zs us ws Q I r rz h
  obtain ⟨l, xs, d, rfl, rfl, hm⟩ := h
  obtain rfl := Vals.ref1 r
  obtain ⟨w1, dv, rfl, e1, rd⟩ := vals2 rz
  obtain rfl : w1 = Value.ref f := by cases e1; rfl
  have hl := minO_lst hm
  obtain ⟨its, rv, pl, hz⟩ := I.list (.inl (Rd.of hl))
  have hh : X.A.handled = none := I.ok.hd hc
  refine kmk_tree PySem.F.kind_min PySem.F.plain_min PySem.F.entry_min (args_minKD _ _ _) ?_
  show wpAny _ X.A.in1 (Builtin.Builtins.bindParams "min" ["key", "default"] 0 ⟨[], [(Str.ofString "key", .ref f), (Str.ofString "default", dv)]⟩ >>= _) _ _ s
  refine wpAny_bind (wpAny_of_eq (show Builtin.Builtins.bindParams "min" ["key", "default"] 0 ⟨[], [(Str.ofString "key", .ref f), (Str.ofString "default", dv)]⟩ = pure [some (.ref f), some dv] from rfl) ?_)
  refine wpAny_bind (wpAny_pure ?_)
  refine wpAny_bind (wpAny_pyIter_list pl.isList ?_)
  refine wpAny_bind (wpAny_newList ?_ (Nat.zero_le _))
  rw [hname]
  have hS : (s.heap.push { cls := .type "list_iterator", data := .fields #[.ref l, .int 0 0] }).objs.size = s.heap.objs.size + 1 := size_push' ..
  have gI : ((s.heap.push { cls := .type "list_iterator", data := .fields #[.ref l, .int 0 0] }).push (seqObj "list" #[] 0)).get? s.heap.objs.size = some { cls := .type "list_iterator", data := .fields #[.ref l, .int 0 0] } :=
    Heap.get?_push_of_some _ (Heap.get?_push_size _ rfl)
  have gS : ((s.heap.push { cls := .type "list_iterator", data := .fields #[.ref l, .int 0 0] }).push (seqObj "list" #[] 0)).get? (s.heap.push { cls := .type "list_iterator", data := .fields #[.ref l, .int 0 0] }).objs.size = some (seqObj "list" #[] 0) := Heap.get?_push_size _ rfl
  rw [hS] at gS
  have hn0 : H s.heap.objs.size = none := I.hok.fresh (Nat.le_refl _)
  have hn1 : H (s.heap.objs.size + 1) = none := I.hok.fresh (Nat.le_succ _)
  have fI : FpOk X pins H s.heap.objs.size := I.fpOk (Nat.le_refl _) hn0
  have fS : FpOk X pins H (s.heap.objs.size + 1) := I.fpOk (Nat.le_succ _) hn1
  refine wpAny_pure ⟨plainId_quiet PySem.F.plain_min_loop _, ?_⟩
  rw [hS]
  have I1 : Inv X pins σ H { s with heap := (s.heap.push { cls := .type "list_iterator", data := .fields #[.ref l, .int 0 0] }).push (seqObj "list" #[] 0), toks := s.toks } := I.kept fun b ob z => Heap.get?_push_of_some _ (Heap.get?_push_of_some _ z)
  have I2 : Inv X (pins ++ [(s.heap.objs.size + 1, seqObj "list" #[] 0), (s.heap.objs.size, { cls := .type "list_iterator", data := .fields #[.ref l, .int 0 0] })]) σ H { s with heap := (s.heap.push { cls := .type "list_iterator", data := .fields #[.ref l, .int 0 0] }).push (seqObj "list" #[] 0), toks := s.toks } := I1.pins_of fun p hp => by
    rcases List.mem_append.mp hp with hp | hp
    · exact I1.pin p (List.mem_append_right _ hp)
    · rcases List.mem_cons.mp hp with rfl | hp
      · exact ⟨gS, fS.1, fS.2.1, fS.2.2.1, fun v z => nomatch z⟩
      · rw [List.mem_singleton.mp hp]
        exact ⟨gI, fI.1, fI.2.1, fI.2.2.1, fun v z => nomatch z⟩
  exact min_loopO F hr.in1 I.ok.frames hh rd fS fI (Nat.succ_ne_self _) xs 0 none _ H #[] 0 _ (List.drop_zero ..) (Nat.zero_le _) I2 rfl rfl rfl (fun _ => rfl) hm
end
end Xr
set_option Elab.async false
set_option linter.all false
set_option maxRecDepth 100000
set_option maxHeartbeats 4000000
/-! R38: text * int, list * int, beside int * int. -/
namespace Xr
open PySem PySem.Spec PyProof.Rows L2 Xs ClX
theorem foldl_rep (n : Nat) (a : Array Nat) : ∀ acc : Array Nat, ((List.replicate n a).foldl (· ++ ·) acc).toList = acc.toList ++ (List.replicate n a.toList).flatten := by
  induction n with
  | zero => intro acc; simp
  | succ n ih => intro acc; rw [List.replicate_succ, List.foldl_cons, ih, List.replicate_succ, List.flatten_cons]; simp
/-- x * y -/
def hMulS : L2.R2 := fun x y H Q => match x, y with
  | .int i, .int j => CMul i j ∧ Q (.int (i * j)) H
  | .str a, .int k => 0 ≤ k ∧ k ≤ 1000000 ∧ a.length ≤ 1000 ∧ a.length * k.toNat ≤ 1000000 ∧ ∀ z : Str, TL.tl z = (List.replicate k.toNat (TL.tl a)).flatten → Q (.str z) H
  | .ref l, .int k => rRep (.ref l) (.int k) H Q
  | _, _ => False
theorem ho_mulS {X : Cx} : OpR X (binaryOp .Mult) hMulS := by
  intro pins s σ H x y v u Q I rx ry q
  cases x <;> cases y <;> first
    | exact q.elim
    | exact op_mul pins s σ H _ _ v u Q I rx ry ⟨_, _, rfl, rfl, q.1, q.2⟩
    | exact op_rep pins s σ H _ _ v u Q I rx ry q
    | skip
  obtain ⟨h0, h1, ha, hl, q⟩ := q
  rename_i a k
  obtain ⟨t, rfl⟩ := rx
  obtain ⟨t', rfl⟩ := ry
  have sl : 1000000 ≤ sizeLine := by rw [sizeLine_eq]; decide
  refine PySem.P.mul_str ?_ ?_ ?_ ?_
  · rw [decide_eq_false (by omega), decide_eq_false (by omega)]; rfl
  · intro g1 g2
    have h3 : (1000 : Int) ≤ (2 ^ 63 - 1) / k := Int.le_ediv_of_mul_le (by omega) (by omega)
    omega
  · intro g1 g2
    unfold Builtin.Str.tooLong
    simp only [decide_eq_false_iff_not, Nat.not_lt, ge_iff_le, gt_iff_lt, Nat.not_le]
    omega
  · by_cases g1 : k < 1
    · rw [if_pos g1]
      have hk : k = 0 := by omega
      subst hk
      refine ⟨by decide, .str _, H, I.tok _, ⟨_, rfl⟩, q Str.empty ?_⟩
      rfl
    · rw [if_neg g1]
      by_cases g2 : (k == 1 || a.length == 0) = true
      · rw [if_pos g2]
        refine ⟨.str _, H, I, ⟨_, rfl⟩, q a ?_⟩
        rcases Bool.or_eq_true_iff.mp g2 with e | e
        · have : k = 1 := by simpa using e
          subst this
          simp
        · have : a.length = 0 := by simpa using e
          rw [TL.len_tl] at this
          rw [List.length_eq_zero_iff.mp this]
          simp
      · rw [if_neg g2]
        have ez : TL.tl (⟨(List.replicate k.toNat a.cps).foldl (· ++ ·) #[]⟩ : Str) = (List.replicate k.toNat (TL.tl a)).flatten := by
          show ((List.replicate k.toNat a.cps).foldl (· ++ ·) #[]).toList = _
          rw [foldl_rep]
          rfl
        have hz : (⟨(List.replicate k.toNat a.cps).foldl (· ++ ·) #[]⟩ : Str).length ≤ sizeLine := by
          rw [TL.len_tl, ez, List.length_flatten, List.map_replicate, List.sum_replicate_nat, ← TL.len_tl]
          have : k.toNat * a.length ≤ 1000000 := by rw [Nat.mul_comm]; exact hl
          skip
          omega
        exact ⟨hz, .str _, H, I.tok _, ⟨_, rfl⟩, q _ ez⟩
end Xr
set_option Elab.async false
set_option linter.all false
set_option maxRecDepth 100000
set_option maxHeartbeats 0
namespace Hd
open PySem PySem.Spec PyProof.Rows L2
def top (i : Nat) : Stmt := PySem.Challenge.pw_urlplaces_k40_whole_only_the_directory_c.main.body.getD i (.Pass ⟨0, 0, 0, 0⟩)
abbrev s_signs_of : Stmt := top 8
def d_signs_of : He5.DefA := ⟨fun K => He.ga K "signs_of", "signs_of", "signs_of", defArgs s_signs_of, defBody s_signs_of, defScope s_signs_of, [], []⟩
abbrev s_begins_with_octet : Stmt := top 9
def d_begins_with_octet : He5.DefA := ⟨fun K => He.ga K "begins_with_octet", "begins_with_octet", "begins_with_octet", defArgs s_begins_with_octet, defBody s_begins_with_octet, defScope s_begins_with_octet, [], []⟩
abbrev s_stack : Stmt := top 11
def d_stack : He5.DefA := ⟨fun K => He.ga K "stack", "stack", "stack", defArgs s_stack, defBody s_stack, defScope s_stack, [], []⟩
abbrev s_cleaned : Stmt := top 12
def d_cleaned : He5.DefA := ⟨fun K => He.ga K "cleaned", "cleaned", "cleaned", defArgs s_cleaned, defBody s_cleaned, defScope s_cleaned, [], [(("has_authority" : Str), .bl true)]⟩
abbrev s_path_of : Stmt := top 13
def d_path_of : He5.DefA := ⟨fun K => He.ga K "path_of", "path_of", "path_of", defArgs s_path_of, defBody s_path_of, defScope s_path_of, [], []⟩
abbrev s_join : Stmt := top 14
def d_join : He5.DefA := ⟨fun K => He.ga K "join", "join", "join", defArgs s_join, defBody s_join, defScope s_join, [], []⟩
abbrev s_folder : Stmt := top 15
def d_folder : He5.DefA := ⟨fun K => He.ga K "folder", "folder", "folder", defArgs s_folder, defBody s_folder, defScope s_folder, [], []⟩
abbrev s_wrong_place : Stmt := top 21
def d_wrong_place : He5.DefA := ⟨fun K => He.ga K "wrong_place", "wrong_place", "wrong_place", defArgs s_wrong_place, defBody s_wrong_place, defScope s_wrong_place, [], []⟩
abbrev s__wrong_in_scheme : Stmt := top 22
def d__wrong_in_scheme : He5.DefA := ⟨fun K => He.ga K "_wrong_in_scheme", "_wrong_in_scheme", "_wrong_in_scheme", defArgs s__wrong_in_scheme, defBody s__wrong_in_scheme, defScope s__wrong_in_scheme, [], []⟩
abbrev s__wrong_in_port : Stmt := top 23
def d__wrong_in_port : He5.DefA := ⟨fun K => He.ga K "_wrong_in_port", "_wrong_in_port", "_wrong_in_port", defArgs s__wrong_in_port, defBody s__wrong_in_port, defScope s__wrong_in_port, [], []⟩
abbrev s__wrong_in_brackets : Stmt := top 24
def d__wrong_in_brackets : He5.DefA := ⟨fun K => He.ga K "_wrong_in_brackets", "_wrong_in_brackets", "_wrong_in_brackets", defArgs s__wrong_in_brackets, defBody s__wrong_in_brackets, defScope s__wrong_in_brackets, [], []⟩
abbrev s__wrong_among : Stmt := top 25
def d__wrong_among : He5.DefA := ⟨fun K => He.ga K "_wrong_among", "_wrong_among", "_wrong_among", defArgs s__wrong_among, defBody s__wrong_among, defScope s__wrong_among, [], []⟩
abbrev s__first_other : Stmt := top 26
def d__first_other : He5.DefA := ⟨fun K => He.ga K "_first_other", "_first_other", "_first_other", defArgs s__first_other, defBody s__first_other, defScope s__first_other, [], []⟩
abbrev s__is_part : Stmt := top 29
def d__is_part : He5.DefA := ⟨fun K => He.ga K "_is_part", "_is_part", "_is_part", defArgs s__is_part, defBody s__is_part, defScope s__is_part, [], []⟩
abbrev s__is_possible : Stmt := top 30
def d__is_possible : He5.DefA := ⟨fun K => He.ga K "_is_possible", "_is_possible", "_is_possible", defArgs s__is_possible, defBody s__is_possible, defScope s__is_possible, [], []⟩
abbrev s_rank : Stmt := top 32
def d_rank : He5.DefA := ⟨fun K => He.ga K "rank", "rank", "rank", defArgs s_rank, defBody s_rank, defScope s_rank, [], []⟩
abbrev s_relative : Stmt := top 33
def d_relative : He5.DefA := ⟨fun K => He.ga K "relative", "relative", "relative", defArgs s_relative, defBody s_relative, defScope s_relative, [], []⟩
abbrev s__leading : Stmt := top 34
def d__leading : He5.DefA := ⟨fun K => He.ga K "_leading", "_leading", "_leading", defArgs s__leading, defBody s__leading, defScope s__leading, [], []⟩
abbrev s__path_between : Stmt := top 35
def d__path_between : He5.DefA := ⟨fun K => He.ga K "_path_between", "_path_between", "_path_between", defArgs s__path_between, defBody s__path_between, defScope s__path_between, [], []⟩
abbrev s__folders : Stmt := top 36
def d__folders : He5.DefA := ⟨fun K => He.ga K "_folders", "_folders", "_folders", defArgs s__folders, defBody s__folders, defScope s__folders, [], []⟩
abbrev s__law_bag : Stmt := top 38
def d__law_bag : He5.DefA := ⟨fun K => He.ga K "_law_bag", "_law_bag", "_law_bag", defArgs s__law_bag, defBody s__law_bag, defScope s__law_bag, [], []⟩
abbrev s__law_take : Stmt := top 39
def d__law_take : He5.DefA := ⟨fun K => He.ga K "_law_take", "_law_take", "_law_take", defArgs s__law_take, defBody s__law_take, defScope s__law_take, [], []⟩
abbrev s__law_url : Stmt := top 40
def d__law_url : He5.DefA := ⟨fun K => He.ga K "_law_url", "_law_url", "_law_url", defArgs s__law_url, defBody s__law_url, defScope s__law_url, [], []⟩
abbrev s__law_segment : Stmt := top 41
def d__law_segment : He5.DefA := ⟨fun K => He.ga K "_law_segment", "_law_segment", "_law_segment", defArgs s__law_segment, defBody s__law_segment, defScope s__law_segment, [], []⟩
abbrev s__law_rooted : Stmt := top 42
def d__law_rooted : He5.DefA := ⟨fun K => He.ga K "_law_rooted", "_law_rooted", "_law_rooted", defArgs s__law_rooted, defBody s__law_rooted, defScope s__law_rooted, [], []⟩
abbrev s__law_authority : Stmt := top 43
def d__law_authority : He5.DefA := ⟨fun K => He.ga K "_law_authority", "_law_authority", "_law_authority", defArgs s__law_authority, defBody s__law_authority, defScope s__law_authority, [], []⟩
abbrev s__law_tail : Stmt := top 44
def d__law_tail : He5.DefA := ⟨fun K => He.ga K "_law_tail", "_law_tail", "_law_tail", defArgs s__law_tail, defBody s__law_tail, defScope s__law_tail, [], []⟩
abbrev s__law_base : Stmt := top 45
def d__law_base : He5.DefA := ⟨fun K => He.ga K "_law_base", "_law_base", "_law_base", defArgs s__law_base, defBody s__law_base, defScope s__law_base, [], []⟩
abbrev s__law_reference : Stmt := top 46
def d__law_reference : He5.DefA := ⟨fun K => He.ga K "_law_reference", "_law_reference", "_law_reference", defArgs s__law_reference, defBody s__law_reference, defScope s__law_reference, [], []⟩
abbrev s_law : Stmt := top 47
def d_law : He5.DefA := ⟨fun K => He.ga K "law", "law", "law", defArgs s_law, defBody s_law, defScope s_law, [], []⟩
abbrev s_BadPart___init__ : Stmt := inClass (top 1) 0
def d_BadPart___init__ : He5.DefA := ⟨fun K => He.ma K (He.ga K "BadPart") "__init__", "__init__", "BadPart.__init__", defArgs s_BadPart___init__, defBody s_BadPart___init__, defScope s_BadPart___init__, [], []⟩
abbrev s_NoBase___init__ : Stmt := inClass (top 2) 0
def d_NoBase___init__ : He5.DefA := ⟨fun K => He.ma K (He.ga K "NoBase") "__init__", "__init__", "NoBase.__init__", defArgs s_NoBase___init__, defBody s_NoBase___init__, defScope s_NoBase___init__, [], []⟩
abbrev s_Url___init__ : Stmt := inClass (top 28) 1
def d_Url___init__ : He5.DefA := ⟨fun K => He.ma K (He.ga K "Url") "__init__", "__init__", "Url.__init__", defArgs s_Url___init__, defBody s_Url___init__, defScope s_Url___init__, [], []⟩
abbrev s_Url_of : Stmt := inClass (top 28) 2
def d_Url_of : He5.DefA := ⟨fun K => He5.wf K (He.ga K "Url") "classmethod" "of", "of", "Url.of", defArgs s_Url_of, defBody s_Url_of, defScope s_Url_of, [], [(("scheme" : Str), .non), (("user" : Str), .non), (("host" : Str), .non), (("port" : Str), .non), (("path" : Str), .str ""), (("query" : Str), .non), (("fragment" : Str), .non)]⟩
abbrev s_Url_replaced : Stmt := inClass (top 28) 3
def d_Url_replaced : He5.DefA := ⟨fun K => He.ma K (He.ga K "Url") "replaced", "replaced", "Url.replaced", defArgs s_Url_replaced, defBody s_Url_replaced, defScope s_Url_replaced, [], []⟩
abbrev s_Url_scheme : Stmt := inClass (top 28) 4
def d_Url_scheme : He5.DefA := ⟨fun K => He5.wf K (He.ga K "Url") "property" "scheme", "scheme", "Url.scheme", defArgs s_Url_scheme, defBody s_Url_scheme, defScope s_Url_scheme, [], []⟩
abbrev s_Url_user : Stmt := inClass (top 28) 5
def d_Url_user : He5.DefA := ⟨fun K => He5.wf K (He.ga K "Url") "property" "user", "user", "Url.user", defArgs s_Url_user, defBody s_Url_user, defScope s_Url_user, [], []⟩
abbrev s_Url_host : Stmt := inClass (top 28) 6
def d_Url_host : He5.DefA := ⟨fun K => He5.wf K (He.ga K "Url") "property" "host", "host", "Url.host", defArgs s_Url_host, defBody s_Url_host, defScope s_Url_host, [], []⟩
abbrev s_Url_port : Stmt := inClass (top 28) 7
def d_Url_port : He5.DefA := ⟨fun K => He5.wf K (He.ga K "Url") "property" "port", "port", "Url.port", defArgs s_Url_port, defBody s_Url_port, defScope s_Url_port, [], []⟩
abbrev s_Url_path : Stmt := inClass (top 28) 8
def d_Url_path : He5.DefA := ⟨fun K => He5.wf K (He.ga K "Url") "property" "path", "path", "Url.path", defArgs s_Url_path, defBody s_Url_path, defScope s_Url_path, [], []⟩
abbrev s_Url_query : Stmt := inClass (top 28) 9
def d_Url_query : He5.DefA := ⟨fun K => He5.wf K (He.ga K "Url") "property" "query", "query", "Url.query", defArgs s_Url_query, defBody s_Url_query, defScope s_Url_query, [], []⟩
abbrev s_Url_fragment : Stmt := inClass (top 28) 10
def d_Url_fragment : He5.DefA := ⟨fun K => He5.wf K (He.ga K "Url") "property" "fragment", "fragment", "Url.fragment", defArgs s_Url_fragment, defBody s_Url_fragment, defScope s_Url_fragment, [], []⟩
abbrev s_Url_has_authority : Stmt := inClass (top 28) 11
def d_Url_has_authority : He5.DefA := ⟨fun K => He5.wf K (He.ga K "Url") "property" "has_authority", "has_authority", "Url.has_authority", defArgs s_Url_has_authority, defBody s_Url_has_authority, defScope s_Url_has_authority, [], []⟩
abbrev s_Url_is_base : Stmt := inClass (top 28) 12
def d_Url_is_base : He5.DefA := ⟨fun K => He5.wf K (He.ga K "Url") "property" "is_base", "is_base", "Url.is_base", defArgs s_Url_is_base, defBody s_Url_is_base, defScope s_Url_is_base, [], []⟩
abbrev s_Url_is_opaque : Stmt := inClass (top 28) 13
def d_Url_is_opaque : He5.DefA := ⟨fun K => He5.wf K (He.ga K "Url") "property" "is_opaque", "is_opaque", "Url.is_opaque", defArgs s_Url_is_opaque, defBody s_Url_is_opaque, defScope s_Url_is_opaque, [], []⟩
abbrev s_Url___add__ : Stmt := inClass (top 28) 14
def d_Url___add__ : He5.DefA := ⟨fun K => He.ma K (He.ga K "Url") "__add__", "__add__", "Url.__add__", defArgs s_Url___add__, defBody s_Url___add__, defScope s_Url___add__, [], []⟩
abbrev s_Url___eq__ : Stmt := inClass (top 28) 15
def d_Url___eq__ : He5.DefA := ⟨fun K => He.ma K (He.ga K "Url") "__eq__", "__eq__", "Url.__eq__", defArgs s_Url___eq__, defBody s_Url___eq__, defScope s_Url___eq__, [], []⟩
abbrev s_Url___len__ : Stmt := inClass (top 28) 16
def d_Url___len__ : He5.DefA := ⟨fun K => He.ma K (He.ga K "Url") "__len__", "__len__", "Url.__len__", defArgs s_Url___len__, defBody s_Url___len__, defScope s_Url___len__, [], []⟩
abbrev s_Url___repr__ : Stmt := inClass (top 28) 17
def d_Url___repr__ : He5.DefA := ⟨fun K => He.ma K (He.ga K "Url") "__repr__", "__repr__", "Url.__repr__", defArgs s_Url___repr__, defBody s_Url___repr__, defScope s_Url___repr__, [], []⟩
abbrev s_Url___str__ : Stmt := inClass (top 28) 18
def d_Url___str__ : He5.DefA := ⟨fun K => He.ma K (He.ga K "Url") "__str__", "__str__", "Url.__str__", defArgs s_Url___str__, defBody s_Url___str__, defScope s_Url___str__, [], []⟩
def fn0 : List He5.DefA := [d_signs_of, d_begins_with_octet, d_stack, d_cleaned, d_path_of, d_join, d_folder, d_wrong_place, d__wrong_in_scheme, d__wrong_in_port, d__wrong_in_brackets, d__wrong_among, d__first_other, d__is_part, d__is_possible, d_rank, d_relative, d__leading, d__path_between, d__folders, d__law_bag, d__law_take, d__law_url, d__law_segment, d__law_rooted, d__law_authority, d__law_tail, d__law_base, d__law_reference, d_law]
def fn1 : List He5.DefA := [d_BadPart___init__, d_NoBase___init__, d_Url___init__, d_Url_of, d_Url_replaced, d_Url_scheme, d_Url_user, d_Url_host, d_Url_port, d_Url_path, d_Url_query, d_Url_fragment, d_Url_has_authority, d_Url_is_base, d_Url_is_opaque, d_Url___add__, d_Url___eq__, d_Url___len__, d_Url___repr__, d_Url___str__]
def fn : List He5.DefA := fn0 ++ fn1
def fa0 : List He.Fa := [.glo "signs_of", .glo "begins_with_octet", .glo "stack", .glo "cleaned", .glo "path_of", .glo "join", .glo "folder", .glo "wrong_place", .glo "_wrong_in_scheme", .glo "_wrong_in_port", .glo "_wrong_in_brackets", .glo "_wrong_among", .glo "_first_other", .glo "_is_part", .glo "_is_possible", .glo "rank", .glo "relative", .glo "_leading", .glo "_path_between", .glo "_folders", .glo "_law_bag", .glo "_law_take", .glo "_law_url", .glo "_law_segment", .glo "_law_rooted", .glo "_law_authority", .glo "_law_tail", .glo "_law_base", .glo "_law_reference", .glo "law"]
def fa1 : List He.Fa := [.glo "BadPart", .glo "NoBase", .glo "Url", .free "NotImplemented", .free "ValueError", .free "abs", .free "classmethod", .free "dict", .free "enumerate", .free "int", .free "isinstance", .free "len", .free "max", .free "min", .free "property", .free "range", .free "str", .free "zip", .str "PLAIN" "-.0123456789ABCDEFGHIJKLMNOPQRSTUVWXYZ_abcdefghijklmnopqrstuvwxyz~", .str "INNER" "!$&'()*+,;=", .str "HEXADECIMAL" "0123456789ABCDEFabcdef", .glo "MORE", .str "LETTERS" "ABCDEFGHIJKLMNOPQRSTUVWXYZabcdefghijklmnopqrstuvwxyz", .str "DIGITS" "0123456789", .int "PORT_DIGITS" 5, .int "GREATEST_PORT" 65535, .noat "BadPart" "name", .noat "Url" "_parts", .cls "Url", .mkr "Url"]
def fa2 : List He.Fa := [.meth "Url" "replaced", .exm "BadPart" "BadPart" true, .exm "BadPart" "NoBase" false, .exm "NoBase" "BadPart" false, .exm "NoBase" "NoBase" true]
def fa : List He.Fa := fa0 ++ fa1 ++ fa2
def ts : List He.Tab := [(fun K => He.ga K "MORE", [("user" : Str), ("host" : Str), ("path" : Str), ("query" : Str), ("fragment" : Str)])]
def ex0 : List (PySem.W.Frag → Bool) := [(fun K => He.valsB K (He.ga K "MORE") [(("user" : Str), .str ":"), (("host" : Str), .str ""), (("path" : Str), .str ":@/"), (("query" : Str), .str ":@/?"), (("fragment" : Str), .str ":@/?")]), (fun K => Hc.oexB K (He.ga K "BadPart")), (fun K => xfB K (He.ga K "BadPart")), (fun K => Hc.iniB K (He.ga K "BadPart") (He.ma K (He.ga K "BadPart") "__init__")), (fun K => Hc.oexB K (He.ga K "NoBase")), (fun K => xfB K (He.ga K "NoBase")), (fun K => Hc.iniB K (He.ga K "NoBase") (He.ma K (He.ga K "NoBase") "__init__")), (fun K => Hc.readB K (He.ga K "Url")), (fun K => Hc.cvalB K (He.ga K "Url") "PARTS"), (fun K => Hc.tupSB K (Hc.cvalP K (He.ga K "Url") "PARTS") [("scheme" : Str), ("user" : Str), ("host" : Str), ("port" : Str), ("path" : Str), ("query" : Str), ("fragment" : Str)]), (fun K => Hc.cmB K (He.ga K "Url") "of" (He5.wf K (He.ga K "Url") "classmethod" "of")), (fun K => Hc.propB K (He.ga K "Url") "scheme" (He5.wf K (He.ga K "Url") "property" "scheme")), (fun K => Hc.propB K (He.ga K "Url") "user" (He5.wf K (He.ga K "Url") "property" "user")), (fun K => Hc.propB K (He.ga K "Url") "host" (He5.wf K (He.ga K "Url") "property" "host")), (fun K => Hc.propB K (He.ga K "Url") "port" (He5.wf K (He.ga K "Url") "property" "port")), (fun K => Hc.propB K (He.ga K "Url") "path" (He5.wf K (He.ga K "Url") "property" "path")), (fun K => Hc.propB K (He.ga K "Url") "query" (He5.wf K (He.ga K "Url") "property" "query")), (fun K => Hc.propB K (He.ga K "Url") "fragment" (He5.wf K (He.ga K "Url") "property" "fragment")), (fun K => Hc.propB K (He.ga K "Url") "has_authority" (He5.wf K (He.ga K "Url") "property" "has_authority")), (fun K => Hc.propB K (He.ga K "Url") "is_base" (He5.wf K (He.ga K "Url") "property" "is_base")), (fun K => Hc.propB K (He.ga K "Url") "is_opaque" (He5.wf K (He.ga K "Url") "property" "is_opaque")), (fun K => PySem.W.selfFirst K (He.ga K "Url")), (fun K => Hc.spcB K (He.ga K "Url") "__add__" (He.ma K (He.ga K "Url") "__add__")), (fun K => Xr.eqcB K (He.ga K "Url") (He.ma K (He.ga K "Url") "__eq__")), (fun K => Hc.spcB K (He.ga K "Url") "__eq__" (He.ma K (He.ga K "Url") "__eq__")), (fun K => Hc.spcB K (He.ga K "Url") "__len__" (He.ma K (He.ga K "Url") "__len__")), (fun K => Hc.spcB K (He.ga K "Url") "__repr__" (He.ma K (He.ga K "Url") "__repr__")), (fun K => Hc.spcB K (He.ga K "Url") "__str__" (He.ma K (He.ga K "Url") "__str__"))]
def ex : List (PySem.W.Frag → Bool) := ex0
def loose0 : List PySem.Str := [("BadPart" : Str), ("NoBase" : Str), ("PLAIN" : Str), ("INNER" : Str), ("HEXADECIMAL" : Str), ("MORE" : Str), ("signs_of" : Str), ("begins_with_octet" : Str), ("stack" : Str), ("cleaned" : Str), ("path_of" : Str), ("join" : Str), ("folder" : Str), ("LETTERS" : Str), ("DIGITS" : Str), ("PORT_DIGITS" : Str), ("GREATEST_PORT" : Str), ("wrong_place" : Str), ("_wrong_in_scheme" : Str), ("_wrong_in_port" : Str), ("_wrong_in_brackets" : Str), ("_wrong_among" : Str), ("_first_other" : Str), ("Url" : Str), ("_is_part" : Str), ("_is_possible" : Str), ("rank" : Str), ("relative" : Str), ("_leading" : Str), ("_path_between" : Str)]
def loose1 : List PySem.Str := [("_folders" : Str), ("_law_bag" : Str), ("_law_take" : Str), ("_law_url" : Str), ("_law_segment" : Str), ("_law_rooted" : Str), ("_law_authority" : Str), ("_law_tail" : Str), ("_law_base" : Str), ("_law_reference" : Str)]
def loose : List PySem.Str := loose0 ++ loose1
abbrev R : PySem.W.OpenRow := PySem.W.OpenLaw.row PySem.Challenge.rw_urlplaces_k40_whole_only_the_directory_c
abbrev hk : PySem.W.Hook := Xb.hook 650 fa fn ts ex
def ob (s : PySem.W.SharedT) : Xb.Al := Xb.obsG 650 fa fn ts ex (HandSHeadRun.getT s)
theorem ob_eq (s : PySem.W.SharedT) : ob s = hk.obs s.abs := Xb.obsG_eq (HandSHeadRun.getT_eq s)
theorem run (w : World) : HandSHeadRun.RunEq R (PySem.W.view R.prog [47]) hk ob 8000 loose w :=
  PySem.W.byRow2 "special-get-raises" (P := fun w => HandSHeadRun.RunEq R (PySem.W.view R.prog [47]) hk ob 8000 loose w) (fun w os => by kernel_rfl) (fun w os => by kernel_rfl) w
end Hd
set_option Elab.async false
set_option linter.all false
set_option maxRecDepth 100000
set_option maxHeartbeats 4000000
namespace Fx
open PySem PySem.Spec PyProof.Rows L2 ClX Hd Xs
structure Ct (w : World) (K : PySem.W.Frag) (mg : Str → Option Value) : Prop where
  says : Xb.Says fa fn ts ex w K
  gl : ∃ h : Heap, K.In h ∧ h.Ns mainGlobals mg
section
variable {w : World} {K : PySem.W.Frag} {mg : Str → Option Value}
theorem g_signs_of (c : Ct w K mg) : mg "signs_of" = some (.ref (He.ga K "signs_of")) := by
  obtain ⟨h, X, G⟩ := c.gl
  exact He.glo_ok X G (c.says.fact 0 (f := .glo "signs_of") rfl)
theorem g_begins_with_octet (c : Ct w K mg) : mg "begins_with_octet" = some (.ref (He.ga K "begins_with_octet")) := by
  obtain ⟨h, X, G⟩ := c.gl
  exact He.glo_ok X G (c.says.fact 1 (f := .glo "begins_with_octet") rfl)
theorem g_stack (c : Ct w K mg) : mg "stack" = some (.ref (He.ga K "stack")) := by
  obtain ⟨h, X, G⟩ := c.gl
  exact He.glo_ok X G (c.says.fact 2 (f := .glo "stack") rfl)
theorem g_cleaned (c : Ct w K mg) : mg "cleaned" = some (.ref (He.ga K "cleaned")) := by
  obtain ⟨h, X, G⟩ := c.gl
  exact He.glo_ok X G (c.says.fact 3 (f := .glo "cleaned") rfl)
theorem g_path_of (c : Ct w K mg) : mg "path_of" = some (.ref (He.ga K "path_of")) := by
  obtain ⟨h, X, G⟩ := c.gl
  exact He.glo_ok X G (c.says.fact 4 (f := .glo "path_of") rfl)
theorem g_join (c : Ct w K mg) : mg "join" = some (.ref (He.ga K "join")) := by
  obtain ⟨h, X, G⟩ := c.gl
  exact He.glo_ok X G (c.says.fact 5 (f := .glo "join") rfl)
theorem g_folder (c : Ct w K mg) : mg "folder" = some (.ref (He.ga K "folder")) := by
  obtain ⟨h, X, G⟩ := c.gl
  exact He.glo_ok X G (c.says.fact 6 (f := .glo "folder") rfl)
theorem g_wrong_place (c : Ct w K mg) : mg "wrong_place" = some (.ref (He.ga K "wrong_place")) := by
  obtain ⟨h, X, G⟩ := c.gl
  exact He.glo_ok X G (c.says.fact 7 (f := .glo "wrong_place") rfl)
theorem g__wrong_in_scheme (c : Ct w K mg) : mg "_wrong_in_scheme" = some (.ref (He.ga K "_wrong_in_scheme")) := by
  obtain ⟨h, X, G⟩ := c.gl
  exact He.glo_ok X G (c.says.fact 8 (f := .glo "_wrong_in_scheme") rfl)
theorem g__wrong_in_port (c : Ct w K mg) : mg "_wrong_in_port" = some (.ref (He.ga K "_wrong_in_port")) := by
  obtain ⟨h, X, G⟩ := c.gl
  exact He.glo_ok X G (c.says.fact 9 (f := .glo "_wrong_in_port") rfl)
theorem g__wrong_in_brackets (c : Ct w K mg) : mg "_wrong_in_brackets" = some (.ref (He.ga K "_wrong_in_brackets")) := by
  obtain ⟨h, X, G⟩ := c.gl
  exact He.glo_ok X G (c.says.fact 10 (f := .glo "_wrong_in_brackets") rfl)
theorem g__wrong_among (c : Ct w K mg) : mg "_wrong_among" = some (.ref (He.ga K "_wrong_among")) := by
  obtain ⟨h, X, G⟩ := c.gl
  exact He.glo_ok X G (c.says.fact 11 (f := .glo "_wrong_among") rfl)
theorem g__first_other (c : Ct w K mg) : mg "_first_other" = some (.ref (He.ga K "_first_other")) := by
  obtain ⟨h, X, G⟩ := c.gl
  exact He.glo_ok X G (c.says.fact 12 (f := .glo "_first_other") rfl)
theorem g__is_part (c : Ct w K mg) : mg "_is_part" = some (.ref (He.ga K "_is_part")) := by
  obtain ⟨h, X, G⟩ := c.gl
  exact He.glo_ok X G (c.says.fact 13 (f := .glo "_is_part") rfl)
theorem g__is_possible (c : Ct w K mg) : mg "_is_possible" = some (.ref (He.ga K "_is_possible")) := by
  obtain ⟨h, X, G⟩ := c.gl
  exact He.glo_ok X G (c.says.fact 14 (f := .glo "_is_possible") rfl)
theorem g_rank (c : Ct w K mg) : mg "rank" = some (.ref (He.ga K "rank")) := by
  obtain ⟨h, X, G⟩ := c.gl
  exact He.glo_ok X G (c.says.fact 15 (f := .glo "rank") rfl)
theorem g_relative (c : Ct w K mg) : mg "relative" = some (.ref (He.ga K "relative")) := by
  obtain ⟨h, X, G⟩ := c.gl
  exact He.glo_ok X G (c.says.fact 16 (f := .glo "relative") rfl)
theorem g__leading (c : Ct w K mg) : mg "_leading" = some (.ref (He.ga K "_leading")) := by
  obtain ⟨h, X, G⟩ := c.gl
  exact He.glo_ok X G (c.says.fact 17 (f := .glo "_leading") rfl)
theorem g__path_between (c : Ct w K mg) : mg "_path_between" = some (.ref (He.ga K "_path_between")) := by
  obtain ⟨h, X, G⟩ := c.gl
  exact He.glo_ok X G (c.says.fact 18 (f := .glo "_path_between") rfl)
theorem g__folders (c : Ct w K mg) : mg "_folders" = some (.ref (He.ga K "_folders")) := by
  obtain ⟨h, X, G⟩ := c.gl
  exact He.glo_ok X G (c.says.fact 19 (f := .glo "_folders") rfl)
theorem g__law_bag (c : Ct w K mg) : mg "_law_bag" = some (.ref (He.ga K "_law_bag")) := by
  obtain ⟨h, X, G⟩ := c.gl
  exact He.glo_ok X G (c.says.fact 20 (f := .glo "_law_bag") rfl)
theorem g__law_take (c : Ct w K mg) : mg "_law_take" = some (.ref (He.ga K "_law_take")) := by
  obtain ⟨h, X, G⟩ := c.gl
  exact He.glo_ok X G (c.says.fact 21 (f := .glo "_law_take") rfl)
theorem g__law_url (c : Ct w K mg) : mg "_law_url" = some (.ref (He.ga K "_law_url")) := by
  obtain ⟨h, X, G⟩ := c.gl
  exact He.glo_ok X G (c.says.fact 22 (f := .glo "_law_url") rfl)
theorem g__law_segment (c : Ct w K mg) : mg "_law_segment" = some (.ref (He.ga K "_law_segment")) := by
  obtain ⟨h, X, G⟩ := c.gl
  exact He.glo_ok X G (c.says.fact 23 (f := .glo "_law_segment") rfl)
theorem g__law_rooted (c : Ct w K mg) : mg "_law_rooted" = some (.ref (He.ga K "_law_rooted")) := by
  obtain ⟨h, X, G⟩ := c.gl
  exact He.glo_ok X G (c.says.fact 24 (f := .glo "_law_rooted") rfl)
theorem g__law_authority (c : Ct w K mg) : mg "_law_authority" = some (.ref (He.ga K "_law_authority")) := by
  obtain ⟨h, X, G⟩ := c.gl
  exact He.glo_ok X G (c.says.fact 25 (f := .glo "_law_authority") rfl)
theorem g__law_tail (c : Ct w K mg) : mg "_law_tail" = some (.ref (He.ga K "_law_tail")) := by
  obtain ⟨h, X, G⟩ := c.gl
  exact He.glo_ok X G (c.says.fact 26 (f := .glo "_law_tail") rfl)
theorem g__law_base (c : Ct w K mg) : mg "_law_base" = some (.ref (He.ga K "_law_base")) := by
  obtain ⟨h, X, G⟩ := c.gl
  exact He.glo_ok X G (c.says.fact 27 (f := .glo "_law_base") rfl)
theorem g__law_reference (c : Ct w K mg) : mg "_law_reference" = some (.ref (He.ga K "_law_reference")) := by
  obtain ⟨h, X, G⟩ := c.gl
  exact He.glo_ok X G (c.says.fact 28 (f := .glo "_law_reference") rfl)
theorem g_law (c : Ct w K mg) : mg "law" = some (.ref (He.ga K "law")) := by
  obtain ⟨h, X, G⟩ := c.gl
  exact He.glo_ok X G (c.says.fact 29 (f := .glo "law") rfl)
theorem g_BadPart (c : Ct w K mg) : mg "BadPart" = some (.ref (He.ga K "BadPart")) := by
  obtain ⟨h, X, G⟩ := c.gl
  exact He.glo_ok X G (c.says.fact 30 (f := .glo "BadPart") rfl)
theorem g_NoBase (c : Ct w K mg) : mg "NoBase" = some (.ref (He.ga K "NoBase")) := by
  obtain ⟨h, X, G⟩ := c.gl
  exact He.glo_ok X G (c.says.fact 31 (f := .glo "NoBase") rfl)
theorem g_Url (c : Ct w K mg) : mg "Url" = some (.ref (He.ga K "Url")) := by
  obtain ⟨h, X, G⟩ := c.gl
  exact He.glo_ok X G (c.says.fact 32 (f := .glo "Url") rfl)
theorem b_NotImplemented (c : Ct w K mg) : mg "NotImplemented" = none := by
  obtain ⟨h, X, G⟩ := c.gl
  exact He.free_ok X G (c.says.fact 33 (f := .free "NotImplemented") rfl)
theorem b_ValueError (c : Ct w K mg) : mg "ValueError" = none := by
  obtain ⟨h, X, G⟩ := c.gl
  exact He.free_ok X G (c.says.fact 34 (f := .free "ValueError") rfl)
theorem b_abs (c : Ct w K mg) : mg "abs" = none := by
  obtain ⟨h, X, G⟩ := c.gl
  exact He.free_ok X G (c.says.fact 35 (f := .free "abs") rfl)
theorem b_classmethod (c : Ct w K mg) : mg "classmethod" = none := by
  obtain ⟨h, X, G⟩ := c.gl
  exact He.free_ok X G (c.says.fact 36 (f := .free "classmethod") rfl)
theorem b_dict (c : Ct w K mg) : mg "dict" = none := by
  obtain ⟨h, X, G⟩ := c.gl
  exact He.free_ok X G (c.says.fact 37 (f := .free "dict") rfl)
theorem b_enumerate (c : Ct w K mg) : mg "enumerate" = none := by
  obtain ⟨h, X, G⟩ := c.gl
  exact He.free_ok X G (c.says.fact 38 (f := .free "enumerate") rfl)
theorem b_int (c : Ct w K mg) : mg "int" = none := by
  obtain ⟨h, X, G⟩ := c.gl
  exact He.free_ok X G (c.says.fact 39 (f := .free "int") rfl)
theorem b_isinstance (c : Ct w K mg) : mg "isinstance" = none := by
  obtain ⟨h, X, G⟩ := c.gl
  exact He.free_ok X G (c.says.fact 40 (f := .free "isinstance") rfl)
theorem b_len (c : Ct w K mg) : mg "len" = none := by
  obtain ⟨h, X, G⟩ := c.gl
  exact He.free_ok X G (c.says.fact 41 (f := .free "len") rfl)
theorem b_max (c : Ct w K mg) : mg "max" = none := by
  obtain ⟨h, X, G⟩ := c.gl
  exact He.free_ok X G (c.says.fact 42 (f := .free "max") rfl)
theorem b_min (c : Ct w K mg) : mg "min" = none := by
  obtain ⟨h, X, G⟩ := c.gl
  exact He.free_ok X G (c.says.fact 43 (f := .free "min") rfl)
theorem b_property (c : Ct w K mg) : mg "property" = none := by
  obtain ⟨h, X, G⟩ := c.gl
  exact He.free_ok X G (c.says.fact 44 (f := .free "property") rfl)
theorem b_range (c : Ct w K mg) : mg "range" = none := by
  obtain ⟨h, X, G⟩ := c.gl
  exact He.free_ok X G (c.says.fact 45 (f := .free "range") rfl)
theorem b_str (c : Ct w K mg) : mg "str" = none := by
  obtain ⟨h, X, G⟩ := c.gl
  exact He.free_ok X G (c.says.fact 46 (f := .free "str") rfl)
theorem b_zip (c : Ct w K mg) : mg "zip" = none := by
  obtain ⟨h, X, G⟩ := c.gl
  exact He.free_ok X G (c.says.fact 47 (f := .free "zip") rfl)
theorem c_PLAIN (c : Ct w K mg) : ∃ u, mg "PLAIN" = some u ∧ RelV (.str "-.0123456789ABCDEFGHIJKLMNOPQRSTUVWXYZ_abcdefghijklmnopqrstuvwxyz~") u := by
  obtain ⟨h, X, G⟩ := c.gl
  obtain ⟨t, e⟩ := He.str_ok X G (c.says.fact 48 (f := .str "PLAIN" "-.0123456789ABCDEFGHIJKLMNOPQRSTUVWXYZ_abcdefghijklmnopqrstuvwxyz~") rfl)
  exact ⟨_, e, ⟨_, rfl⟩⟩
theorem c_INNER (c : Ct w K mg) : ∃ u, mg "INNER" = some u ∧ RelV (.str "!$&'()*+,;=") u := by
  obtain ⟨h, X, G⟩ := c.gl
  obtain ⟨t, e⟩ := He.str_ok X G (c.says.fact 49 (f := .str "INNER" "!$&'()*+,;=") rfl)
  exact ⟨_, e, ⟨_, rfl⟩⟩
theorem c_HEXADECIMAL (c : Ct w K mg) : ∃ u, mg "HEXADECIMAL" = some u ∧ RelV (.str "0123456789ABCDEFabcdef") u := by
  obtain ⟨h, X, G⟩ := c.gl
  obtain ⟨t, e⟩ := He.str_ok X G (c.says.fact 50 (f := .str "HEXADECIMAL" "0123456789ABCDEFabcdef") rfl)
  exact ⟨_, e, ⟨_, rfl⟩⟩
theorem g_MORE (c : Ct w K mg) : mg "MORE" = some (.ref (He.ga K "MORE")) := by
  obtain ⟨h, X, G⟩ := c.gl
  exact He.glo_ok X G (c.says.fact 51 (f := .glo "MORE") rfl)
theorem c_LETTERS (c : Ct w K mg) : ∃ u, mg "LETTERS" = some u ∧ RelV (.str "ABCDEFGHIJKLMNOPQRSTUVWXYZabcdefghijklmnopqrstuvwxyz") u := by
  obtain ⟨h, X, G⟩ := c.gl
  obtain ⟨t, e⟩ := He.str_ok X G (c.says.fact 52 (f := .str "LETTERS" "ABCDEFGHIJKLMNOPQRSTUVWXYZabcdefghijklmnopqrstuvwxyz") rfl)
  exact ⟨_, e, ⟨_, rfl⟩⟩
theorem c_DIGITS (c : Ct w K mg) : ∃ u, mg "DIGITS" = some u ∧ RelV (.str "0123456789") u := by
  obtain ⟨h, X, G⟩ := c.gl
  obtain ⟨t, e⟩ := He.str_ok X G (c.says.fact 53 (f := .str "DIGITS" "0123456789") rfl)
  exact ⟨_, e, ⟨_, rfl⟩⟩
theorem c_PORT_DIGITS (c : Ct w K mg) : ∃ u, mg "PORT_DIGITS" = some u ∧ RelV (.int 5) u := by
  obtain ⟨h, X, G⟩ := c.gl
  obtain ⟨t, e⟩ := He.int_ok X G (c.says.fact 54 (f := .int "PORT_DIGITS" 5) rfl)
  exact ⟨_, e, ⟨_, rfl⟩⟩
theorem c_GREATEST_PORT (c : Ct w K mg) : ∃ u, mg "GREATEST_PORT" = some u ∧ RelV (.int 65535) u := by
  obtain ⟨h, X, G⟩ := c.gl
  obtain ⟨t, e⟩ := He.int_ok X G (c.says.fact 55 (f := .int "GREATEST_PORT" 65535) rfl)
  exact ⟨_, e, ⟨_, rfl⟩⟩
theorem noat_BadPart_name (c : Ct w K mg) : NoAttr K (He.ga K "BadPart") "name" := He.noat_ok (c.says.fact 56 (f := .noat "BadPart" "name") rfl)
theorem noat_Url__parts (c : Ct w K mg) : NoAttr K (He.ga K "Url") "_parts" := He.noat_ok (c.says.fact 57 (f := .noat "Url" "_parts") rfl)
theorem cls_Url (c : Ct w K mg) : Cls K (He.ga K "Url") := He.cls_ok (c.says.fact 58 (f := .cls "Url") rfl)
theorem mkr_Url (c : Ct w K mg) : Mk K (He.ga K "Url") (He.ma K (He.ga K "Url") "__init__") := He.mkr_ok (c.says.fact 59 (f := .mkr "Url") rfl)
theorem meth_Url_replaced (c : Ct w K mg) : Meth K (He.ga K "Url") "replaced" (He.ma K (He.ga K "Url") "replaced") := He.meth_ok (c.says.fact 60 (f := .meth "Url" "replaced") rfl)
theorem exm_BadPart_BadPart (c : Ct w K mg) : PySem.W.exmOne K (.ref (He.ga K "BadPart")) (.ref (He.ga K "BadPart")) = some true := He.exm_ok (c.says.fact 61 (f := .exm "BadPart" "BadPart" true) rfl)
theorem exm_BadPart_NoBase (c : Ct w K mg) : PySem.W.exmOne K (.ref (He.ga K "BadPart")) (.ref (He.ga K "NoBase")) = some false := He.exm_ok (c.says.fact 62 (f := .exm "BadPart" "NoBase" false) rfl)
theorem exm_NoBase_BadPart (c : Ct w K mg) : PySem.W.exmOne K (.ref (He.ga K "NoBase")) (.ref (He.ga K "BadPart")) = some false := He.exm_ok (c.says.fact 63 (f := .exm "NoBase" "BadPart" false) rfl)
theorem exm_NoBase_NoBase (c : Ct w K mg) : PySem.W.exmOne K (.ref (He.ga K "NoBase")) (.ref (He.ga K "NoBase")) = some true := He.exm_ok (c.says.fact 64 (f := .exm "NoBase" "NoBase" true) rfl)
theorem F_signs_of (c : Ct w K mg) : ∃ fd, FunD K d_signs_of.name d_signs_of.qual d_signs_of.params d_signs_of.body d_signs_of.scope (d_signs_of.dvs K) (d_signs_of.kws K) (d_signs_of.at_ K) fd := c.says.def_ 0 (d := d_signs_of) rfl
theorem k_signs_of (c : Ct w K mg) : PySem.W.keepIn K (.ref (d_signs_of.at_ K)) = true := (F_signs_of c).choose_spec.kp
theorem sc_signs_of : FnScope ["name"] ["name"] (defScope s_signs_of) := ⟨rfl, rfl, rfl, by decide +kernel, rfl, by decide +kernel, by decide +kernel⟩
theorem F_begins_with_octet (c : Ct w K mg) : ∃ fd, FunD K d_begins_with_octet.name d_begins_with_octet.qual d_begins_with_octet.params d_begins_with_octet.body d_begins_with_octet.scope (d_begins_with_octet.dvs K) (d_begins_with_octet.kws K) (d_begins_with_octet.at_ K) fd := c.says.def_ 1 (d := d_begins_with_octet) rfl
theorem k_begins_with_octet (c : Ct w K mg) : PySem.W.keepIn K (.ref (d_begins_with_octet.at_ K)) = true := (F_begins_with_octet c).choose_spec.kp
theorem sc_begins_with_octet : FnScope ["text"] ["text"] (defScope s_begins_with_octet) := ⟨rfl, rfl, rfl, by decide +kernel, rfl, by decide +kernel, by decide +kernel⟩
theorem F_stack (c : Ct w K mg) : ∃ fd, FunD K d_stack.name d_stack.qual d_stack.params d_stack.body d_stack.scope (d_stack.dvs K) (d_stack.kws K) (d_stack.at_ K) fd := c.says.def_ 2 (d := d_stack) rfl
theorem k_stack (c : Ct w K mg) : PySem.W.keepIn K (.ref (d_stack.at_ K)) = true := (F_stack c).choose_spec.kp
theorem sc_stack : FnScope ["path", "segments", "kept", "segment"] ["path"] (defScope s_stack) := ⟨rfl, rfl, rfl, by decide +kernel, rfl, by decide +kernel, by decide +kernel⟩
theorem F_cleaned (c : Ct w K mg) : ∃ fd, FunD K d_cleaned.name d_cleaned.qual d_cleaned.params d_cleaned.body d_cleaned.scope (d_cleaned.dvs K) (d_cleaned.kws K) (d_cleaned.at_ K) fd := c.says.def_ 3 (d := d_cleaned) rfl
theorem k_cleaned (c : Ct w K mg) : PySem.W.keepIn K (.ref (d_cleaned.at_ K)) = true := (F_cleaned c).choose_spec.kp
theorem sc_cleaned : FnScope ["path", "has_authority"] ["path", "has_authority"] (defScope s_cleaned) := ⟨rfl, rfl, rfl, by decide +kernel, rfl, by decide +kernel, by decide +kernel⟩
theorem F_path_of (c : Ct w K mg) : ∃ fd, FunD K d_path_of.name d_path_of.qual d_path_of.params d_path_of.body d_path_of.scope (d_path_of.dvs K) (d_path_of.kws K) (d_path_of.at_ K) fd := c.says.def_ 4 (d := d_path_of) rfl
theorem k_path_of (c : Ct w K mg) : PySem.W.keepIn K (.ref (d_path_of.at_ K)) = true := (F_path_of c).choose_spec.kp
theorem sc_path_of : FnScope ["segments", "has_authority", "path"] ["segments", "has_authority"] (defScope s_path_of) := ⟨rfl, rfl, rfl, by decide +kernel, rfl, by decide +kernel, by decide +kernel⟩
theorem F_join (c : Ct w K mg) : ∃ fd, FunD K d_join.name d_join.qual d_join.params d_join.body d_join.scope (d_join.dvs K) (d_join.kws K) (d_join.at_ K) fd := c.says.def_ 5 (d := d_join) rfl
theorem k_join (c : Ct w K mg) : PySem.W.keepIn K (.ref (d_join.at_ K)) = true := (F_join c).choose_spec.kp
theorem sc_join : FnScope ["base", "reference", "path", "query"] ["base", "reference"] (defScope s_join) := ⟨rfl, rfl, rfl, by decide +kernel, rfl, by decide +kernel, by decide +kernel⟩
theorem F_folder (c : Ct w K mg) : ∃ fd, FunD K d_folder.name d_folder.qual d_folder.params d_folder.body d_folder.scope (d_folder.dvs K) (d_folder.kws K) (d_folder.at_ K) fd := c.says.def_ 6 (d := d_folder) rfl
theorem k_folder (c : Ct w K mg) : PySem.W.keepIn K (.ref (d_folder.at_ K)) = true := (F_folder c).choose_spec.kp
theorem sc_folder : FnScope ["path"] ["path"] (defScope s_folder) := ⟨rfl, rfl, rfl, by decide +kernel, rfl, by decide +kernel, by decide +kernel⟩
theorem F_wrong_place (c : Ct w K mg) : ∃ fd, FunD K d_wrong_place.name d_wrong_place.qual d_wrong_place.params d_wrong_place.body d_wrong_place.scope (d_wrong_place.dvs K) (d_wrong_place.kws K) (d_wrong_place.at_ K) fd := c.says.def_ 7 (d := d_wrong_place) rfl
theorem k_wrong_place (c : Ct w K mg) : PySem.W.keepIn K (.ref (d_wrong_place.at_ K)) = true := (F_wrong_place c).choose_spec.kp
theorem sc_wrong_place : FnScope ["name", "text"] ["name", "text"] (defScope s_wrong_place) := ⟨rfl, rfl, rfl, by decide +kernel, rfl, by decide +kernel, by decide +kernel⟩
theorem F__wrong_in_scheme (c : Ct w K mg) : ∃ fd, FunD K d__wrong_in_scheme.name d__wrong_in_scheme.qual d__wrong_in_scheme.params d__wrong_in_scheme.body d__wrong_in_scheme.scope (d__wrong_in_scheme.dvs K) (d__wrong_in_scheme.kws K) (d__wrong_in_scheme.at_ K) fd := c.says.def_ 8 (d := d__wrong_in_scheme) rfl
theorem k__wrong_in_scheme (c : Ct w K mg) : PySem.W.keepIn K (.ref (d__wrong_in_scheme.at_ K)) = true := (F__wrong_in_scheme c).choose_spec.kp
theorem sc__wrong_in_scheme : FnScope ["text", "at"] ["text"] (defScope s__wrong_in_scheme) := ⟨rfl, rfl, rfl, by decide +kernel, rfl, by decide +kernel, by decide +kernel⟩
theorem F__wrong_in_port (c : Ct w K mg) : ∃ fd, FunD K d__wrong_in_port.name d__wrong_in_port.qual d__wrong_in_port.params d__wrong_in_port.body d__wrong_in_port.scope (d__wrong_in_port.dvs K) (d__wrong_in_port.kws K) (d__wrong_in_port.at_ K) fd := c.says.def_ 9 (d := d__wrong_in_port) rfl
theorem k__wrong_in_port (c : Ct w K mg) : PySem.W.keepIn K (.ref (d__wrong_in_port.at_ K)) = true := (F__wrong_in_port c).choose_spec.kp
theorem sc__wrong_in_port : FnScope ["text", "at"] ["text"] (defScope s__wrong_in_port) := ⟨rfl, rfl, rfl, by decide +kernel, rfl, by decide +kernel, by decide +kernel⟩
theorem F__wrong_in_brackets (c : Ct w K mg) : ∃ fd, FunD K d__wrong_in_brackets.name d__wrong_in_brackets.qual d__wrong_in_brackets.params d__wrong_in_brackets.body d__wrong_in_brackets.scope (d__wrong_in_brackets.dvs K) (d__wrong_in_brackets.kws K) (d__wrong_in_brackets.at_ K) fd := c.says.def_ 10 (d := d__wrong_in_brackets) rfl
theorem k__wrong_in_brackets (c : Ct w K mg) : PySem.W.keepIn K (.ref (d__wrong_in_brackets.at_ K)) = true := (F__wrong_in_brackets c).choose_spec.kp
theorem sc__wrong_in_brackets : FnScope ["host", "at"] ["host"] (defScope s__wrong_in_brackets) := ⟨rfl, rfl, rfl, by decide +kernel, rfl, by decide +kernel, by decide +kernel⟩
theorem F__wrong_among (c : Ct w K mg) : ∃ fd, FunD K d__wrong_among.name d__wrong_among.qual d__wrong_among.params d__wrong_among.body d__wrong_among.scope (d__wrong_among.dvs K) (d__wrong_among.kws K) (d__wrong_among.at_ K) fd := c.says.def_ 11 (d := d__wrong_among) rfl
theorem k__wrong_among (c : Ct w K mg) : PySem.W.keepIn K (.ref (d__wrong_among.at_ K)) = true := (F__wrong_among c).choose_spec.kp
theorem sc__wrong_among : FnScope ["text", "signs", "start", "number", "piece", "at"] ["text", "signs"] (defScope s__wrong_among) := ⟨rfl, rfl, rfl, by decide +kernel, rfl, by decide +kernel, by decide +kernel⟩
theorem F__first_other (c : Ct w K mg) : ∃ fd, FunD K d__first_other.name d__first_other.qual d__first_other.params d__first_other.body d__first_other.scope (d__first_other.dvs K) (d__first_other.kws K) (d__first_other.at_ K) fd := c.says.def_ 12 (d := d__first_other) rfl
theorem k__first_other (c : Ct w K mg) : PySem.W.keepIn K (.ref (d__first_other.at_ K)) = true := (F__first_other c).choose_spec.kp
theorem sc__first_other : FnScope ["text", "signs"] ["text", "signs"] (defScope s__first_other) := ⟨rfl, rfl, rfl, by decide +kernel, rfl, by decide +kernel, by decide +kernel⟩
theorem F__is_part (c : Ct w K mg) : ∃ fd, FunD K d__is_part.name d__is_part.qual d__is_part.params d__is_part.body d__is_part.scope (d__is_part.dvs K) (d__is_part.kws K) (d__is_part.at_ K) fd := c.says.def_ 13 (d := d__is_part) rfl
theorem k__is_part (c : Ct w K mg) : PySem.W.keepIn K (.ref (d__is_part.at_ K)) = true := (F__is_part c).choose_spec.kp
theorem sc__is_part : FnScope ["name", "value"] ["name", "value"] (defScope s__is_part) := ⟨rfl, rfl, rfl, by decide +kernel, rfl, by decide +kernel, by decide +kernel⟩
theorem F__is_possible (c : Ct w K mg) : ∃ fd, FunD K d__is_possible.name d__is_possible.qual d__is_possible.params d__is_possible.body d__is_possible.scope (d__is_possible.dvs K) (d__is_possible.kws K) (d__is_possible.at_ K) fd := c.says.def_ 14 (d := d__is_possible) rfl
theorem k__is_possible (c : Ct w K mg) : PySem.W.keepIn K (.ref (d__is_possible.at_ K)) = true := (F__is_possible c).choose_spec.kp
theorem sc__is_possible : FnScope ["scheme", "host", "path"] ["scheme", "host", "path"] (defScope s__is_possible) := ⟨rfl, rfl, rfl, by decide +kernel, rfl, by decide +kernel, by decide +kernel⟩
theorem F_rank (c : Ct w K mg) : ∃ fd, FunD K d_rank.name d_rank.qual d_rank.params d_rank.body d_rank.scope (d_rank.dvs K) (d_rank.kws K) (d_rank.at_ K) fd := c.says.def_ 15 (d := d_rank) rfl
theorem k_rank (c : Ct w K mg) : PySem.W.keepIn K (.ref (d_rank.at_ K)) = true := (F_rank c).choose_spec.kp
theorem sc_rank : FnScope ["url", "text"] ["url"] (defScope s_rank) := ⟨rfl, rfl, rfl, by decide +kernel, rfl, by decide +kernel, by decide +kernel⟩
theorem F_relative (c : Ct w K mg) : ∃ fd, FunD K d_relative.name d_relative.qual d_relative.params d_relative.body d_relative.scope (d_relative.dvs K) (d_relative.kws K) (d_relative.at_ K) fd := c.says.def_ 16 (d := d_relative) rfl
theorem k_relative (c : Ct w K mg) : PySem.W.keepIn K (.ref (d_relative.at_ K)) = true := (F_relative c).choose_spec.kp
theorem sc_relative : FnScope ["base", "goal"] ["base", "goal"] (defScope s_relative) := ⟨rfl, rfl, rfl, by decide +kernel, rfl, by decide +kernel, by decide +kernel⟩
theorem F__leading (c : Ct w K mg) : ∃ fd, FunD K d__leading.name d__leading.qual d__leading.params d__leading.body d__leading.scope (d__leading.dvs K) (d__leading.kws K) (d__leading.at_ K) fd := c.says.def_ 17 (d := d__leading) rfl
theorem k__leading (c : Ct w K mg) : PySem.W.keepIn K (.ref (d__leading.at_ K)) = true := (F__leading c).choose_spec.kp
theorem sc__leading : FnScope ["base", "goal", "found", "is_clean", "rest"] ["base", "goal"] (defScope s__leading) := ⟨rfl, rfl, rfl, by decide +kernel, rfl, by decide +kernel, by decide +kernel⟩
theorem F__path_between (c : Ct w K mg) : ∃ fd, FunD K d__path_between.name d__path_between.qual d__path_between.params d__path_between.body d__path_between.scope (d__path_between.dvs K) (d__path_between.kws K) (d__path_between.at_ K) fd := c.says.def_ 18 (d := d__path_between) rfl
theorem k__path_between (c : Ct w K mg) : PySem.W.keepIn K (.ref (d__path_between.at_ K)) = true := (F__path_between c).choose_spec.kp
theorem sc__path_between : FnScope ["folders", "goal", "shared", "ups", "rest", "path"] ["folders", "goal"] (defScope s__path_between) := ⟨rfl, rfl, rfl, by decide +kernel, rfl, by decide +kernel, by decide +kernel⟩
theorem F__folders (c : Ct w K mg) : ∃ fd, FunD K d__folders.name d__folders.qual d__folders.params d__folders.body d__folders.scope (d__folders.dvs K) (d__folders.kws K) (d__folders.at_ K) fd := c.says.def_ 19 (d := d__folders) rfl
theorem k__folders (c : Ct w K mg) : PySem.W.keepIn K (.ref (d__folders.at_ K)) = true := (F__folders c).choose_spec.kp
theorem sc__folders : FnScope ["base"] ["base"] (defScope s__folders) := ⟨rfl, rfl, rfl, by decide +kernel, rfl, by decide +kernel, by decide +kernel⟩
theorem F__law_bag (c : Ct w K mg) : ∃ fd, FunD K d__law_bag.name d__law_bag.qual d__law_bag.params d__law_bag.body d__law_bag.scope (d__law_bag.dvs K) (d__law_bag.kws K) (d__law_bag.at_ K) fd := c.says.def_ 20 (d := d__law_bag) rfl
theorem k__law_bag (c : Ct w K mg) : PySem.W.keepIn K (.ref (d__law_bag.at_ K)) = true := (F__law_bag c).choose_spec.kp
theorem sc__law_bag : FnScope ["script", "at", "cell", "great"] ["script", "at"] (defScope s__law_bag) := ⟨rfl, rfl, rfl, by decide +kernel, rfl, by decide +kernel, by decide +kernel⟩
theorem F__law_take (c : Ct w K mg) : ∃ fd, FunD K d__law_take.name d__law_take.qual d__law_take.params d__law_take.body d__law_take.scope (d__law_take.dvs K) (d__law_take.kws K) (d__law_take.at_ K) fd := c.says.def_ 21 (d := d__law_take) rfl
theorem k__law_take (c : Ct w K mg) : PySem.W.keepIn K (.ref (d__law_take.at_ K)) = true := (F__law_take c).choose_spec.kp
theorem sc__law_take : FnScope ["bag", "many", "digit"] ["bag", "many"] (defScope s__law_take) := ⟨rfl, rfl, rfl, by decide +kernel, rfl, by decide +kernel, by decide +kernel⟩
theorem F__law_url (c : Ct w K mg) : ∃ fd, FunD K d__law_url.name d__law_url.qual d__law_url.params d__law_url.body d__law_url.scope (d__law_url.dvs K) (d__law_url.kws K) (d__law_url.at_ K) fd := c.says.def_ 22 (d := d__law_url) rfl
theorem k__law_url (c : Ct w K mg) : PySem.W.keepIn K (.ref (d__law_url.at_ K)) = true := (F__law_url c).choose_spec.kp
theorem sc__law_url : FnScope ["parts"] ["parts"] (defScope s__law_url) := ⟨rfl, rfl, rfl, by decide +kernel, rfl, by decide +kernel, by decide +kernel⟩
theorem F__law_segment (c : Ct w K mg) : ∃ fd, FunD K d__law_segment.name d__law_segment.qual d__law_segment.params d__law_segment.body d__law_segment.scope (d__law_segment.dvs K) (d__law_segment.kws K) (d__law_segment.at_ K) fd := c.says.def_ 23 (d := d__law_segment) rfl
theorem k__law_segment (c : Ct w K mg) : PySem.W.keepIn K (.ref (d__law_segment.at_ K)) = true := (F__law_segment c).choose_spec.kp
theorem sc__law_segment : FnScope ["bag", "some"] ["bag"] (defScope s__law_segment) := ⟨rfl, rfl, rfl, by decide +kernel, rfl, by decide +kernel, by decide +kernel⟩
theorem F__law_rooted (c : Ct w K mg) : ∃ fd, FunD K d__law_rooted.name d__law_rooted.qual d__law_rooted.params d__law_rooted.body d__law_rooted.scope (d__law_rooted.dvs K) (d__law_rooted.kws K) (d__law_rooted.at_ K) fd := c.says.def_ 24 (d := d__law_rooted) rfl
theorem k__law_rooted (c : Ct w K mg) : PySem.W.keepIn K (.ref (d__law_rooted.at_ K)) = true := (F__law_rooted c).choose_spec.kp
theorem sc__law_rooted : FnScope ["bag", "most", "is_beside", "k", "road"] ["bag", "most", "is_beside"] (defScope s__law_rooted) := ⟨rfl, rfl, rfl, by decide +kernel, rfl, by decide +kernel, by decide +kernel⟩
theorem F__law_authority (c : Ct w K mg) : ∃ fd, FunD K d__law_authority.name d__law_authority.qual d__law_authority.params d__law_authority.body d__law_authority.scope (d__law_authority.dvs K) (d__law_authority.kws K) (d__law_authority.at_ K) fd := c.says.def_ 25 (d := d__law_authority) rfl
theorem k__law_authority (c : Ct w K mg) : PySem.W.keepIn K (.ref (d__law_authority.at_ K)) = true := (F__law_authority c).choose_spec.kp
theorem sc__law_authority : FnScope ["bag", "some"] ["bag"] (defScope s__law_authority) := ⟨rfl, rfl, rfl, by decide +kernel, rfl, by decide +kernel, by decide +kernel⟩
theorem F__law_tail (c : Ct w K mg) : ∃ fd, FunD K d__law_tail.name d__law_tail.qual d__law_tail.params d__law_tail.body d__law_tail.scope (d__law_tail.dvs K) (d__law_tail.kws K) (d__law_tail.at_ K) fd := c.says.def_ 26 (d := d__law_tail) rfl
theorem k__law_tail (c : Ct w K mg) : PySem.W.keepIn K (.ref (d__law_tail.at_ K)) = true := (F__law_tail c).choose_spec.kp
theorem sc__law_tail : FnScope ["bag"] ["bag"] (defScope s__law_tail) := ⟨rfl, rfl, rfl, by decide +kernel, rfl, by decide +kernel, by decide +kernel⟩
theorem F__law_base (c : Ct w K mg) : ∃ fd, FunD K d__law_base.name d__law_base.qual d__law_base.params d__law_base.body d__law_base.scope (d__law_base.dvs K) (d__law_base.kws K) (d__law_base.at_ K) fd := c.says.def_ 27 (d := d__law_base) rfl
theorem k__law_base (c : Ct w K mg) : PySem.W.keepIn K (.ref (d__law_base.at_ K)) = true := (F__law_base c).choose_spec.kp
theorem sc__law_base : FnScope ["bag", "word", "guest", "home", "gate", "road"] ["bag"] (defScope s__law_base) := ⟨rfl, rfl, rfl, by decide +kernel, rfl, by decide +kernel, by decide +kernel⟩
theorem F__law_reference (c : Ct w K mg) : ∃ fd, FunD K d__law_reference.name d__law_reference.qual d__law_reference.params d__law_reference.body d__law_reference.scope (d__law_reference.dvs K) (d__law_reference.kws K) (d__law_reference.at_ K) fd := c.says.def_ 28 (d := d__law_reference) rfl
theorem k__law_reference (c : Ct w K mg) : PySem.W.keepIn K (.ref (d__law_reference.at_ K)) = true := (F__law_reference c).choose_spec.kp
theorem sc__law_reference : FnScope ["bag", "kind", "quest", "mark", "road", "k", "first"] ["bag"] (defScope s__law_reference) := ⟨rfl, rfl, rfl, by decide +kernel, rfl, by decide +kernel, by decide +kernel⟩
theorem F_law (c : Ct w K mg) : ∃ fd, FunD K d_law.name d_law.qual d_law.params d_law.body d_law.scope (d_law.dvs K) (d_law.kws K) (d_law.at_ K) fd := c.says.def_ 29 (d := d_law) rfl
theorem k_law (c : Ct w K mg) : PySem.W.keepIn K (.ref (d_law.at_ K)) = true := (F_law c).choose_spec.kp
theorem sc_law : FnScope ["script", "at", "bag", "turn", "base", "front", "road", "twin", "first", "second", "asked", "parts", "other", "goal"] ["script"] (defScope s_law) := ⟨rfl, rfl, rfl, by decide +kernel, rfl, by decide +kernel, by decide +kernel⟩
theorem F_BadPart___init__ (c : Ct w K mg) : ∃ fd, FunD K d_BadPart___init__.name d_BadPart___init__.qual d_BadPart___init__.params d_BadPart___init__.body d_BadPart___init__.scope (d_BadPart___init__.dvs K) (d_BadPart___init__.kws K) (d_BadPart___init__.at_ K) fd := c.says.def_ 30 (d := d_BadPart___init__) rfl
theorem k_BadPart___init__ (c : Ct w K mg) : PySem.W.keepIn K (.ref (d_BadPart___init__.at_ K)) = true := (F_BadPart___init__ c).choose_spec.kp
theorem sc_BadPart___init__ : FnScope ["self", "name"] ["self", "name"] (defScope s_BadPart___init__) := ⟨rfl, rfl, rfl, by decide +kernel, rfl, by decide +kernel, by decide +kernel⟩
theorem F_NoBase___init__ (c : Ct w K mg) : ∃ fd, FunD K d_NoBase___init__.name d_NoBase___init__.qual d_NoBase___init__.params d_NoBase___init__.body d_NoBase___init__.scope (d_NoBase___init__.dvs K) (d_NoBase___init__.kws K) (d_NoBase___init__.at_ K) fd := c.says.def_ 31 (d := d_NoBase___init__) rfl
theorem k_NoBase___init__ (c : Ct w K mg) : PySem.W.keepIn K (.ref (d_NoBase___init__.at_ K)) = true := (F_NoBase___init__ c).choose_spec.kp
theorem sc_NoBase___init__ : FnScope ["self"] ["self"] (defScope s_NoBase___init__) := ⟨rfl, rfl, rfl, by decide +kernel, rfl, by decide +kernel, by decide +kernel⟩
theorem F_Url___init__ (c : Ct w K mg) : ∃ fd, FunD K d_Url___init__.name d_Url___init__.qual d_Url___init__.params d_Url___init__.body d_Url___init__.scope (d_Url___init__.dvs K) (d_Url___init__.kws K) (d_Url___init__.at_ K) fd := c.says.def_ 32 (d := d_Url___init__) rfl
theorem k_Url___init__ (c : Ct w K mg) : PySem.W.keepIn K (.ref (d_Url___init__.at_ K)) = true := (F_Url___init__ c).choose_spec.kp
theorem sc_Url___init__ : FnScope ["self", "parts"] ["self", "parts"] (defScope s_Url___init__) := ⟨rfl, rfl, rfl, by decide +kernel, rfl, by decide +kernel, by decide +kernel⟩
theorem F_Url_of (c : Ct w K mg) : ∃ fd, FunD K d_Url_of.name d_Url_of.qual d_Url_of.params d_Url_of.body d_Url_of.scope (d_Url_of.dvs K) (d_Url_of.kws K) (d_Url_of.at_ K) fd := c.says.def_ 33 (d := d_Url_of) rfl
theorem k_Url_of (c : Ct w K mg) : PySem.W.keepIn K (.ref (d_Url_of.at_ K)) = true := (F_Url_of c).choose_spec.kp
theorem sc_Url_of : FnScope ["cls", "scheme", "user", "host", "port", "path", "query", "fragment", "parts", "name", "value"] ["cls", "scheme", "user", "host", "port", "path", "query", "fragment"] (defScope s_Url_of) := ⟨rfl, rfl, rfl, by decide +kernel, rfl, by decide +kernel, by decide +kernel⟩
theorem F_Url_replaced (c : Ct w K mg) : ∃ fd, FunD K d_Url_replaced.name d_Url_replaced.qual d_Url_replaced.params d_Url_replaced.body d_Url_replaced.scope (d_Url_replaced.dvs K) (d_Url_replaced.kws K) (d_Url_replaced.at_ K) fd := c.says.def_ 34 (d := d_Url_replaced) rfl
theorem k_Url_replaced (c : Ct w K mg) : PySem.W.keepIn K (.ref (d_Url_replaced.at_ K)) = true := (F_Url_replaced c).choose_spec.kp
theorem sc_Url_replaced : FnScope ["self", "changes", "kept", "parts"] ["self", "changes"] (defScope s_Url_replaced) := ⟨rfl, rfl, rfl, by decide +kernel, rfl, by decide +kernel, by decide +kernel⟩
theorem F_Url_scheme (c : Ct w K mg) : ∃ fd, FunD K d_Url_scheme.name d_Url_scheme.qual d_Url_scheme.params d_Url_scheme.body d_Url_scheme.scope (d_Url_scheme.dvs K) (d_Url_scheme.kws K) (d_Url_scheme.at_ K) fd := c.says.def_ 35 (d := d_Url_scheme) rfl
theorem k_Url_scheme (c : Ct w K mg) : PySem.W.keepIn K (.ref (d_Url_scheme.at_ K)) = true := (F_Url_scheme c).choose_spec.kp
theorem sc_Url_scheme : FnScope ["self"] ["self"] (defScope s_Url_scheme) := ⟨rfl, rfl, rfl, by decide +kernel, rfl, by decide +kernel, by decide +kernel⟩
theorem F_Url_user (c : Ct w K mg) : ∃ fd, FunD K d_Url_user.name d_Url_user.qual d_Url_user.params d_Url_user.body d_Url_user.scope (d_Url_user.dvs K) (d_Url_user.kws K) (d_Url_user.at_ K) fd := c.says.def_ 36 (d := d_Url_user) rfl
theorem k_Url_user (c : Ct w K mg) : PySem.W.keepIn K (.ref (d_Url_user.at_ K)) = true := (F_Url_user c).choose_spec.kp
theorem sc_Url_user : FnScope ["self"] ["self"] (defScope s_Url_user) := ⟨rfl, rfl, rfl, by decide +kernel, rfl, by decide +kernel, by decide +kernel⟩
theorem F_Url_host (c : Ct w K mg) : ∃ fd, FunD K d_Url_host.name d_Url_host.qual d_Url_host.params d_Url_host.body d_Url_host.scope (d_Url_host.dvs K) (d_Url_host.kws K) (d_Url_host.at_ K) fd := c.says.def_ 37 (d := d_Url_host) rfl
theorem k_Url_host (c : Ct w K mg) : PySem.W.keepIn K (.ref (d_Url_host.at_ K)) = true := (F_Url_host c).choose_spec.kp
theorem sc_Url_host : FnScope ["self"] ["self"] (defScope s_Url_host) := ⟨rfl, rfl, rfl, by decide +kernel, rfl, by decide +kernel, by decide +kernel⟩
theorem F_Url_port (c : Ct w K mg) : ∃ fd, FunD K d_Url_port.name d_Url_port.qual d_Url_port.params d_Url_port.body d_Url_port.scope (d_Url_port.dvs K) (d_Url_port.kws K) (d_Url_port.at_ K) fd := c.says.def_ 38 (d := d_Url_port) rfl
theorem k_Url_port (c : Ct w K mg) : PySem.W.keepIn K (.ref (d_Url_port.at_ K)) = true := (F_Url_port c).choose_spec.kp
theorem sc_Url_port : FnScope ["self"] ["self"] (defScope s_Url_port) := ⟨rfl, rfl, rfl, by decide +kernel, rfl, by decide +kernel, by decide +kernel⟩
theorem F_Url_path (c : Ct w K mg) : ∃ fd, FunD K d_Url_path.name d_Url_path.qual d_Url_path.params d_Url_path.body d_Url_path.scope (d_Url_path.dvs K) (d_Url_path.kws K) (d_Url_path.at_ K) fd := c.says.def_ 39 (d := d_Url_path) rfl
theorem k_Url_path (c : Ct w K mg) : PySem.W.keepIn K (.ref (d_Url_path.at_ K)) = true := (F_Url_path c).choose_spec.kp
theorem sc_Url_path : FnScope ["self"] ["self"] (defScope s_Url_path) := ⟨rfl, rfl, rfl, by decide +kernel, rfl, by decide +kernel, by decide +kernel⟩
theorem F_Url_query (c : Ct w K mg) : ∃ fd, FunD K d_Url_query.name d_Url_query.qual d_Url_query.params d_Url_query.body d_Url_query.scope (d_Url_query.dvs K) (d_Url_query.kws K) (d_Url_query.at_ K) fd := c.says.def_ 40 (d := d_Url_query) rfl
theorem k_Url_query (c : Ct w K mg) : PySem.W.keepIn K (.ref (d_Url_query.at_ K)) = true := (F_Url_query c).choose_spec.kp
theorem sc_Url_query : FnScope ["self"] ["self"] (defScope s_Url_query) := ⟨rfl, rfl, rfl, by decide +kernel, rfl, by decide +kernel, by decide +kernel⟩
theorem F_Url_fragment (c : Ct w K mg) : ∃ fd, FunD K d_Url_fragment.name d_Url_fragment.qual d_Url_fragment.params d_Url_fragment.body d_Url_fragment.scope (d_Url_fragment.dvs K) (d_Url_fragment.kws K) (d_Url_fragment.at_ K) fd := c.says.def_ 41 (d := d_Url_fragment) rfl
theorem k_Url_fragment (c : Ct w K mg) : PySem.W.keepIn K (.ref (d_Url_fragment.at_ K)) = true := (F_Url_fragment c).choose_spec.kp
theorem sc_Url_fragment : FnScope ["self"] ["self"] (defScope s_Url_fragment) := ⟨rfl, rfl, rfl, by decide +kernel, rfl, by decide +kernel, by decide +kernel⟩
theorem F_Url_has_authority (c : Ct w K mg) : ∃ fd, FunD K d_Url_has_authority.name d_Url_has_authority.qual d_Url_has_authority.params d_Url_has_authority.body d_Url_has_authority.scope (d_Url_has_authority.dvs K) (d_Url_has_authority.kws K) (d_Url_has_authority.at_ K) fd := c.says.def_ 42 (d := d_Url_has_authority) rfl
theorem k_Url_has_authority (c : Ct w K mg) : PySem.W.keepIn K (.ref (d_Url_has_authority.at_ K)) = true := (F_Url_has_authority c).choose_spec.kp
theorem sc_Url_has_authority : FnScope ["self"] ["self"] (defScope s_Url_has_authority) := ⟨rfl, rfl, rfl, by decide +kernel, rfl, by decide +kernel, by decide +kernel⟩
theorem F_Url_is_base (c : Ct w K mg) : ∃ fd, FunD K d_Url_is_base.name d_Url_is_base.qual d_Url_is_base.params d_Url_is_base.body d_Url_is_base.scope (d_Url_is_base.dvs K) (d_Url_is_base.kws K) (d_Url_is_base.at_ K) fd := c.says.def_ 43 (d := d_Url_is_base) rfl
theorem k_Url_is_base (c : Ct w K mg) : PySem.W.keepIn K (.ref (d_Url_is_base.at_ K)) = true := (F_Url_is_base c).choose_spec.kp
theorem sc_Url_is_base : FnScope ["self"] ["self"] (defScope s_Url_is_base) := ⟨rfl, rfl, rfl, by decide +kernel, rfl, by decide +kernel, by decide +kernel⟩
theorem F_Url_is_opaque (c : Ct w K mg) : ∃ fd, FunD K d_Url_is_opaque.name d_Url_is_opaque.qual d_Url_is_opaque.params d_Url_is_opaque.body d_Url_is_opaque.scope (d_Url_is_opaque.dvs K) (d_Url_is_opaque.kws K) (d_Url_is_opaque.at_ K) fd := c.says.def_ 44 (d := d_Url_is_opaque) rfl
theorem k_Url_is_opaque (c : Ct w K mg) : PySem.W.keepIn K (.ref (d_Url_is_opaque.at_ K)) = true := (F_Url_is_opaque c).choose_spec.kp
theorem sc_Url_is_opaque : FnScope ["self"] ["self"] (defScope s_Url_is_opaque) := ⟨rfl, rfl, rfl, by decide +kernel, rfl, by decide +kernel, by decide +kernel⟩
theorem F_Url___add__ (c : Ct w K mg) : ∃ fd, FunD K d_Url___add__.name d_Url___add__.qual d_Url___add__.params d_Url___add__.body d_Url___add__.scope (d_Url___add__.dvs K) (d_Url___add__.kws K) (d_Url___add__.at_ K) fd := c.says.def_ 45 (d := d_Url___add__) rfl
theorem k_Url___add__ (c : Ct w K mg) : PySem.W.keepIn K (.ref (d_Url___add__.at_ K)) = true := (F_Url___add__ c).choose_spec.kp
theorem sc_Url___add__ : FnScope ["self", "other"] ["self", "other"] (defScope s_Url___add__) := ⟨rfl, rfl, rfl, by decide +kernel, rfl, by decide +kernel, by decide +kernel⟩
theorem F_Url___eq__ (c : Ct w K mg) : ∃ fd, FunD K d_Url___eq__.name d_Url___eq__.qual d_Url___eq__.params d_Url___eq__.body d_Url___eq__.scope (d_Url___eq__.dvs K) (d_Url___eq__.kws K) (d_Url___eq__.at_ K) fd := c.says.def_ 46 (d := d_Url___eq__) rfl
theorem k_Url___eq__ (c : Ct w K mg) : PySem.W.keepIn K (.ref (d_Url___eq__.at_ K)) = true := (F_Url___eq__ c).choose_spec.kp
theorem sc_Url___eq__ : FnScope ["self", "other"] ["self", "other"] (defScope s_Url___eq__) := ⟨rfl, rfl, rfl, by decide +kernel, rfl, by decide +kernel, by decide +kernel⟩
theorem F_Url___len__ (c : Ct w K mg) : ∃ fd, FunD K d_Url___len__.name d_Url___len__.qual d_Url___len__.params d_Url___len__.body d_Url___len__.scope (d_Url___len__.dvs K) (d_Url___len__.kws K) (d_Url___len__.at_ K) fd := c.says.def_ 47 (d := d_Url___len__) rfl
theorem k_Url___len__ (c : Ct w K mg) : PySem.W.keepIn K (.ref (d_Url___len__.at_ K)) = true := (F_Url___len__ c).choose_spec.kp
theorem sc_Url___len__ : FnScope ["self"] ["self"] (defScope s_Url___len__) := ⟨rfl, rfl, rfl, by decide +kernel, rfl, by decide +kernel, by decide +kernel⟩
theorem F_Url___repr__ (c : Ct w K mg) : ∃ fd, FunD K d_Url___repr__.name d_Url___repr__.qual d_Url___repr__.params d_Url___repr__.body d_Url___repr__.scope (d_Url___repr__.dvs K) (d_Url___repr__.kws K) (d_Url___repr__.at_ K) fd := c.says.def_ 48 (d := d_Url___repr__) rfl
theorem k_Url___repr__ (c : Ct w K mg) : PySem.W.keepIn K (.ref (d_Url___repr__.at_ K)) = true := (F_Url___repr__ c).choose_spec.kp
theorem sc_Url___repr__ : FnScope ["self", "text"] ["self"] (defScope s_Url___repr__) := ⟨rfl, rfl, rfl, by decide +kernel, rfl, by decide +kernel, by decide +kernel⟩
theorem F_Url___str__ (c : Ct w K mg) : ∃ fd, FunD K d_Url___str__.name d_Url___str__.qual d_Url___str__.params d_Url___str__.body d_Url___str__.scope (d_Url___str__.dvs K) (d_Url___str__.kws K) (d_Url___str__.at_ K) fd := c.says.def_ 49 (d := d_Url___str__) rfl
theorem k_Url___str__ (c : Ct w K mg) : PySem.W.keepIn K (.ref (d_Url___str__.at_ K)) = true := (F_Url___str__ c).choose_spec.kp
theorem sc_Url___str__ : FnScope ["self", "pieces"] ["self"] (defScope s_Url___str__) := ⟨rfl, rfl, rfl, by decide +kernel, rfl, by decide +kernel, by decide +kernel⟩
def kv_MORE : List (Str × He.Dv) := [(("user" : Str), He.Dv.str ":"), (("host" : Str), He.Dv.str ""), (("path" : Str), He.Dv.str ":@/"), (("query" : Str), He.Dv.str ":@/?"), (("fragment" : Str), He.Dv.str ":@/?")]
theorem kd_MORE (c : Ct w K mg) {q : Str × He.Dv} (hq : q ∈ kv_MORE) : KDct K w (He.ga K "MORE") q.1 (q.2.v K) := by
  obtain ⟨es, n, D⟩ := c.says.tab 0 rfl
  obtain ⟨u, e, r⟩ := He.valsB_ok (c.says.more 0 (e := fun K => He.valsB K (He.ga K "MORE") kv_MORE) rfl) hq
  exact ⟨es, n, u, D.at_, D.lit, e, r⟩
theorem oex_BadPart (c : Ct w K mg) : OexC K (He.ga K "BadPart") := Hc.oexB_ok (c.says.more 1 (e := (fun K => Hc.oexB K (He.ga K "BadPart"))) rfl)
theorem xf_BadPart (c : Ct w K mg) : XfC K (He.ga K "BadPart") := xfB_ok (c.says.more 2 (e := (fun K => xfB K (He.ga K "BadPart"))) rfl)
theorem ini_BadPart (c : Ct w K mg) : PySem.W.findIn K (.ref (He.ga K "BadPart")) "__init__" = some (some (.ref (He.ma K (He.ga K "BadPart") "__init__"))) ∧ PySem.W.typeIn K (.ref (He.ma K (He.ga K "BadPart") "__init__")) = some (.type "function") := Hc.iniB_ok (c.says.more 3 (e := (fun K => Hc.iniB K (He.ga K "BadPart") (He.ma K (He.ga K "BadPart") "__init__"))) rfl)
theorem oex_NoBase (c : Ct w K mg) : OexC K (He.ga K "NoBase") := Hc.oexB_ok (c.says.more 4 (e := (fun K => Hc.oexB K (He.ga K "NoBase"))) rfl)
theorem xf_NoBase (c : Ct w K mg) : XfC K (He.ga K "NoBase") := xfB_ok (c.says.more 5 (e := (fun K => xfB K (He.ga K "NoBase"))) rfl)
theorem ini_NoBase (c : Ct w K mg) : PySem.W.findIn K (.ref (He.ga K "NoBase")) "__init__" = some (some (.ref (He.ma K (He.ga K "NoBase") "__init__"))) ∧ PySem.W.typeIn K (.ref (He.ma K (He.ga K "NoBase") "__init__")) = some (.type "function") := Hc.iniB_ok (c.says.more 6 (e := (fun K => Hc.iniB K (He.ga K "NoBase") (He.ma K (He.ga K "NoBase") "__init__"))) rfl)
theorem read_Url (c : Ct w K mg) : CRead K (He.ga K "Url") (.type "type") := Hc.readB_ok (c.says.more 7 (e := (fun K => Hc.readB K (He.ga K "Url"))) rfl)
theorem cval_Url_PARTS (c : Ct w K mg) : CVal K (He.ga K "Url") (.type "type") "PARTS" (.ref (Hc.cvalP K (He.ga K "Url") "PARTS")) (.ref (Hc.cvalP K (He.ga K "Url") "PARTS")) := Hc.cvalB_ok (c.says.more 8 (e := (fun K => Hc.cvalB K (He.ga K "Url") "PARTS")) rfl)
theorem tups_Url_PARTS (c : Ct w K mg) (H : Hp) : SqT K H (Hc.cvalP K (He.ga K "Url") "PARTS") (([("scheme" : Str), ("user" : Str), ("host" : Str), ("port" : Str), ("path" : Str), ("query" : Str), ("fragment" : Str)] : List Str).map V.str) := Hc.tupSB_ok (c.says.more 9 (e := (fun K => Hc.tupSB K (Hc.cvalP K (He.ga K "Url") "PARTS") [("scheme" : Str), ("user" : Str), ("host" : Str), ("port" : Str), ("path" : Str), ("query" : Str), ("fragment" : Str)])) rfl) H
theorem cm_Url_of (c : Ct w K mg) : CMet K (He.ga K "Url") (.type "type") "of" (Hc.cmP K (He.ga K "Url") "of") (He5.wf K (He.ga K "Url") "classmethod" "of") := Hc.cmB_ok (c.says.more 10 (e := (fun K => Hc.cmB K (He.ga K "Url") "of" (He5.wf K (He.ga K "Url") "classmethod" "of"))) rfl)
theorem prop_Url_scheme (c : Ct w K mg) : PropOf K (He.ga K "Url") "scheme" (Hc.propP K (He.ga K "Url") "scheme") (He5.wf K (He.ga K "Url") "property" "scheme") := Hc.propB_ok (c.says.more 11 (e := (fun K => Hc.propB K (He.ga K "Url") "scheme" (He5.wf K (He.ga K "Url") "property" "scheme"))) rfl)
theorem prop_Url_user (c : Ct w K mg) : PropOf K (He.ga K "Url") "user" (Hc.propP K (He.ga K "Url") "user") (He5.wf K (He.ga K "Url") "property" "user") := Hc.propB_ok (c.says.more 12 (e := (fun K => Hc.propB K (He.ga K "Url") "user" (He5.wf K (He.ga K "Url") "property" "user"))) rfl)
theorem prop_Url_host (c : Ct w K mg) : PropOf K (He.ga K "Url") "host" (Hc.propP K (He.ga K "Url") "host") (He5.wf K (He.ga K "Url") "property" "host") := Hc.propB_ok (c.says.more 13 (e := (fun K => Hc.propB K (He.ga K "Url") "host" (He5.wf K (He.ga K "Url") "property" "host"))) rfl)
theorem prop_Url_port (c : Ct w K mg) : PropOf K (He.ga K "Url") "port" (Hc.propP K (He.ga K "Url") "port") (He5.wf K (He.ga K "Url") "property" "port") := Hc.propB_ok (c.says.more 14 (e := (fun K => Hc.propB K (He.ga K "Url") "port" (He5.wf K (He.ga K "Url") "property" "port"))) rfl)
theorem prop_Url_path (c : Ct w K mg) : PropOf K (He.ga K "Url") "path" (Hc.propP K (He.ga K "Url") "path") (He5.wf K (He.ga K "Url") "property" "path") := Hc.propB_ok (c.says.more 15 (e := (fun K => Hc.propB K (He.ga K "Url") "path" (He5.wf K (He.ga K "Url") "property" "path"))) rfl)
theorem prop_Url_query (c : Ct w K mg) : PropOf K (He.ga K "Url") "query" (Hc.propP K (He.ga K "Url") "query") (He5.wf K (He.ga K "Url") "property" "query") := Hc.propB_ok (c.says.more 16 (e := (fun K => Hc.propB K (He.ga K "Url") "query" (He5.wf K (He.ga K "Url") "property" "query"))) rfl)
theorem prop_Url_fragment (c : Ct w K mg) : PropOf K (He.ga K "Url") "fragment" (Hc.propP K (He.ga K "Url") "fragment") (He5.wf K (He.ga K "Url") "property" "fragment") := Hc.propB_ok (c.says.more 17 (e := (fun K => Hc.propB K (He.ga K "Url") "fragment" (He5.wf K (He.ga K "Url") "property" "fragment"))) rfl)
theorem prop_Url_has_authority (c : Ct w K mg) : PropOf K (He.ga K "Url") "has_authority" (Hc.propP K (He.ga K "Url") "has_authority") (He5.wf K (He.ga K "Url") "property" "has_authority") := Hc.propB_ok (c.says.more 18 (e := (fun K => Hc.propB K (He.ga K "Url") "has_authority" (He5.wf K (He.ga K "Url") "property" "has_authority"))) rfl)
theorem prop_Url_is_base (c : Ct w K mg) : PropOf K (He.ga K "Url") "is_base" (Hc.propP K (He.ga K "Url") "is_base") (He5.wf K (He.ga K "Url") "property" "is_base") := Hc.propB_ok (c.says.more 19 (e := (fun K => Hc.propB K (He.ga K "Url") "is_base" (He5.wf K (He.ga K "Url") "property" "is_base"))) rfl)
theorem prop_Url_is_opaque (c : Ct w K mg) : PropOf K (He.ga K "Url") "is_opaque" (Hc.propP K (He.ga K "Url") "is_opaque") (He5.wf K (He.ga K "Url") "property" "is_opaque") := Hc.propB_ok (c.says.more 20 (e := (fun K => Hc.propB K (He.ga K "Url") "is_opaque" (He5.wf K (He.ga K "Url") "property" "is_opaque"))) rfl)
theorem sf_Url (c : Ct w K mg) : PySem.W.selfFirst K (He.ga K "Url") = true := id (c.says.more 21 (e := (fun K => PySem.W.selfFirst K (He.ga K "Url"))) rfl)
theorem spc_Url___add__ (c : Ct w K mg) : PySem.W.findIn K (.ref (He.ga K "Url")) "__add__" = some (some (.ref (He.ma K (He.ga K "Url") "__add__"))) ∧ PySem.W.isFn K (.ref (He.ma K (He.ga K "Url") "__add__")) = true := Hc.spcB_ok (c.says.more 22 (e := (fun K => Hc.spcB K (He.ga K "Url") "__add__" (He.ma K (He.ga K "Url") "__add__"))) rfl)
theorem eqc_Url (c : Ct w K mg) : Xr.EqC K (He.ga K "Url") (He.ma K (He.ga K "Url") "__eq__") := Xr.eqcB_ok (c.says.more 23 (e := (fun K => Xr.eqcB K (He.ga K "Url") (He.ma K (He.ga K "Url") "__eq__"))) rfl)
theorem spc_Url___eq__ (c : Ct w K mg) : PySem.W.findIn K (.ref (He.ga K "Url")) "__eq__" = some (some (.ref (He.ma K (He.ga K "Url") "__eq__"))) ∧ PySem.W.isFn K (.ref (He.ma K (He.ga K "Url") "__eq__")) = true := Hc.spcB_ok (c.says.more 24 (e := (fun K => Hc.spcB K (He.ga K "Url") "__eq__" (He.ma K (He.ga K "Url") "__eq__"))) rfl)
theorem spc_Url___len__ (c : Ct w K mg) : PySem.W.findIn K (.ref (He.ga K "Url")) "__len__" = some (some (.ref (He.ma K (He.ga K "Url") "__len__"))) ∧ PySem.W.isFn K (.ref (He.ma K (He.ga K "Url") "__len__")) = true := Hc.spcB_ok (c.says.more 25 (e := (fun K => Hc.spcB K (He.ga K "Url") "__len__" (He.ma K (He.ga K "Url") "__len__"))) rfl)
theorem spc_Url___repr__ (c : Ct w K mg) : PySem.W.findIn K (.ref (He.ga K "Url")) "__repr__" = some (some (.ref (He.ma K (He.ga K "Url") "__repr__"))) ∧ PySem.W.isFn K (.ref (He.ma K (He.ga K "Url") "__repr__")) = true := Hc.spcB_ok (c.says.more 26 (e := (fun K => Hc.spcB K (He.ga K "Url") "__repr__" (He.ma K (He.ga K "Url") "__repr__"))) rfl)
theorem spc_Url___str__ (c : Ct w K mg) : PySem.W.findIn K (.ref (He.ga K "Url")) "__str__" = some (some (.ref (He.ma K (He.ga K "Url") "__str__"))) ∧ PySem.W.isFn K (.ref (He.ma K (He.ga K "Url") "__str__")) = true := Hc.spcB_ok (c.says.more 27 (e := (fun K => Hc.spcB K (He.ga K "Url") "__str__" (He.ma K (He.ga K "Url") "__str__"))) rfl)
end
end Fx
set_option Elab.async false
set_option linter.all false
set_option maxRecDepth 100000
/-! Mi: the mathematics of parts and their wrong places, over lists of codes. -/
namespace Mi
open PySem PySem.Builtin PySem.Builtin.Str PySem.StrLaws L2 TL
abbrev T := List Nat
/-! ### signs -/
def LETT : T := tl "ABCDEFGHIJKLMNOPQRSTUVWXYZabcdefghijklmnopqrstuvwxyz"
def DIGT : T := tl "0123456789"
def HEXT : T := tl "0123456789ABCDEFabcdef"
def PLNT : T := tl "-.0123456789ABCDEFGHIJKLMNOPQRSTUVWXYZ_abcdefghijklmnopqrstuvwxyz~"
def INNT : T := tl "!$&'()*+,;="
/-- the length of the longest beginning of signs of S -/
def fo (l S : T) : Nat := (l.takeWhile S.contains).length
def hex2 : T → Bool
  | a :: b :: _ => HEXT.contains a && HEXT.contains b
  | _ => false
theorem fo_le (l S : T) : fo l S ≤ l.length := by
  unfold fo
  induction l with
  | nil => exact Nat.le_refl _
  | cons c r ih =>
    rw [List.takeWhile_cons]
    split
    · simp only [List.length_cons]; omega
    · simp
theorem fo_nil (S : T) : fo [] S = 0 := rfl
theorem fo_in {c : Nat} {r S : T} (h : S.contains c = true) : fo (c :: r) S = fo r S + 1 := by
  unfold fo; rw [List.takeWhile_cons, if_pos h]; rfl
theorem fo_out {c : Nat} {r S : T} (h : S.contains c = false) : fo (c :: r) S = 0 := by
  unfold fo; rw [List.takeWhile_cons, if_neg (by rw [h]; exact Bool.false_ne_true)]; rfl
/-- the sign at the first other place is none of S; all ahead of it are -/
theorem fo_at {l S : T} (h : fo l S < l.length) : ∃ c, l[fo l S]? = some c ∧ S.contains c = false := by
  induction l with
  | nil => exact absurd h (Nat.lt_irrefl _)
  | cons c r ih =>
    cases hc : S.contains c with
    | true =>
      rw [fo_in hc] at h ⊢
      obtain ⟨d, h1, h2⟩ := ih (by simpa using h)
      exact ⟨d, by simpa using h1, h2⟩
    | false =>
      rw [fo_out hc]
      exact ⟨c, rfl, hc⟩
theorem fo_before {l S : T} {i : Nat} (h : i < fo l S) : ∃ c, l[i]? = some c ∧ S.contains c = true := by
  induction l generalizing i with
  | nil => exact absurd h (Nat.not_lt_zero _)
  | cons c r ih =>
    cases hc : S.contains c with
    | true =>
      rw [fo_in hc] at h
      cases i with
      | zero => exact ⟨c, rfl, hc⟩
      | succ i =>
        obtain ⟨d, h1, h2⟩ := ih (i := i) (by omega)
        exact ⟨d, by simpa using h1, h2⟩
    | false =>
      rw [fo_out hc] at h
      exact absurd h (Nat.not_lt_zero _)
theorem lstrip_tl (x y : Str) : tl (Txt.lstripChars x y) = (tl x).drop (fo (tl x) (tl y)) := by
  have hg : stripLo y.cps.contains true x = fo (tl x) (tl y) := by
    unfold stripLo fo
    rw [if_pos rfl]
    congr 2
    funext c
    show y.cps.contains c = (tl y).contains c
    simp [tl]
  have hh : ∀ lo, stripHi y.cps.contains false x lo = x.length := fun lo => by unfold stripHi; rw [if_neg Bool.false_ne_true]
  unfold Txt.lstripChars Txt.stripBy
  split
  · rename_i h
    unfold stripSame at h
    rw [hg, hh] at h
    have h0 : fo (tl x) (tl y) = 0 := by simpa using h
    rw [h0]; rfl
  · unfold stripped
    rw [hg, hh, tl_strSub_end]
theorem lstrip_len (x y : Str) : (x.length : Int) - ((Txt.lstripChars x y).length : Int) = (fo (tl x) (tl y) : Int) := by
  rw [len_tl x, len_tl (Txt.lstripChars x y), lstrip_tl, List.length_drop]
  have := fo_le (tl x) (tl y)
  omega
/-! ### a text cut at one sign -/
/-- the pieces between the signs c -/
def cut (c : Nat) : T → List T
  | [] => [[]]
  | d :: r => if d = c then [] :: cut c r else match cut c r with
    | p :: ps => (d :: p) :: ps
    | [] => [[d]]
theorem cut_ne (c : Nat) (l : T) : cut c l ≠ [] := by
  cases l with
  | nil => exact List.cons_ne_nil _ _
  | cons d r =>
    unfold cut
    split
    · exact List.cons_ne_nil _ _
    · split <;> exact List.cons_ne_nil _ _
theorem cut_hit (c : Nat) (r : T) : cut c (c :: r) = [] :: cut c r := by
  conv => lhs; unfold cut
  rw [if_pos rfl]
theorem cut_miss {c d : Nat} (h : d ≠ c) (r : T) : cut c (d :: r) = (match cut c r with | p :: ps => (d :: p) :: ps | [] => [[d]]) := by
  conv => lhs; unfold cut
  rw [if_neg h]
theorem spl_cut (c : Nat) : ∀ (l acc : T), spl [c] 0 acc l = (match cut c l with | p :: ps => (acc ++ p) :: ps | [] => [acc])
  | [], acc => by
    rw [spl_nil]
    show [acc] = [acc ++ []]
    rw [List.append_nil]
  | d :: r, acc => by
    by_cases h : d = c
    · subst h
      have hp : pre [d] (d :: r) = true := by simp [pre]
      rw [spl_hit hp]
      show acc :: spl [d] 0 [] r = _
      rw [spl_cut d r [], cut_hit]
      show _ = (acc ++ []) :: cut d r
      rw [List.append_nil]
      cases e : cut d r with
      | nil => exact absurd e (cut_ne d r)
      | cons p ps => rfl
    · have hp : pre [c] (d :: r) = false := by simp [pre, h]
      rw [spl_miss hp, spl_cut c r (acc ++ [d])]
      rw [cut_miss h]
      cases e : cut c r with
      | nil => exact absurd e (cut_ne c r)
      | cons p ps =>
        show (acc ++ [d] ++ p) :: ps = (acc ++ d :: p) :: ps
        rw [List.append_assoc]; rfl
theorem split_cut (x : Str) (c : Nat) (hc : c < 256) : (Txt.split x ⟨#[c]⟩).map tl = cut c (tl x) := by
  have h := split_spl x ⟨#[c]⟩ (show tl ⟨#[c]⟩ ≠ [] from List.cons_ne_nil _ _) (kind_ok (by simpa using hc))
  rw [h]
  show spl [c] 0 [] (tl x) = _
  rw [spl_cut]
  cases e : cut c (tl x) with
  | nil => exact absurd e (cut_ne c _)
  | cons p ps => rfl
/-- what stands before the first c; what stands behind it -/
def bef (c : Nat) (l : T) : T := l.takeWhile (· != c)
def aft (c : Nat) (l : T) : T := (l.dropWhile (· != c)).drop 1
theorem par_cut (c : Nat) : ∀ (l acc : T), par [c] acc l = if l.contains c = true then some (acc ++ bef c l, aft c l) else none
  | [], acc => by simp [par]
  | d :: r, acc => by
    by_cases h : d = c
    · subst h
      have hp : pre [d] (d :: r) = true := by simp [pre]
      rw [par_hit hp]
      simp [bef, aft]
    · have hp : pre [c] (d :: r) = false := by simp [pre, h]
      have hb : (d != c) = true := by simpa using h
      rw [par_miss hp, par_cut c r]
      have e1 : (d :: r).contains c = r.contains c := by
        simp only [List.contains_cons]
        have : (c == d) = false := by simpa using fun e : c = d => h e.symm
        rw [this, Bool.false_or]
      rw [e1]
      have e2 : bef c (d :: r) = d :: bef c r := by unfold bef; rw [List.takeWhile_cons, if_pos hb]
      have e3 : aft c (d :: r) = aft c r := by unfold aft; rw [List.dropWhile_cons, if_pos hb]
      rw [e2, e3, List.append_assoc]
      rfl
theorem bef_none {c : Nat} : ∀ {l : T}, l.contains c = false → bef c l = l
  | [], _ => rfl
  | d :: r, h => by
    have h2 := h
    simp only [List.contains_cons, Bool.or_eq_false_iff] at h2
    have : (d != c) = true := by
      have := h2.1
      simp only [beq_eq_false_iff_ne] at this
      simpa using fun e : d = c => this e.symm
    unfold bef
    rw [List.takeWhile_cons, if_pos this]
    exact congrArg (d :: ·) (bef_none h2.2)
theorem bef_aft {c : Nat} {l : T} (h : l.contains c = true) : l = bef c l ++ c :: aft c l := by
  unfold bef aft
  induction l with
  | nil => cases h
  | cons d r ih =>
    by_cases e : d = c
    · subst e; simp
    · have hb : (d != c) = true := by simpa using e
      have h' : r.contains c = true := by
        simp only [List.contains_cons] at h
        have : (c == d) = false := by simpa using fun q : c = d => e q.symm
        rw [this, Bool.false_or] at h
        exact h
      rw [List.takeWhile_cons, if_pos hb, List.dropWhile_cons, if_pos hb, List.cons_append, ← ih h']
theorem bef_free (c : Nat) (l : T) : (bef c l).contains c = false := by
  unfold bef
  induction l with
  | nil => rfl
  | cons d r ih =>
    rw [List.takeWhile_cons]
    split
    · rename_i h
      have : (c == d) = false := by
        have : d ≠ c := by simpa using h
        simpa using fun q : c = d => this q.symm
      simp only [List.contains_cons]
      rw [this, Bool.false_or]
      exact ih
    · rfl
/-- partition at one sign -/
theorem part_cut (x : Str) (c : Nat) : tl (Txt.partition x ⟨#[c]⟩).1 = bef c (tl x) ∧ (Txt.partition x ⟨#[c]⟩).2.1 = (if (tl x).contains c = true then ⟨#[c]⟩ else Str.empty) ∧
    tl (Txt.partition x ⟨#[c]⟩).2.2 = (if (tl x).contains c = true then aft c (tl x) else []) := by
  rw [partition_par x ⟨#[c]⟩ (show tl ⟨#[c]⟩ ≠ [] from List.cons_ne_nil _ _)]
  rw [show tl (⟨#[c]⟩ : Str) = [c] from rfl, par_cut]
  cases h : (tl x).contains c with
  | true =>
    rw [if_pos rfl, if_pos rfl, if_pos rfl]
    refine ⟨?_, rfl, ?_⟩
    · show tl ⟨(([] : T) ++ bef c (tl x)).toArray⟩ = _
      rw [tl_mk]; rfl
    · show tl ⟨(aft c (tl x)).toArray⟩ = _
      rw [tl_mk]
  | false =>
    rw [if_neg Bool.false_ne_true, if_neg Bool.false_ne_true, if_neg Bool.false_ne_true]
    exact ⟨(bef_none h).symm, rfl, rfl⟩
end Mi
set_option Elab.async false
set_option linter.all false
set_option maxRecDepth 100000
/-! Mj: mirrors of the program: wrong places of parts. -/
namespace Mi
open PySem PySem.Builtin PySem.Builtin.Str PySem.StrLaws L2 TL
abbrev KP := Option (Str × Nat)
def kE : Str := "escape"
def kS : Str := "sign"
def kC : Str := "scheme"
def kP : Str := "port"
def kH : Str := "host"
/-- the pieces between "^", one behind another -/
def wAm (S : T) : Nat → Nat → List T → KP
  | _, _, [] => none
  | k, st, p :: ps => if 0 < k ∧ hex2 p = false then some (kE, st - 1) else if fo p S < p.length then some (kS, st + fo p S) else wAm S (k + 1) (st + p.length + 1) ps
/-- sign by sign -/
def scan (S : T) : Nat → T → KP
  | _, [] => none
  | i, c :: r => if c = 94 then (match r with
      | a :: b :: q => if (HEXT.contains a && HEXT.contains b) = true then scan S (i + 3) q else some (kE, i)
      | _ => some (kE, i)) else if S.contains c = true then scan S (i + 1) r else some (kS, i)
def SCHT : T := LETT ++ DIGT ++ tl "+-."
def badHead : T → Bool
  | [] => true
  | c :: _ => !LETT.contains c
def wSch (l : T) : KP := if badHead l = true then some (kC, 0) else if fo l SCHT < l.length then some (kC, fo l SCHT) else none
def val5 (l : T) : Nat := l.foldl (fun a c => a * 10 + (c - 48)) 0
def wPort (l : T) : KP := if fo (l.take 5) DIGT = 5 ∧ 65535 < val5 (l.take 5) then some (kP, 0) else if fo (l.take 5) DIGT < l.length then some (kP, fo (l.take 5) DIGT) else none
def BRKT : T := HEXT ++ tl ":."
def wBr (l : T) : KP := if fo (l.drop 1) BRKT = 0 ∨ (l.drop (1 + fo (l.drop 1) BRKT)).take 1 ≠ [93] then some (kH, 1 + fo (l.drop 1) BRKT)
  else if 1 + fo (l.drop 1) BRKT + 1 < l.length then some (kH, 1 + fo (l.drop 1) BRKT + 1) else none
theorem wAm_pos (S : T) : ∀ (ps : List T) (k k' st : Nat), 0 < k → 0 < k' → wAm S k st ps = wAm S k' st ps
  | [], _, _, _, _, _ => rfl
  | p :: ps, k, k', st, h, h' => by
    show (if 0 < k ∧ hex2 p = false then _ else if _ then _ else wAm S (k + 1) (st + p.length + 1) ps) = (if 0 < k' ∧ hex2 p = false then _ else if _ then _ else wAm S (k' + 1) (st + p.length + 1) ps)
    rw [wAm_pos S ps (k + 1) (k' + 1) _ (by omega) (by omega)]
    simp only [h, h', true_and]
theorem hex94 : HEXT.contains 94 = false := by decide +kernel
theorem hex2_cut (l : T) : ∀ p ps, cut 94 l = p :: ps → hex2 p = hex2 l := by
  intro p ps h
  match l with
  | [] => cases h; rfl
  | c :: r =>
    by_cases hc : c = 94
    · subst hc
      rw [cut_hit] at h
      cases h
      match r with
      | [] => rfl
      | d :: q => show false = (HEXT.contains 94 && HEXT.contains d); rw [hex94]; rfl
    · rw [cut_miss hc] at h
      match r with
      | [] => cases h; rfl
      | d :: q =>
        by_cases hd : d = 94
        · subst hd
          rw [cut_hit] at h
          cases h
          show false = (HEXT.contains c && HEXT.contains 94)
          rw [hex94, Bool.and_false]
        · rw [cut_miss hd] at h
          cases e : cut 94 q with
          | nil => exact absurd e (cut_ne 94 q)
          | cons p' ps' =>
            rw [e] at h
            cases h
            rfl
theorem scan_94 (S : T) (st : Nat) (r : T) : scan S st (94 :: r) = (match r with
      | a :: b :: q => if (HEXT.contains a && HEXT.contains b) = true then scan S (st + 3) q else some (kE, st)
      | _ => some (kE, st)) := by
  conv => lhs; unfold scan
  rw [if_pos rfl]
  rcases r with _ | ⟨a, _ | ⟨b, q⟩⟩ <;> rfl
theorem wAm_scan (S : T) (h94 : S.contains 94 = false) (hhex : ∀ c, HEXT.contains c = true → S.contains c = true) : ∀ (n : Nat) (l : T), l.length ≤ n → ∀ k st,
    wAm S k st (cut 94 l) = if 0 < k ∧ hex2 l = false then some (kE, st - 1) else scan S st l
  | n, [], _, k, st => by
    show (if 0 < k ∧ hex2 [] = false then some (kE, st - 1) else if fo [] S < ([] : T).length then _ else none) = _
    rw [fo_nil, if_neg (show ¬ 0 < ([] : T).length from Nat.lt_irrefl 0)]
    rfl
  | 0, c :: r, h, _, _ => absurd h (by simp)
  | n + 1, c :: r, h, k, st => by
    have hr : r.length ≤ n := by simpa using h
    by_cases hc : c = 94
    · subst hc
      have h2 : hex2 (94 :: r) = false := by
        match r with
        | [] => rfl
        | d :: q => show (HEXT.contains 94 && HEXT.contains d) = false; rw [hex94]; rfl
      rw [cut_hit, h2]
      show (if 0 < k ∧ hex2 [] = false then some (kE, st - 1) else if fo [] S < ([] : T).length then _ else wAm S (k + 1) (st + ([] : T).length + 1) (cut 94 r)) = _
      rw [fo_nil, if_neg (show ¬ 0 < ([] : T).length from Nat.lt_irrefl 0), show hex2 [] = false from rfl]
      by_cases hk : 0 < k
      · rw [if_pos ⟨hk, rfl⟩, if_pos ⟨hk, rfl⟩]
      · rw [if_neg (fun z => hk z.1), if_neg (fun z => hk z.1)]
        rw [wAm_scan S h94 hhex n r hr]
        rw [scan_94]
        match r with
        | [] => rfl
        | [a] => rfl
        | a :: b :: q =>
          show (if 0 < k + 1 ∧ (HEXT.contains a && HEXT.contains b) = false then some (kE, st) else scan S (st + 1) (a :: b :: q)) = if (HEXT.contains a && HEXT.contains b) = true then scan S (st + 3) q else some (kE, st)
          cases hab : (HEXT.contains a && HEXT.contains b) with
          | false => rw [if_pos ⟨Nat.succ_pos _, rfl⟩, if_neg Bool.false_ne_true]
          | true =>
            rw [if_neg (fun z => by cases z.2), if_pos rfl]
            rw [Bool.and_eq_true] at hab
            have ha := hhex a hab.1
            have hb := hhex b hab.2
            have na : a ≠ 94 := fun e => by subst e; rw [h94] at ha; cases ha
            have nb : b ≠ 94 := fun e => by subst e; rw [h94] at hb; cases hb
            conv => lhs; unfold scan
            rw [if_neg na, if_pos ha]
            conv => lhs; unfold scan
            rw [if_neg nb, if_pos hb]
    · have e1 : scan S st (c :: r) = if S.contains c = true then scan S (st + 1) r else some (kS, st) := by
        conv => lhs; unfold scan
        rw [if_neg hc]
      cases e : cut 94 r with
      | nil => exact absurd e (cut_ne 94 r)
      | cons p ps =>
        have ec : cut 94 (c :: r) = (c :: p) :: ps := by rw [cut_miss hc, e]
        have e2 := hex2_cut (c :: r) _ _ ec
        have e3 := wAm_scan S h94 hhex n r hr 0 (st + 1)
        rw [e, if_neg (fun z => Nat.lt_irrefl 0 z.1)] at e3
        rw [ec, e1]
        show (if 0 < k ∧ hex2 (c :: p) = false then some (kE, st - 1) else if fo (c :: p) S < (c :: p).length then some (kS, st + fo (c :: p) S) else wAm S (k + 1) (st + (c :: p).length + 1) ps) = _
        rw [e2]
        by_cases hk : 0 < k ∧ hex2 (c :: r) = false
        · rw [if_pos hk, if_pos hk]
        · rw [if_neg hk, if_neg hk]
          cases hs : S.contains c with
          | false =>
            rw [fo_out hs, if_pos (by simp), if_neg Bool.false_ne_true]
            rfl
          | true =>
            have e4 : wAm S 0 (st + 1) (p :: ps) = if fo p S < p.length then some (kS, st + 1 + fo p S) else wAm S 1 (st + 1 + p.length + 1) ps := by
              show (if 0 < 0 ∧ hex2 p = false then some (kE, st + 1 - 1) else if fo p S < p.length then some (kS, st + 1 + fo p S) else wAm S (0 + 1) (st + 1 + p.length + 1) ps) = _
              have hz : ¬ (0 < 0 ∧ hex2 p = false) := fun z => Nat.lt_irrefl 0 z.1
              rw [if_neg hz]
            rw [if_pos rfl, ← e3, e4, fo_in hs, wAm_pos S ps (k + 1) 1 _ (by omega) (by omega)]
            by_cases hl : fo p S < p.length
            · rw [if_pos hl, if_pos (by simp only [List.length_cons]; omega), show st + (fo p S + 1) = st + 1 + fo p S by omega]
            · rw [if_neg hl, if_neg (by simp only [List.length_cons]; omega)]
              congr 1
              simp only [List.length_cons]
              omega
theorem sw_pre (x y : Str) (hy : tl y ≠ []) : Txt.startswith x y = pre (tl y) (tl x) := by
  have h := at_iff (x := x) hy 0
  rw [List.drop_zero] at h
  unfold At at h
  show (decide (0 + y.length ≤ x.length) && subAt x y 0) = _
  cases hp : pre (tl y) (tl x) with
  | true =>
    obtain ⟨h1, h2⟩ := h.mpr hp
    rw [h2, decide_eq_true h1]; rfl
  | false =>
    cases hd : (decide (0 + y.length ≤ x.length) && subAt x y 0) with
    | false => rfl
    | true =>
      rw [Bool.and_eq_true] at hd
      rw [h.mp ⟨of_decide_eq_true hd.1, hd.2⟩] at hp
      cases hp
end Mi
set_option Elab.async false
set_option linter.all false
set_option maxRecDepth 100000
/-! Mk: find in a range; the split of a text into its parts. -/
namespace Mi
open PySem PySem.Builtin PySem.Builtin.Str PySem.StrLaws L2 TL
theorem range'_pre {lo n a : Nat} {pre post : List Nat} (h : List.range' lo n = pre ++ a :: post) : lo ≤ a ∧ ∀ k, lo ≤ k → k < a → k ∈ pre := by
  have hL : n = pre.length + (post.length + 1) := by
    have := congrArg List.length h
    simpa using this
  have hlen : a = lo + pre.length := by
    have h1 : (List.range' lo n)[pre.length]? = some a := by rw [h]; simp
    rw [List.getElem?_range' (by omega)] at h1
    have := Option.some.inj h1
    omega
  refine ⟨by omega, fun k h0 h1 => ?_⟩
  have h2 : (List.range' lo n)[k - lo]? = pre[k - lo]? := by rw [h, List.getElem?_append_left (by omega)]
  rw [List.getElem?_range' (by omega)] at h2
  have h3 : pre[k - lo]? = some k := by
    rw [← h2]
    congr 1
    omega
  exact List.mem_of_getElem? h3
theorem occ_from (x y : Str) (lo hi limit : Nat) (hl : 1 ≤ limit) :
    (occurrences x y lo hi limit = [] ∧ ∀ i, lo ≤ i → ¬ At x y hi i) ∨ ∃ i r, occurrences x y lo hi limit = i :: r ∧ lo ≤ i ∧ At x y hi i ∧ ∀ k, lo ≤ k → k < i → ¬ At x y hi k := by
  rw [occ_eq]
  rcases occ_first x y hi limit hl (List.range' lo (hi + 1 - lo)) lo (fun i h => by have := List.mem_range'.mp h; omega) with ⟨h0, hn⟩ | ⟨pre, a, post, e, h0, ha, hn⟩
  · refine .inl ⟨by rw [h0], fun i hlo hi' => ?_⟩
    have := hi'.1
    exact hn i (List.mem_range'.mpr ⟨i - lo, by omega, by omega⟩) hi'
  · obtain ⟨ha0, hpre⟩ := range'_pre e
    refine .inr ⟨a, ((forIn (List.range' lo (hi + 1 - lo)) ((#[] : Array Nat), lo) (occBody x y hi limit)).run.fst.toList).tail, ?_, ha0, ha, fun k h1 h2 => hn k (hpre k h1 h2)⟩
    generalize (forIn (List.range' lo (hi + 1 - lo)) ((#[] : Array Nat), lo) (occBody x y hi limit)).run.fst = arr at h0
    have h1 : arr.toList[0]? = some a := by simpa using h0
    cases hL : arr.toList with
    | nil => rw [hL] at h1; cases h1
    | cons b t => rw [hL] at h1; simp at h1; rw [h1]; rfl
theorem at_one (x : Str) (c hi i : Nat) (hh : hi ≤ (tl x).length) : At x ⟨#[c]⟩ hi i ↔ i < hi ∧ (tl x)[i]? = some c := by
  unfold At
  show i + 1 ≤ hi ∧ subAt x ⟨#[c]⟩ i = true ↔ _
  rw [subAt_eq]
  show i + 1 ≤ hi ∧ (((tl x).drop i).take 1 == [c]) = true ↔ _
  constructor
  · rintro ⟨h1, h2⟩
    refine ⟨h1, ?_⟩
    have h2 := eq_of_beq h2
    have : ((tl x).drop i)[0]? = some c := by
      have e : (((tl x).drop i).take 1)[0]? = some c := by rw [h2]; rfl
      rw [List.getElem?_take_of_lt (by decide)] at e
      exact e
    rw [List.getElem?_drop] at this
    simpa using this
  · rintro ⟨h1, h2⟩
    refine ⟨h1, ?_⟩
    obtain ⟨hk, e⟩ := List.getElem?_eq_some_iff.mp h2
    rw [List.drop_eq_getElem_cons hk, e]
    simp
theorem bef_len {c : Nat} : ∀ {m : T} {k : Nat}, m[k]? = some c → (∀ j, j < k → m[j]? ≠ some c) → (bef c m).length = k
  | [], k, h, _ => by simp at h
  | d :: r, 0, h, _ => by
    cases h
    simp [bef]
  | d :: r, k + 1, h, hn => by
    have hd : d ≠ c := fun e => hn 0 (Nat.succ_pos _) (by rw [e]; rfl)
    have ih := bef_len (m := r) (k := k) (by simpa using h) fun j hj => by
      have := hn (j + 1) (by omega)
      simpa using this
    unfold bef at ih ⊢
    rw [List.takeWhile_cons, if_pos (by simpa using hd), List.length_cons, ih]
/-- the first c from lo on, ahead of hi -/
def ixf (c : Nat) (l : T) (lo hi : Nat) : Option Nat := if ((l.take hi).drop lo).contains c = true then some (lo + (bef c ((l.take hi).drop lo)).length) else none
def ixI (o : Option Nat) : Int := match o with
  | some k => (k : Nat)
  | none => -1
theorem occ_ix (x : Str) (c lo hi : Nat) (hh : hi ≤ (tl x).length) : (match occurrences x ⟨#[c]⟩ lo hi 1 with | k :: _ => ((k : Nat) : Int) | [] => -1) = ixI (ixf c (tl x) lo hi) := by
  have hm : ∀ j, (((tl x).take hi).drop lo)[j]? = if lo + j < hi then (tl x)[lo + j]? else none := fun j => by
    rw [List.getElem?_drop, List.getElem?_take]
  rcases occ_from x ⟨#[c]⟩ lo hi 1 (Nat.le_refl _) with ⟨e, hn⟩ | ⟨i, r, e, h0, ha, hn⟩
  · rw [e]
    have : (((tl x).take hi).drop lo).contains c = false := by
      cases h : (((tl x).take hi).drop lo).contains c with
      | false => rfl
      | true =>
        obtain ⟨j, hj⟩ := List.mem_iff_getElem?.mp (List.contains_iff_mem.mp h)
        rw [hm] at hj
        by_cases hlt : lo + j < hi
        · rw [if_pos hlt] at hj
          exact absurd ((at_one x c hi (lo + j) hh).mpr ⟨hlt, hj⟩) (hn _ (by omega))
        · rw [if_neg hlt] at hj; cases hj
    unfold ixf
    rw [this, if_neg (by decide)]
    rfl
  · rw [e]
    obtain ⟨h1, h2⟩ := (at_one x c hi i hh).mp ha
    have hi0 : (((tl x).take hi).drop lo)[i - lo]? = some c := by
      rw [hm, if_pos (by omega), show lo + (i - lo) = i by omega]
      exact h2
    have hb := bef_len hi0 fun j hj hc => by
      rw [hm] at hc
      by_cases hlt : lo + j < hi
      · rw [if_pos hlt] at hc
        exact hn (lo + j) (by omega) (by omega) ((at_one x c hi _ hh).mpr ⟨hlt, hc⟩)
      · rw [if_neg hlt] at hc; cases hc
    unfold ixf
    rw [if_pos (List.contains_iff_mem.mpr (List.mem_of_getElem? hi0)), hb]
    show ((i : Nat) : Int) = ((lo + (i - lo) : Nat) : Int)
    congr 1
    omega
theorem find_ix (x : Str) (c : Nat) : Txt.find x ⟨#[c]⟩ = ixI (ixf c (tl x) 0 (tl x).length) := by
  rw [← occ_ix x c 0 _ (Nat.le_refl _), ← len_tl]
  rfl
theorem find3_ix (x : Str) (c i : Nat) : Txt.find3 x ⟨#[c]⟩ (i : Int) = ixI (ixf c (tl x) i (tl x).length) := by
  rw [← occ_ix x c i _ (Nat.le_refl _), ← len_tl]
  have e : fromIndex x.length (i : Int) = i := by
    unfold fromIndex
    rw [if_neg (by omega)]
    omega
  unfold Txt.find3
  rw [e]
  cases occurrences x ⟨#[c]⟩ i x.length 1 <;> rfl
theorem findIn_ix (x : Str) (c i j : Nat) (hj : j ≤ (tl x).length) : Txt.findIn x ⟨#[c]⟩ (i : Int) (j : Int) = ixI (ixf c (tl x) i j) := by
  rw [← occ_ix x c i _ hj]
  have e : fromIndex x.length (i : Int) = i := by
    unfold fromIndex
    rw [if_neg (by omega)]
    omega
  have e2 : toIndexW x.length (j : Int) = j := by
    unfold toIndexW
    rw [if_neg (by omega)]
    rw [len_tl]
    omega
  unfold Txt.findIn
  rw [e, e2]
  cases occurrences x ⟨#[c]⟩ i j 1 <;> rfl
theorem ixf_lt {c : Nat} {l : T} {lo hi k : Nat} (h : ixf c l lo hi = some k) : lo ≤ k ∧ k < hi ∧ l[k]? = some c := by
  unfold ixf at h
  split at h
  · rename_i hc
    have hk := Option.some.inj h
    generalize hm : (l.take hi).drop lo = m at *
    have hb := bef_aft hc
    have hg : (bef c m ++ c :: aft c m)[(bef c m).length]? = some c := by simp
    rw [← hb] at hg
    subst hm
    rw [List.getElem?_drop, List.getElem?_take] at hg
    subst hk
    by_cases hlt : lo + (bef c ((l.take hi).drop lo)).length < hi
    · rw [if_pos hlt] at hg
      exact ⟨by omega, hlt, hg⟩
    · rw [if_neg hlt] at hg; cases hg
  · cases h
/-! ### the split of a text -/
def eoh (l : T) (h : Nat) : Nat := if (l.drop h).take 1 = [91] then (match ixf 93 l h l.length with
    | some b => if (l.drop (b + 1)).take 1 = [58] then b + 1 else l.length
    | none => l.length) else (match ixf 58 l h l.length with
    | some k => k
    | none => l.length)
theorem eoh_le {l : T} {h : Nat} (hh : h ≤ l.length) : h ≤ eoh l h ∧ eoh l h ≤ l.length := by
  unfold eoh
  split
  · cases e : ixf 93 l h l.length with
    | none => exact ⟨hh, Nat.le_refl _⟩
    | some b =>
      have := ixf_lt e
      dsimp only
      split
      · omega
      · exact ⟨hh, Nat.le_refl _⟩
  · cases e : ixf 58 l h l.length with
    | none => exact ⟨hh, Nat.le_refl _⟩
    | some b =>
      have := ixf_lt e
      dsimp only
      omega
abbrev Rows3 := List (Nat × Nat × T)
def hostAt (l : T) : Nat := match ixf 64 l 0 l.length with
  | some k => k + 1
  | none => 0
def splA (l : T) (st : Nat) : Rows3 := (if 0 < hostAt l then [(1, st, l.take (hostAt l - 1))] else []) ++ ([(2, st + hostAt l, (l.drop (hostAt l)).take (eoh l (hostAt l) - hostAt l))] ++ (if eoh l (hostAt l) < l.length then [(3, st + eoh l (hostAt l) + 1, l.drop (eoh l (hostAt l) + 1))] else []))
def schAt (l : T) : Nat := if (bef 47 l).contains 58 = true then (match ixf 58 l 0 l.length with
    | some k => k + 1
    | none => 0) else 0
def splB (l : T) : Rows3 := (if (bef 47 l).contains 58 = true then [(0, 0, l.take (schAt l - 1))] else []) ++ (if (l.drop (schAt l)).take 2 = [47, 47] then splA (bef 47 (l.drop (schAt l + 2))) (schAt l + 2) ++ [(4, schAt l + 2 + (bef 47 (l.drop (schAt l + 2))).length, l.drop (schAt l + 2 + (bef 47 (l.drop (schAt l + 2))).length))] else [(4, schAt l, l.drop (schAt l))])
def splT (l : T) : Rows3 := splB (bef 63 (bef 35 l)) ++ ((if (bef 35 l).contains 63 = true then [(5, (bef 63 (bef 35 l)).length + 1, aft 63 (bef 35 l))] else []) ++ (if l.contains 35 = true then [(6, (bef 35 l).length + 1, aft 35 l)] else []))
theorem bef_mem {c d : Nat} {l : T} (h : (bef c l).contains d = true) : l.contains d = true := by
  rw [List.contains_iff_mem] at h ⊢
  exact (List.takeWhile_sublist _).subset h
theorem ixf_all {c : Nat} {l : T} : ixf c l 0 l.length = if l.contains c = true then some (bef c l).length else none := by
  unfold ixf
  rw [List.take_length, List.drop_zero, Nat.zero_add]
theorem splA_len (l : T) (st : Nat) : (splA l st).length ≤ 3 := by
  unfold splA
  simp only [List.length_append]
  split <;> split <;> simp
end Mi
set_option Elab.async false
set_option linter.all false
set_option maxRecDepth 100000
/-! Mm: rows of a split: their order, their lengths. -/
namespace Mi
open PySem PySem.Builtin PySem.Builtin.Str PySem.StrLaws L2 TL
theorem bef_le (c : Nat) (l : T) : (bef c l).length ≤ l.length := (List.takeWhile_sublist _).length_le
theorem aft_le (c : Nat) (l : T) : (aft c l).length ≤ l.length := by
  unfold aft
  rw [List.length_drop]
  have := (List.dropWhile_sublist (l := l) (fun d => d != c)).length_le
  omega
theorem mem_if {α : Type} {p : Prop} [Decidable p] {x y : α} (h : y ∈ (if p then [x] else [])) : p ∧ y = x := by
  by_cases hp : p
  · rw [if_pos hp] at h
    exact ⟨hp, List.mem_singleton.mp h⟩
  · rw [if_neg hp] at h
    cases h
theorem splA_tl {l : T} {st : Nat} {r : Nat × Nat × T} (h : r ∈ splA l st) : r.2.2.length ≤ l.length := by
  unfold splA at h
  rcases List.mem_append.mp h with h | h
  · rw [(mem_if h).2]
    show (l.take _).length ≤ _
    rw [List.length_take]; omega
  · rcases List.mem_append.mp h with h | h
    · rw [List.mem_singleton.mp h]
      show ((l.drop _).take _).length ≤ _
      rw [List.length_take, List.length_drop]; omega
    · rw [(mem_if h).2]
      show (l.drop _).length ≤ _
      rw [List.length_drop]; omega
theorem splB_tl {l : T} {r : Nat × Nat × T} (h : r ∈ splB l) : r.2.2.length ≤ l.length := by
  unfold splB at h
  rcases List.mem_append.mp h with h | h
  · rw [(mem_if h).2]
    show (l.take _).length ≤ _
    rw [List.length_take]; omega
  · by_cases hp : (l.drop (schAt l)).take 2 = [47, 47]
    · rw [if_pos hp] at h
      rcases List.mem_append.mp h with h | h
      · have h1 := splA_tl h
        have h2 := bef_le 47 (l.drop (schAt l + 2))
        rw [List.length_drop] at h2
        omega
      · rw [List.mem_singleton.mp h]
        show (l.drop _).length ≤ _
        rw [List.length_drop]; omega
    · rw [if_neg hp] at h
      rw [List.mem_singleton.mp h]
      show (l.drop _).length ≤ _
      rw [List.length_drop]; omega
theorem splT_tl {l : T} {r : Nat × Nat × T} (h : r ∈ splT l) : r.2.2.length ≤ l.length := by
  have b1 := bef_le 35 l
  have b2 := bef_le 63 (bef 35 l)
  unfold splT at h
  rcases List.mem_append.mp h with h | h
  · have := splB_tl h
    omega
  · rcases List.mem_append.mp h with h | h
    · rw [(mem_if h).2]
      show (aft 63 (bef 35 l)).length ≤ _
      have := aft_le 63 (bef 35 l)
      omega
    · rw [(mem_if h).2]
      exact aft_le 35 l
theorem splT_idx (l : T) : ((splT l).map (·.1)).Sublist [0, 1, 2, 3, 4, 5, 6] := by
  unfold splT splB splA
  simp only [List.map_append]
  split <;> split <;> split <;> split <;> first
    | (simp only [List.map_cons, List.map_nil]; decide)
    | (simp only [List.map_append]; split <;> split <;> (simp only [List.map_cons, List.map_nil]; decide))
end Mi
set_option Elab.async false
set_option linter.all false
set_option maxRecDepth 100000
/-! Mn: what is written is split into the same parts. -/
namespace Mi
open PySem PySem.Builtin PySem.Builtin.Str PySem.StrLaws L2 TL
theorem con_app (c : Nat) (l r : T) : (l ++ r).contains c = (l.contains c || r.contains c) := by
  rw [Bool.eq_iff_iff]; simp [List.contains_iff_mem]
theorem con_one (c d : Nat) : ([d] : T).contains c = decide (c = d) := by
  rw [Bool.eq_iff_iff]; simp
theorem con_ne {c d : Nat} {l : T} (h : (d :: l).contains c = false) : d ≠ c ∧ l.contains c = false := by
  simp only [List.contains_cons, Bool.or_eq_false_iff, beq_eq_false_iff_ne] at h
  exact ⟨fun e => h.1 e.symm, h.2⟩
theorem bef_hit (c : Nat) (r : T) : bef c (c :: r) = [] := by simp [bef]
theorem bef_miss {c d : Nat} (h : d ≠ c) (r : T) : bef c (d :: r) = d :: bef c r := by
  unfold bef; rw [List.takeWhile_cons, if_pos (by simpa using h)]
theorem aft_hit (c : Nat) (r : T) : aft c (c :: r) = r := by simp [aft]
theorem aft_miss {c d : Nat} (h : d ≠ c) (r : T) : aft c (d :: r) = aft c r := by
  unfold aft; rw [List.dropWhile_cons, if_pos (by simpa using h)]
theorem bef_app {c : Nat} : ∀ {l : T} (r : T), l.contains c = false → bef c (l ++ r) = l ++ bef c r
  | [], _, _ => rfl
  | d :: l, r, h => by
    obtain ⟨h1, h2⟩ := con_ne h
    rw [List.cons_append, bef_miss h1, bef_app r h2]; rfl
theorem aft_app {c : Nat} : ∀ {l : T} (r : T), l.contains c = false → aft c (l ++ r) = aft c r
  | [], _, _ => rfl
  | d :: l, r, h => by
    obtain ⟨h1, h2⟩ := con_ne h
    rw [List.cons_append, aft_miss h1, aft_app r h2]
theorem foAll {l S : T} (h : l.length ≤ fo l S) : ∀ c ∈ l, S.contains c = true := by
  intro c hc
  obtain ⟨i, hi, e⟩ := List.mem_iff_getElem.mp hc
  obtain ⟨d, h1, h2⟩ := fo_before (l := l) (S := S) (i := i) (by omega)
  rw [List.getElem?_eq_getElem hi] at h1
  rw [← e, Option.some.inj h1]
  exact h2
/-! ### signs of right parts -/
theorem nin {c : Nat} {l S : T} (h : ∀ d ∈ l, d = 94 ∨ S.contains d = true) (hc : S.contains c = false) (h94 : c ≠ 94) : l.contains c = false := by
  cases e : l.contains c with
  | false => rfl
  | true =>
    rcases h c (List.contains_iff_mem.mp e) with e2 | e2
    · exact absurd e2 h94
    · rw [hc] at e2; cases e2
theorem scan_all (S : T) (hhex : ∀ c, HEXT.contains c = true → S.contains c = true) : ∀ (n : Nat) (l : T) (i : Nat), l.length ≤ n → Mi.scan S i l = none → ∀ c ∈ l, c = 94 ∨ S.contains c = true
  | _, [], _, _, _ => fun c h => nomatch h
  | 0, c :: r, _, h, _ => absurd h (by simp)
  | n + 1, c :: r, i, h, e => by
    have hr : r.length ≤ n := by simpa using h
    by_cases hc : c = 94
    · subst hc
      rw [scan_94] at e
      match r, hr, e with
      | [], _, e => cases e
      | [a], _, e => cases e
      | a :: b :: q, hr, e =>
        have e' : (if (HEXT.contains a && HEXT.contains b) = true then Mi.scan S (i + 3) q else some (kE, i)) = none := e
        cases hab : (HEXT.contains a && HEXT.contains b) with
        | false => rw [hab, if_neg Bool.false_ne_true] at e'; cases e'
        | true =>
          rw [hab, if_pos rfl] at e'
          rw [Bool.and_eq_true] at hab
          simp only [List.length_cons] at hr
          have ih := scan_all S hhex n q (i + 3) (by omega) e'
          intro d hd
          rcases List.mem_cons.mp hd with e1 | hd
          · exact .inl e1
          rcases List.mem_cons.mp hd with e1 | hd
          · rw [e1]; exact .inr (hhex a hab.1)
          rcases List.mem_cons.mp hd with e1 | hd
          · rw [e1]; exact .inr (hhex b hab.2)
          · exact ih d hd
    · have e1 : Mi.scan S i (c :: r) = if S.contains c = true then Mi.scan S (i + 1) r else some (kS, i) := by
        conv => lhs; unfold Mi.scan
        rw [if_neg hc]
      rw [e1] at e
      cases hs : S.contains c with
      | false => rw [hs, if_neg Bool.false_ne_true] at e; cases e
      | true =>
        rw [hs, if_pos rfl] at e
        have ih := scan_all S hhex n r (i + 1) hr e
        intro d hd
        rcases List.mem_cons.mp hd with e1 | hd
        · rw [e1]; exact .inr hs
        · exact ih d hd
theorem wAm_all {S l : T} (h94 : S.contains 94 = false) (hhex : ∀ c, HEXT.contains c = true → S.contains c = true) (h : wAm S 0 0 (cut 94 l) = none) : ∀ c ∈ l, c = 94 ∨ S.contains c = true := by
  rw [wAm_scan S h94 hhex l.length l (Nat.le_refl _) 0 0, if_neg (fun z => Nat.lt_irrefl 0 z.1)] at h
  exact scan_all S hhex l.length l 0 (Nat.le_refl _) h
theorem wSch_all {l : T} (h : wSch l = none) : ∀ c ∈ l, c = 94 ∨ SCHT.contains c = true := by
  unfold wSch at h
  split at h
  · cases h
  · split at h
    · cases h
    · rename_i h1
      exact fun c hc => .inr (foAll (by omega) c hc)
theorem wPort_all {l : T} (h : wPort l = none) : ∀ c ∈ l, c = 94 ∨ DIGT.contains c = true := by
  unfold wPort at h
  split at h
  · cases h
  · split at h
    · cases h
    · rename_i h1
      have h2 := fo_le (l.take 5) DIGT
      rw [List.length_take] at h2
      have h3 : l.take 5 = l := List.take_of_length_le (by omega)
      rw [h3] at h1
      exact fun c hc => .inr (foAll (by omega) c hc)
theorem fo_split {l S : T} {n : Nat} (h : n ≤ fo l S) : ∀ c ∈ l.take n, S.contains c = true := by
  intro c hc
  obtain ⟨i, hi, e⟩ := List.mem_iff_getElem.mp hc
  rw [List.length_take] at hi
  obtain ⟨d, h1, h2⟩ := fo_before (l := l) (S := S) (i := i) (by omega)
  rw [List.getElem_take] at e
  rw [List.getElem?_eq_getElem (by omega)] at h1
  rw [← e, Option.some.inj h1]
  exact h2
/-- a right host in brackets -/
theorem wBr_form {l : T} (h0 : l.take 1 = [91]) (h : wBr l = none) : ∃ b, l = 91 :: (b ++ [93]) ∧ ∀ c ∈ b, c = 94 ∨ BRKT.contains c = true := by
  unfold wBr at h
  split at h
  · cases h
  · rename_i h1
    split at h
    · cases h
    · rename_i h2
      have h3 : (l.drop (1 + fo (l.drop 1) BRKT)).take 1 = [93] := Classical.byContradiction fun z => h1 (.inr z)
      rcases l with _ | ⟨a, r⟩
      · cases h0
      · have ea : a = 91 := (List.cons.inj h0).1
        subst ea
        have e1 : List.drop 1 (91 :: r) = r := rfl
        rw [e1] at h2 h3
        rw [Nat.add_comm 1 (fo r BRKT), List.drop_succ_cons] at h3
        have hb := fo_split (l := r) (S := BRKT) (Nat.le_refl _)
        have hl : (r.drop (fo r BRKT)).length ≤ 1 := by
          rw [List.length_drop]; simp only [List.length_cons] at h2; omega
        rw [List.take_of_length_le hl] at h3
        refine ⟨r.take (fo r BRKT), ?_, fun c hc => .inr (hb c hc)⟩
        rw [← h3, List.take_append_drop]
/-! ### the authority -/
theorem ixf_end (c : Nat) (pre B : T) : ixf c (pre ++ B) pre.length (pre ++ B).length = if B.contains c = true then some (pre.length + (bef c B).length) else none := by
  unfold ixf
  rw [List.take_length, List.drop_left]
def HostOk (h : T) : Prop := (∃ b, h = 91 :: (b ++ [93]) ∧ b.contains 93 = false) ∨ (h.take 1 ≠ [91] ∧ h.contains 58 = false)
theorem eoh_txt {pre h pp : T} (hpp : pp = [] ∨ ∃ p, pp = 58 :: p) (hh : HostOk h) : eoh (pre ++ (h ++ pp)) pre.length = pre.length + h.length := by
  have hlen : (pre ++ (h ++ pp)).length = pre.length + (h.length + pp.length) := by rw [List.length_append, List.length_append]
  have hdr : (pre ++ (h ++ pp)).drop (pre.length + h.length) = pp := by
    rw [← List.append_assoc, ← List.length_append, List.drop_left]
  unfold eoh
  rw [List.drop_left, ixf_end, ixf_end]
  rcases hh with ⟨b, rfl, hb⟩ | ⟨h1, h2⟩
  · have e0 : List.take 1 (91 :: (b ++ [93]) ++ pp) = [91] := rfl
    rw [if_pos e0]
    have e1 : (91 :: (b ++ [93]) ++ pp) = (91 :: b) ++ (93 :: pp) := by simp
    have hc : (91 :: b : T).contains 93 = false := by
      rw [show (91 :: b : T) = [91] ++ b from rfl, con_app, hb]; rfl
    have e2 : bef 93 (91 :: (b ++ [93]) ++ pp) = 91 :: b := by
      rw [e1, bef_app _ hc, bef_hit, List.append_nil]
    have e3 : (91 :: (b ++ [93]) ++ pp).contains 93 = true := by
      rw [e1, con_app]; simp
    rw [if_pos e3, e2]
    dsimp only
    have e4 : pre.length + (91 :: b).length + 1 = pre.length + (91 :: (b ++ [93])).length := by
      simp only [List.length_cons, List.length_append, List.length_nil]; omega
    rw [e4, hdr]
    rcases hpp with rfl | ⟨p, rfl⟩
    · rw [if_neg (by simp), hlen]; rfl
    · have e5 : List.take 1 (58 :: p) = [58] := rfl
      rw [if_pos e5]
  · have e1 : ¬ (h ++ pp).take 1 = [91] := by
      rcases h with _ | ⟨a, r⟩
      · rcases hpp with rfl | ⟨p, rfl⟩
        · simp
        · simp
      · simpa using h1
    rw [if_neg e1]
    rcases hpp with rfl | ⟨p, rfl⟩
    · rw [List.append_nil, h2, if_neg Bool.false_ne_true]
      dsimp only
      rw [List.length_append]
    · have e3 : (h ++ 58 :: p).contains 58 = true := by rw [con_app]; simp
      rw [if_pos e3, bef_app _ h2, bef_hit, List.append_nil]
theorem splA_txt {uN pN : Bool} {u h p : T} (st : Nat) (hu : uN = false → u.contains 64 = false) (hh : h.contains 64 = false) (hp : pN = false → p.contains 64 = false) (ho : HostOk h) :
    ∃ k2 k3, splA ((if uN = true then [] else u ++ [64]) ++ (h ++ (if pN = true then [] else [58] ++ p))) st = (if uN = true then [] else [(1, st, u)]) ++ ([(2, k2, h)] ++ (if pN = true then [] else [(3, k3, p)])) := by
  have hB : (h ++ (if pN = true then [] else [58] ++ p)).contains 64 = false := by
    rw [con_app, hh, Bool.false_or]
    cases pN with
    | true => rfl
    | false => rw [if_neg Bool.false_ne_true, con_app, hp rfl]; rfl
  have hpp : (if pN = true then [] else [58] ++ p : T) = [] ∨ ∃ q, (if pN = true then [] else [58] ++ p : T) = 58 :: q := by
    cases pN with
    | true => exact .inl rfl
    | false => exact .inr ⟨p, rfl⟩
  have hA : hostAt ((if uN = true then [] else u ++ [64]) ++ (h ++ (if pN = true then [] else [58] ++ p))) = (if uN = true then [] else u ++ [64] : T).length := by
    unfold hostAt
    rw [ixf_all]
    cases uN with
    | true =>
      rw [if_pos rfl, List.nil_append, hB, if_neg Bool.false_ne_true]; rfl
    | false =>
      have e : (if false = true then [] else u ++ [64] : T) = u ++ [64] := rfl
      rw [e, List.append_assoc, con_app, if_pos (by simp), bef_app _ (hu rfl)]
      rw [List.singleton_append, bef_hit, List.append_nil]
      dsimp only
      rw [List.length_append]; rfl
  generalize hpre : (if uN = true then [] else u ++ [64] : T) = pre at *
  generalize hppe : (if pN = true then [] else [58] ++ p : T) = pp at *
  have he := eoh_txt (pre := pre) hpp ho
  unfold splA
  rw [hA, he]
  refine ⟨st + pre.length, st + (pre.length + h.length) + 1, ?_⟩
  have r1 : (if 0 < pre.length then [(1, st, (pre ++ (h ++ pp)).take (pre.length - 1))] else [] : Rows3) = (if uN = true then [] else [(1, st, u)]) := by
    cases uN with
    | true =>
      have : pre = [] := hpre.symm
      subst this; rfl
    | false =>
      have : pre = u ++ [64] := hpre.symm
      subst this
      rw [if_pos (by simp), if_neg Bool.false_ne_true]
      congr 3
      rw [List.length_append, List.append_assoc]
      show (u ++ _).take u.length = u
      rw [List.take_left]
  have r2 : ((pre ++ (h ++ pp)).drop pre.length).take (pre.length + h.length - pre.length) = h := by
    rw [List.drop_left, Nat.add_sub_cancel_left, List.take_left]
  have r3 : (if pre.length + h.length < (pre ++ (h ++ pp)).length then [(3, st + (pre.length + h.length) + 1, (pre ++ (h ++ pp)).drop (pre.length + h.length + 1))] else [] : Rows3) = (if pN = true then [] else [(3, st + (pre.length + h.length) + 1, p)]) := by
    have hlen : (pre ++ (h ++ pp)).length = pre.length + (h.length + pp.length) := by rw [List.length_append, List.length_append]
    rw [hlen]
    cases pN with
    | true =>
      have : pp = [] := hppe.symm
      subst this
      rw [if_neg (by simp), if_pos rfl]
    | false =>
      have : pp = [58] ++ p := hppe.symm
      subst this
      rw [if_pos (by simp only [List.length_append, List.length_cons, List.length_nil]; omega), if_neg Bool.false_ne_true]
      congr 3
      have e : pre ++ (h ++ ([58] ++ p)) = (pre ++ (h ++ [58])) ++ p := by simp
      rw [e, show pre.length + h.length + 1 = (pre ++ (h ++ [58])).length by simp [Nat.add_assoc], List.drop_left]
  rw [r1, r2, r3]
/-! ### the whole -/
def atxt (uN hN pN : Bool) (u h p : T) : T := (if hN = true then [] else [47, 47]) ++ ((if uN = true then [] else u ++ [64]) ++ ((if hN = true then [] else h) ++ (if pN = true then [] else [58] ++ p)))
structure PathOk (sN hN : Bool) (l : T) : Prop where
  a : hN = false → l = [] ∨ l.take 1 = [47]
  n : hN = true → l.take 2 ≠ [47, 47]
  s : hN = true → sN = true → (bef 47 l).contains 58 = false
structure AuthOk (uN hN pN : Bool) (u h p : T) : Prop where
  no : hN = true → uN = true ∧ pN = true
  u : uN = false → u.contains 64 = false ∧ u.contains 47 = false
  h : hN = false → h.contains 64 = false ∧ h.contains 47 = false ∧ HostOk h
  p : pN = false → p.contains 64 = false ∧ p.contains 47 = false
theorem splB_txt {sN uN hN pN : Bool} {s u h p l : T} (hs : sN = false → s.contains 58 = false ∧ s.contains 47 = false) (A : AuthOk uN hN pN u h p) (hl : PathOk sN hN l) :
    ∃ k1 k2 k3 k4, splB ((if sN = true then [] else s ++ [58]) ++ (atxt uN hN pN u h p ++ l)) = (if sN = true then [] else [(0, 0, s)]) ++ ((if uN = true then [] else [(1, k1, u)]) ++ ((if hN = true then [] else [(2, k2, h)]) ++ ((if pN = true then [] else [(3, k3, p)]) ++ [(4, k4, l)]))) := by
  generalize hZ : atxt uN hN pN u h p ++ l = Z
  have hc : sN = true → (bef 47 Z).contains 58 = false := by
    intro es
    cases hN with
    | true =>
      obtain ⟨rfl, rfl⟩ := A.no rfl
      rw [← hZ]
      exact hl.s rfl es
    | false =>
      rw [← hZ]
      show (bef 47 (47 :: _)).contains 58 = false
      rw [bef_hit]; rfl
  generalize hpre : (if sN = true then [] else s ++ [58] : T) = pre
  have hcc : (bef 47 (pre ++ Z)).contains 58 = !sN := by
    cases sN with
    | true =>
      have : pre = [] := hpre.symm
      subst this
      exact hc rfl
    | false =>
      have : pre = s ++ [58] := hpre.symm
      subst this
      have hs2 := hs rfl
      rw [List.append_assoc, bef_app _ hs2.2, con_app]
      rw [List.singleton_append, bef_miss (by decide)]
      simp
  have hsc : schAt (pre ++ Z) = pre.length := by
    unfold schAt
    rw [hcc]
    cases sN with
    | true =>
      have : pre = [] := hpre.symm
      subst this
      rfl
    | false =>
      have : pre = s ++ [58] := hpre.symm
      subst this
      have hs2 := hs rfl
      rw [if_pos (show (!false) = true from rfl), ixf_all, List.append_assoc, con_app, if_pos (by simp), bef_app _ hs2.1]
      rw [List.singleton_append, bef_hit, List.append_nil]
      dsimp only
      rw [List.length_append]; rfl
  have r0 : (if (bef 47 (pre ++ Z)).contains 58 = true then [(0, 0, (pre ++ Z).take (pre.length - 1))] else [] : Rows3) = (if sN = true then [] else [(0, 0, s)]) := by
    rw [hcc]
    cases sN with
    | true => rfl
    | false =>
      have : pre = s ++ [58] := hpre.symm
      subst this
      rw [if_pos (show (!false) = true from rfl), if_neg Bool.false_ne_true]
      congr 3
      rw [List.length_append, List.append_assoc]
      show (s ++ _).take s.length = s
      rw [List.take_left]
  unfold splB
  rw [hsc, r0, List.drop_left]
  cases hN with
  | true =>
    obtain ⟨rfl, rfl⟩ := A.no rfl
    have eZ : Z = l := hZ.symm
    subst eZ
    rw [if_neg (hl.n rfl)]
    exact ⟨0, 0, 0, pre.length, rfl⟩
  | false =>
    have A3 := A.h rfl
    generalize hAt : (if uN = true then [] else u ++ [64]) ++ (h ++ (if pN = true then [] else [58] ++ p)) = At
    have eZ : Z = [47, 47] ++ (At ++ l) := by
      rw [← hZ, ← hAt]
      unfold atxt
      simp
    have h47 : At.contains 47 = false := by
      rw [← hAt, con_app, con_app, A3.2.1]
      have h1 : (if uN = true then [] else u ++ [64] : T).contains 47 = false := by
        cases uN with
        | true => rfl
        | false => rw [if_neg Bool.false_ne_true, con_app, (A.u rfl).2]; rfl
      have h2 : (if pN = true then [] else [58] ++ p : T).contains 47 = false := by
        cases pN with
        | true => rfl
        | false => rw [if_neg Bool.false_ne_true, con_app, (A.p rfl).2]; rfl
      rw [h1, h2]; rfl
    have hd2 : (pre ++ Z).drop (pre.length + 2) = At ++ l := by
      rw [eZ, ← List.append_assoc, show pre.length + 2 = (pre ++ [47, 47]).length by simp, List.drop_left]
    have hbl : bef 47 (At ++ l) = At := by
      rw [bef_app _ h47]
      rcases hl.a rfl with rfl | e
      · exact List.append_nil _
      · rcases l with _ | ⟨c, r⟩
        · exact List.append_nil _
        · have : c = 47 := (List.cons.inj e).1
          subst this
          rw [bef_hit, List.append_nil]
    have hd3 : (pre ++ Z).drop (pre.length + 2 + At.length) = l := by
      rw [← List.drop_drop, hd2, List.drop_left]
    have hz2 : Z.take 2 = [47, 47] := by rw [eZ]; rfl
    rw [if_pos hz2, hd2, hbl, hd3]
    obtain ⟨k2, k3, e⟩ := splA_txt (uN := uN) (pN := pN) (u := u) (h := h) (p := p) (pre.length + 2) (fun e => (A.u e).1) A3.1 (fun e => (A.p e).1) A3.2.2
    rw [← hAt, e]
    refine ⟨pre.length + 2, k2, k3, pre.length + 2 + ((if uN = true then [] else u ++ [64]) ++ (h ++ (if pN = true then [] else [58] ++ p))).length, ?_⟩
    rw [if_neg Bool.false_ne_true]
    simp only [List.append_assoc]
def ytxt (sN uN hN pN : Bool) (s u h p l : T) : T := (if sN = true then [] else s ++ [58]) ++ (atxt uN hN pN u h p ++ l)
theorem splT_txt {sN uN hN pN qN fN : Bool} {s u h p l q f : T} (hs : sN = false → s.contains 58 = false ∧ s.contains 47 = false) (A : AuthOk uN hN pN u h p) (hl : PathOk sN hN l)
    (h63 : (ytxt sN uN hN pN s u h p l).contains 63 = false) (h35 : (ytxt sN uN hN pN s u h p l).contains 35 = false) (hq : qN = false → q.contains 35 = false) :
    ∃ k1 k2 k3 k4 k5 k6, splT (ytxt sN uN hN pN s u h p l ++ ((if qN = true then [] else [63] ++ q) ++ (if fN = true then [] else [35] ++ f))) =
      ((if sN = true then [] else [(0, 0, s)]) ++ ((if uN = true then [] else [(1, k1, u)]) ++ ((if hN = true then [] else [(2, k2, h)]) ++ ((if pN = true then [] else [(3, k3, p)]) ++ [(4, k4, l)])))) ++ ((if qN = true then [] else [(5, k5, q)]) ++ (if fN = true then [] else [(6, k6, f)])) := by
  obtain ⟨k1, k2, k3, k4, e⟩ := splB_txt hs A hl
  change splB (ytxt sN uN hN pN s u h p l) = _ at e
  generalize ytxt sN uN hN pN s u h p l = Y at *
  generalize hQ : (if qN = true then [] else [63] ++ q : T) = Qt
  have hQ35 : Qt.contains 35 = false := by
    rw [← hQ]
    cases qN with
    | true => rfl
    | false => rw [if_neg Bool.false_ne_true, con_app, hq rfl]; rfl
  have hX : (Y ++ Qt).contains 35 = false := by rw [con_app, h35, hQ35]; rfl
  have b35 : bef 35 (Y ++ (Qt ++ (if fN = true then [] else [35] ++ f))) = Y ++ Qt := by
    rw [← List.append_assoc, bef_app _ hX]
    cases fN with
    | true => rw [if_pos rfl]; exact List.append_nil _
    | false => rw [if_neg Bool.false_ne_true, List.singleton_append, bef_hit, List.append_nil]
  have b63 : bef 63 (Y ++ Qt) = Y := by
    rw [bef_app _ h63, ← hQ]
    cases qN with
    | true => rw [if_pos rfl]; exact List.append_nil _
    | false => rw [if_neg Bool.false_ne_true, List.singleton_append, bef_hit, List.append_nil]
  have c35 : (Y ++ (Qt ++ (if fN = true then [] else [35] ++ f))).contains 35 = !fN := by
    rw [← List.append_assoc, con_app, hX, Bool.false_or]
    cases fN with
    | true => rfl
    | false => rw [if_neg Bool.false_ne_true, con_app]; rfl
  have c63 : (Y ++ Qt).contains 63 = !qN := by
    rw [con_app, h63, Bool.false_or, ← hQ]
    cases qN with
    | true => rfl
    | false => rw [if_neg Bool.false_ne_true, con_app]; rfl
  unfold splT
  rw [b35, b63, e, c35, c63]
  refine ⟨k1, k2, k3, k4, Y.length + 1, (Y ++ Qt).length + 1, ?_⟩
  congr 1
  congr 1
  · cases qN with
    | true => rfl
    | false =>
      rw [if_pos (show (!false) = true from rfl), if_neg Bool.false_ne_true, aft_app _ h63, ← hQ, if_neg Bool.false_ne_true, List.singleton_append, aft_hit]
  · cases fN with
    | true => rfl
    | false =>
      rw [if_pos (show (!false) = true from rfl), if_neg Bool.false_ne_true, ← List.append_assoc, aft_app _ hX, if_neg Bool.false_ne_true, List.singleton_append, aft_hit]
end Mi
set_option Elab.async false
set_option linter.all false
set_option maxRecDepth 100000
/-! Mo: texts of right signs and escapes, put together. -/
namespace Mi
open PySem PySem.Builtin PySem.Builtin.Str PySem.StrLaws L2 TL
theorem scan_step {S : T} {i c : Nat} {r : T} (hc : c ≠ 94) : Mi.scan S i (c :: r) = if S.contains c = true then Mi.scan S (i + 1) r else some (kS, i) := by
  conv => lhs; unfold Mi.scan
  rw [if_neg hc]
/-- nothing wrong, wherever it stands -/
def Nw (S l : T) : Prop := ∀ i, Mi.scan S i l = none
theorem scan_shift (S : T) : ∀ (n : Nat) (l : T) (i : Nat), l.length ≤ n → Mi.scan S i l = none → ∀ j, Mi.scan S j l = none
  | _, [], _, _, _, _ => rfl
  | 0, c :: r, _, h, _, _ => absurd h (by simp)
  | n + 1, c :: r, i, h, e, j => by
    have hr : r.length ≤ n := by simpa using h
    by_cases hc : c = 94
    · subst hc
      rw [scan_94] at e ⊢
      match r, hr, e with
      | [], _, e => cases e
      | [a], _, e => cases e
      | a :: b :: q, hr, e =>
        have e' : (if (HEXT.contains a && HEXT.contains b) = true then Mi.scan S (i + 3) q else some (kE, i)) = none := e
        show (if (HEXT.contains a && HEXT.contains b) = true then Mi.scan S (j + 3) q else some (kE, j)) = none
        cases hab : (HEXT.contains a && HEXT.contains b) with
        | false => rw [hab, if_neg Bool.false_ne_true] at e'; cases e'
        | true =>
          rw [hab, if_pos rfl] at e'
          rw [if_pos rfl]
          simp only [List.length_cons] at hr
          exact scan_shift S n q (i + 3) (by omega) e' (j + 3)
    · rw [scan_step hc] at e ⊢
      cases hs : S.contains c with
      | false => rw [hs, if_neg Bool.false_ne_true] at e; cases e
      | true =>
        rw [hs, if_pos rfl] at e
        rw [if_pos rfl]
        exact scan_shift S n r (i + 1) hr e (j + 1)
theorem Nw.of {S l : T} {i : Nat} (h : Mi.scan S i l = none) : Nw S l := scan_shift S l.length l i (Nat.le_refl _) h
theorem scan_app (S : T) (b : T) (hb : Nw S b) : ∀ (n : Nat) (l : T) (i : Nat), l.length ≤ n → Mi.scan S i l = none → Mi.scan S i (l ++ b) = none
  | _, [], i, _, _ => hb i
  | 0, c :: r, _, h, _ => absurd h (by simp)
  | n + 1, c :: r, i, h, e => by
    have hr : r.length ≤ n := by simpa using h
    by_cases hc : c = 94
    · subst hc
      rw [scan_94] at e
      match r, hr, e with
      | [], _, e => cases e
      | [a], _, e => cases e
      | x :: y :: q, hr, e =>
        have e' : (if (HEXT.contains x && HEXT.contains y) = true then Mi.scan S (i + 3) q else some (kE, i)) = none := e
        show Mi.scan S i (94 :: x :: y :: (q ++ b)) = none
        rw [scan_94]
        show (if (HEXT.contains x && HEXT.contains y) = true then Mi.scan S (i + 3) (q ++ b) else some (kE, i)) = none
        cases hab : (HEXT.contains x && HEXT.contains y) with
        | false => rw [hab, if_neg Bool.false_ne_true] at e'; cases e'
        | true =>
          rw [hab, if_pos rfl] at e'
          rw [if_pos rfl]
          simp only [List.length_cons] at hr
          exact scan_app S b hb n q (i + 3) (by omega) e'
    · rw [List.cons_append, scan_step hc]
      rw [scan_step hc] at e
      cases hs : S.contains c with
      | false => rw [hs, if_neg Bool.false_ne_true] at e; cases e
      | true =>
        rw [hs, if_pos rfl] at e
        rw [if_pos rfl]
        exact scan_app S b hb n r (i + 1) hr e
theorem Nw.nil {S : T} : Nw S [] := fun _ => rfl
theorem Nw.app {S a b : T} (ha : Nw S a) (hb : Nw S b) : Nw S (a ++ b) := fun i => scan_app S b hb a.length a i (Nat.le_refl _) (ha i)
theorem Nw.one {S : T} {c : Nat} (hc : c ≠ 94) (h : S.contains c = true) : Nw S [c] := fun i => by
  rw [scan_step hc, if_pos h]; rfl
theorem Nw.esc {S : T} {a b : Nat} (ha : HEXT.contains a = true) (hb : HEXT.contains b = true) : Nw S [94, a, b] := fun i => by
  rw [scan_94]
  show (if (HEXT.contains a && HEXT.contains b) = true then Mi.scan S (i + 3) [] else some (kE, i)) = none
  rw [ha, hb]; rfl
theorem Nw.tail {S r : T} {c : Nat} (hc : c ≠ 94) (h : Nw S (c :: r)) : Nw S r := by
  have := h 0
  rw [scan_step hc] at this
  cases hs : S.contains c with
  | false => rw [hs, if_neg Bool.false_ne_true] at this; cases this
  | true => rw [hs, if_pos rfl] at this; exact Nw.of this
theorem Nw.lit {S l : T} (h : (Mi.scan S 0 l).isNone = true) : Nw S l := Nw.of (Option.isNone_iff_eq_none.mp h)
/-- of the signs of z, and escapes -/
def Va (z t : T) : Prop := ∀ S : T, (∀ c, z.contains c = true → S.contains c = true) → Nw S t
theorem Va.nil {z : T} : Va z [] := fun _ _ => .nil
theorem Va.app {z a b : T} (ha : Va z a) (hb : Va z b) : Va z (a ++ b) := fun S h => (ha S h).app (hb S h)
theorem Va.one {z : T} {c : Nat} (hc : c ≠ 94) (h : z.contains c = true) : Va z [c] := fun S hs => .one hc (hs c h)
theorem Va.esc {z : T} {a b : Nat} (ha : HEXT.contains a = true) (hb : HEXT.contains b = true) : Va z [94, a, b] := fun S _ => .esc ha hb
theorem Va.use {z t S : T} (h : Va z t) (hs : z.all S.contains = true) : Nw S t := h S fun c hc => List.all_eq_true.mp hs c (List.contains_iff_mem.mp hc)
theorem nwJ {S : T} (h47 : S.contains 47 = true) : ∀ ps : List T, (∀ p ∈ ps, Nw S p) → Nw S (joinL [47] ps)
  | [], _ => .nil
  | [p], h => by
    have := h p (List.mem_cons_self ..)
    simpa only [joinL] using this
  | p :: q :: r, h => by
    have h1 := h p (List.mem_cons_self ..)
    have h2 := nwJ h47 (q :: r) fun x hx => h x (List.mem_cons_of_mem _ hx)
    simp only [joinL]
    exact h1.app ((Nw.one (by decide) h47).app h2)
end Mi
set_option Elab.async false
set_option linter.all false
set_option maxRecDepth 100000
/-! Ms: the mathematics of segments, stacks and cleaned paths, over lists of codes. -/
namespace Ms
open PySem PySem.Builtin PySem.Builtin.Str PySem.StrLaws L2 TL Mi
theorem cut_join {c : Nat} {ps : List T} (hne : ps ≠ []) (h : ∀ p ∈ ps, c ∉ p) : cut c (joinL [c] ps) = ps := by
  have a := spl_cut c (joinL [c] ps) []
  rw [TL.spl_join hne h] at a
  cases e : cut c (joinL [c] ps) with
  | nil => exact absurd e (cut_ne _ _)
  | cons p r => rw [e] at a; simpa using a.symm
theorem cut_free (c : Nat) : ∀ (l : T), ∀ p ∈ cut c l, c ∉ p
  | [], p, hp => by
    rw [List.mem_singleton.mp hp]
    exact List.not_mem_nil
  | d :: r, p, hp => by
    by_cases h : d = c
    · subst h
      rw [cut_hit] at hp
      rcases List.mem_cons.mp hp with e | hp
      · rw [e]; exact List.not_mem_nil
      · exact cut_free d r p hp
    · rw [cut_miss h] at hp
      have ih := cut_free c r
      cases e : cut c r with
      | nil => exact absurd e (cut_ne c r)
      | cons q qs =>
        rw [e] at hp ih
        rcases List.mem_cons.mp hp with e | hp
        · rw [e]
          intro z
          rcases List.mem_cons.mp z with z | z
          · exact h z.symm
          · exact ih q (List.mem_cons_self ..) z
        · exact ih p (List.mem_cons_of_mem _ hp)
theorem cut_mem (c : Nat) : ∀ (l : T), ∀ p ∈ cut c l, ∀ d ∈ p, d ∈ l
  | [], p, hp => by
    rw [List.mem_singleton.mp hp]
    exact fun d h => nomatch h
  | d :: r, p, hp => by
    by_cases h : d = c
    · subst h
      rw [cut_hit] at hp
      rcases List.mem_cons.mp hp with e | hp
      · rw [e]; exact fun d h => nomatch h
      · exact fun x hx => List.mem_cons_of_mem _ (cut_mem d r p hp x hx)
    · rw [cut_miss h] at hp
      have ih := cut_mem c r
      cases e : cut c r with
      | nil => exact absurd e (cut_ne c r)
      | cons q qs =>
        rw [e] at hp ih
        rcases List.mem_cons.mp hp with e | hp
        · rw [e]
          intro x z
          rcases List.mem_cons.mp z with z | z
          · rw [z]; exact List.mem_cons_self ..
          · exact List.mem_cons_of_mem _ (ih q (List.mem_cons_self ..) x z)
        · exact fun x hx => List.mem_cons_of_mem _ (ih p (List.mem_cons_of_mem _ hp) x hx)
/-- signs, and one for each piece -/
def wt (ps : List T) : Nat := (ps.map fun p => p.length + 1).sum
theorem wt_nil : wt [] = 0 := rfl
theorem wt_cons (p : T) (ps : List T) : wt (p :: ps) = p.length + 1 + wt ps := by simp [wt]
theorem wt_app (ps qs : List T) : wt (ps ++ qs) = wt ps + wt qs := by simp [wt]
theorem wt_cut (c : Nat) : ∀ l : T, wt (cut c l) = l.length + 1
  | [] => rfl
  | d :: r => by
    have ih := wt_cut c r
    by_cases h : d = c
    · subst h
      rw [cut_hit, wt_cons, ih]
      simp only [List.length_nil, List.length_cons]
      omega
    · rw [cut_miss h]
      cases e : cut c r with
      | nil => exact absurd e (cut_ne c r)
      | cons q qs =>
        rw [e, wt_cons] at ih
        simp only [wt_cons, List.length_cons]
        omega
theorem wt_join (c : Nat) : ∀ ps : List T, (joinL [c] ps).length ≤ wt ps
  | [] => Nat.zero_le _
  | [p] => by rw [wt_cons]; simp only [joinL]; omega
  | p :: q :: r => by
    have ih := wt_join c (q :: r)
    rw [wt_cons]
    simp only [joinL, List.length_append, List.length_cons, List.length_nil]
    omega
theorem wt_join1 (c : Nat) : ∀ ps : List T, ps ≠ [] → (joinL [c] ps).length + 1 = wt ps
  | [], h => absurd rfl h
  | [p], _ => by rw [wt_cons]; simp only [joinL, wt_nil, Nat.add_zero]
  | p :: q :: r, _ => by
    have ih := wt_join1 c (q :: r) (List.cons_ne_nil _ _)
    rw [wt_cons]
    simp only [joinL, List.length_append, List.length_cons, List.length_nil]
    omega
theorem wt_len (ps : List T) : ps.length ≤ wt ps := by
  induction ps with
  | nil => exact Nat.le_refl _
  | cons p r ih => rw [wt_cons, List.length_cons]; omega
theorem wt_sum (ps : List T) : (ps.map (·.length)).sum + ps.length = wt ps := by
  induction ps with
  | nil => rfl
  | cons p r ih => rw [wt_cons, List.map_cons, List.sum_cons, List.length_cons]; omega
theorem wt_drop (ps : List T) : wt ps.dropLast ≤ wt ps := by
  induction ps with
  | nil => exact Nat.le_refl _
  | cons p r ih =>
    cases r with
    | nil => rw [List.dropLast_singleton, wt_nil]; exact Nat.zero_le _
    | cons q s => rw [List.dropLast_cons_of_ne_nil (List.cons_ne_nil _ _), wt_cons, wt_cons]; omega
def isDot (s : T) : Bool := s == [46] || s == [46, 46]
/-- one segment on a stack -/
def stp (k : List T) (s : T) : List T := if s = [46] then k else if s = [46, 46] then k.dropLast else k ++ [s]
def lastDot (ss : List T) : Bool := match ss.getLast? with
  | some s => isDot s
  | none => false
/-- the stack of segments -/
def stkL (ss : List T) : List T := ss.foldl stp [] ++ (if lastDot ss = true then [[]] else [])
def stk (l : T) : List T := stkL (cut 47 (l.drop 1))
/-- the cleaned path; b: whether there is an authority -/
def cln (b : Bool) (l : T) : T := if l.take 1 = [47] then (if b = false ∧ (47 :: joinL [47] (stk l)).take 2 = [47, 47] then 47 :: 46 :: 47 :: joinL [47] (stk l) else 47 :: joinL [47] (stk l)) else l
theorem isDot_iff {s : T} : isDot s = true ↔ s = [46] ∨ s = [46, 46] := by simp [isDot]
theorem isDot_not {s : T} : isDot s = false ↔ s ≠ [46] ∧ s ≠ [46, 46] := by simp [isDot]
theorem stp_plain {k : List T} {s : T} (h : isDot s = false) : stp k s = k ++ [s] := by
  have h := isDot_not.mp h
  unfold stp
  rw [if_neg h.1, if_neg h.2]
theorem fold_plain : ∀ (ss k : List T), (∀ s ∈ ss, isDot s = false) → ss.foldl stp k = k ++ ss
  | [], k, _ => (List.append_nil _).symm
  | s :: r, k, h => by
    rw [List.foldl_cons, stp_plain (h s (List.mem_cons_self ..)), fold_plain r _ fun x hx => h x (List.mem_cons_of_mem _ hx), List.append_assoc]
    rfl
theorem lastDot_plain {ss : List T} (h : ∀ s ∈ ss, isDot s = false) : lastDot ss = false := by
  unfold lastDot
  cases e : ss.getLast? with
  | none => rfl
  | some s => exact h s (List.mem_of_getLast? e)
theorem stkL_plain {ss : List T} (h : ∀ s ∈ ss, isDot s = false) : stkL ss = ss := by
  unfold stkL
  rw [fold_plain ss [] h, lastDot_plain h, if_neg Bool.false_ne_true, List.append_nil, List.nil_append]
theorem stp_mem {k : List T} {s p : T} (h : p ∈ stp k s) : p ∈ k ∨ (p = s ∧ isDot s = false) := by
  unfold stp at h
  split at h
  · exact .inl h
  · split at h
    · exact .inl (List.dropLast_subset _ h)
    · rename_i h1 h2
      rcases List.mem_append.mp h with h | h
      · exact .inl h
      · exact .inr ⟨List.mem_singleton.mp h, isDot_not.mpr ⟨h1, h2⟩⟩
theorem fold_mem : ∀ {ss k : List T} {p : T}, p ∈ ss.foldl stp k → p ∈ k ∨ (p ∈ ss ∧ isDot p = false)
  | [], k, p, h => .inl h
  | s :: r, k, p, h => by
    rw [List.foldl_cons] at h
    rcases fold_mem h with h | h
    · rcases stp_mem h with h | ⟨rfl, h⟩
      · exact .inl h
      · exact .inr ⟨List.mem_cons_self .., h⟩
    · exact .inr ⟨List.mem_cons_of_mem _ h.1, h.2⟩
theorem stkL_mem {ss : List T} {p : T} (h : p ∈ stkL ss) : (p ∈ ss ∧ isDot p = false) ∨ p = [] := by
  unfold stkL at h
  rcases List.mem_append.mp h with h | h
  · rcases fold_mem h with h | h
    · exact nomatch h
    · exact .inl h
  · split at h
    · exact .inr (List.mem_singleton.mp h)
    · exact nomatch h
theorem stkL_dot {ss : List T} {p : T} (h : p ∈ stkL ss) : isDot p = false := by
  rcases stkL_mem h with h | h
  · exact h.2
  · rw [h]; rfl
theorem stkL_ne {ss : List T} (h : ss ≠ []) : stkL ss ≠ [] := by
  unfold stkL
  intro e
  obtain ⟨e1, e2⟩ := List.append_eq_nil_iff.mp e
  have hl : lastDot ss = false := by
    cases z : lastDot ss with
    | false => rfl
    | true => rw [z, if_pos rfl] at e2; cases e2
  obtain ⟨r, s, rfl⟩ : ∃ r s, ss = r ++ [s] := ⟨ss.dropLast, ss.getLast h, (List.dropLast_concat_getLast h).symm⟩
  have hd : isDot s = false := by
    unfold lastDot at hl
    rw [List.getLast?_append] at hl
    exact hl
  rw [List.foldl_append, List.foldl_cons, List.foldl_nil, stp_plain hd] at e1
  exact absurd e1 (by simp)
theorem stp_wt (k : List T) (s : T) : wt (stp k s) ≤ wt k + (s.length + 1) := by
  unfold stp
  split
  · omega
  · split
    · have := wt_drop k
      omega
    · rw [wt_app, wt_cons, wt_nil]; omega
theorem fold_wt : ∀ (ss k : List T), wt (ss.foldl stp k) ≤ wt k + wt ss
  | [], k => Nat.le_refl _
  | s :: r, k => by
    have := fold_wt r (stp k s)
    have := stp_wt k s
    rw [List.foldl_cons, wt_cons]
    omega
theorem stkL_wt (ss : List T) : wt (stkL ss) ≤ wt ss + 1 := by
  unfold stkL
  have := fold_wt ss []
  rw [wt_nil] at this
  rw [wt_app]
  split
  · rw [wt_cons, wt_nil]; simp only [List.length_nil]; omega
  · rw [wt_nil]; omega
theorem stk_wt (l : T) : wt (stk l) ≤ l.length + 2 := by
  have := stkL_wt (cut 47 (l.drop 1))
  rw [wt_cut, List.length_drop] at this
  show wt (stkL (cut 47 (l.drop 1))) ≤ _
  omega
theorem stk_ne (l : T) : stk l ≠ [] := stkL_ne (cut_ne _ _)
theorem stk_free {l p : T} (h : p ∈ stk l) : 47 ∉ p := by
  rcases stkL_mem h with h | h
  · exact cut_free 47 _ p h.1
  · rw [h]; exact List.not_mem_nil
theorem stk_sub {l p : T} (h : p ∈ stk l) : ∀ c ∈ p, c ∈ l := by
  rcases stkL_mem h with h | h
  · exact fun c hc => List.mem_of_mem_drop (cut_mem 47 _ p h.1 c hc)
  · rw [h]; exact fun c hc => nomatch hc
theorem stk_join (l : T) : stk (47 :: joinL [47] (stk l)) = stk l := by
  show stkL (cut 47 (joinL [47] (stk l))) = stk l
  rw [cut_join (stk_ne l) fun p hp => stk_free hp]
  exact stkL_plain fun p hp => stkL_dot hp
theorem stk_dot (l : T) : stk (47 :: 46 :: 47 :: joinL [47] (stk l)) = stk l := by
  show stkL (cut 47 (46 :: 47 :: joinL [47] (stk l))) = stk l
  rw [cut_miss (by decide), cut_hit, cut_join (stk_ne l) fun p hp => stk_free hp]
  show stkL ([46] :: stk l) = stk l
  unfold stkL
  have h1 : stp [] [46] = [] := rfl
  have hne := stk_ne l
  have h2 : lastDot ([46] :: stk l) = lastDot (stk l) := by
    unfold lastDot
    rw [List.getLast?_cons_of_ne_nil hne]
  have h3 : ∀ s ∈ stk l, isDot s = false := fun p hp => stkL_dot hp
  rw [List.foldl_cons, h1, h2, lastDot_plain h3, fold_plain _ _ h3, if_neg Bool.false_ne_true, List.append_nil, List.nil_append]
theorem cln_other {b : Bool} {l : T} (h : l.take 1 ≠ [47]) : cln b l = l := by
  unfold cln
  rw [if_neg h]
theorem cln_slash (b : Bool) (r : T) : cln b (47 :: r) = if b = false ∧ (47 :: joinL [47] (stk (47 :: r))).take 2 = [47, 47] then 47 :: 46 :: 47 :: joinL [47] (stk (47 :: r)) else 47 :: joinL [47] (stk (47 :: r)) := by
  unfold cln
  rw [if_pos (show List.take 1 (47 :: r) = [47] from rfl)]
theorem cln_cln (b : Bool) (l : T) : cln b (cln b l) = cln b l := by
  by_cases h : l.take 1 = [47]
  · by_cases h2 : b = false ∧ (47 :: joinL [47] (stk l)).take 2 = [47, 47]
    · have e : cln b l = 47 :: 46 :: 47 :: joinL [47] (stk l) := by
        unfold cln
        rw [if_pos h, if_pos h2]
      rw [e, cln_slash, stk_dot, if_pos h2]
    · have e : cln b l = 47 :: joinL [47] (stk l) := by
        unfold cln
        rw [if_pos h, if_neg h2]
      rw [e, cln_slash, stk_join, if_neg h2]
  · rw [cln_other h, cln_other h]
end Ms
set_option Elab.async false
set_option linter.all false
set_option maxRecDepth 100000
set_option maxHeartbeats 4000000
/-! Md: texts and lists of texts as values: slices, splits, beginnings. -/
namespace Md
open PySem PySem.Spec PyProof.Rows L2 Xs Mi Ms
open TL (tl)
theorem sl_to (z : Str) (n : Nat) : tl (cutS z none (some (n : Int))) = (tl z).take n := by
  show ((tl z).drop (HT.sIx z.length 0 none)).take _ = _
  rw [HT.sIx_nat, HT.sIx_none, List.drop_zero, Nat.sub_zero]
  rw [TL.len_tl]
  by_cases h : n ≤ (tl z).length
  · rw [Nat.min_eq_left h]
  · rw [Nat.min_eq_right (by omega), List.take_of_length_le (Nat.le_refl _), List.take_of_length_le (by omega)]
theorem sl_from (z : Str) (n : Nat) : tl (cutS z (some (n : Int)) none) = (tl z).drop n := by
  show ((tl z).drop (HT.sIx z.length 0 (some (n : Int)))).take _ = _
  rw [HT.sIx_nat, HT.sIx_none, TL.len_tl]
  rw [List.take_of_length_le (by rw [List.length_drop]; exact Nat.le_refl _)]
  by_cases h : n ≤ (tl z).length
  · rw [Nat.min_eq_left h]
  · rw [Nat.min_eq_right (by omega), List.drop_length, List.drop_of_length_le (by omega)]
theorem sl_mid (z : Str) (m n : Nat) : tl (cutS z (some (m : Int)) (some (n : Int))) = ((tl z).drop m).take (n - m) := by
  show ((tl z).drop (HT.sIx z.length 0 (some (m : Int)))).take _ = _
  rw [HT.sIx_nat, HT.sIx_nat, TL.len_tl]
  by_cases h : m ≤ (tl z).length
  · rw [Nat.min_eq_left h]
    by_cases h2 : n ≤ (tl z).length
    · rw [Nat.min_eq_left h2]
    · rw [Nat.min_eq_right (by omega)]
      rw [List.take_of_length_le (by rw [List.length_drop]; exact Nat.le_refl _), List.take_of_length_le (by rw [List.length_drop]; omega)]
  · have e : ∀ k : Nat, (List.drop (min m (tl z).length) (tl z)).take k = [] := fun k => by
      rw [show min m (tl z).length = (tl z).length by omega, List.drop_length, List.take_nil]
    rw [e, List.drop_of_length_le (by omega), List.take_nil]
theorem sl_len (z : Str) (lo hi : Option Int) : (cutS z lo hi).length ≤ z.length := by
  show ((z.cps.toList.drop _).take _).toArray.size ≤ z.cps.size
  simp only [List.size_toArray, List.length_take, List.length_drop, Array.length_toList]
  omega
theorem cutV_tail {x : V} {xs : List V} : cutV (x :: xs) (some 1) none = xs := by
  show ((x :: xs).drop (HT.sIx (x :: xs).length 0 (some 1))).take _ = xs
  have e : HT.sIx (x :: xs).length 0 (some 1) = 1 := by
    rw [show (some (1 : Int)) = some ((1 : Nat) : Int) from rfl, HT.sIx_nat]
    simp only [List.length_cons]
    omega
  rw [e, HT.sIx_none]
  simp
theorem str_dot {z : Str} : z = Str.ofString "." ↔ tl z = [46] := ⟨fun h => by rw [h]; rfl, fun h => TL.ext_tl h⟩
theorem str_dots {z : Str} : z = Str.ofString ".." ↔ tl z = [46, 46] := ⟨fun h => by rw [h]; rfl, fun h => TL.ext_tl h⟩
theorem inV_dot (z : Str) : inV (V.str z) [V.str (Str.ofString "."), V.str (Str.ofString "..")] = isDot (tl z) := by
  have e : inV (V.str z) [V.str (Str.ofString "."), V.str (Str.ofString "..")] = (decide (z = Str.ofString ".") || decide (z = Str.ofString "..")) := by
    unfold inV
    simp only [List.any_cons, List.any_nil, Bool.or_false]
    congr 1 <;> (simp only [eqV]; exact decide_eq_decide.mpr ⟨fun h => h.symm, fun h => h.symm⟩)
  rw [e, Bool.eq_iff_iff, isDot_iff]
  simp only [Bool.or_eq_true, decide_eq_true_eq, str_dot, str_dots]
theorem split_slash {t : Str} (h : (tl t).take 1 = [47]) : ∃ z zs, Txt.split t (Str.ofString "/") = z :: zs ∧ zs.map tl = cut 47 ((tl t).drop 1) := by
  have e := split_cut t 47 (by decide)
  obtain ⟨r, hr⟩ : ∃ r, tl t = 47 :: r := by
    cases z : tl t with
    | nil => rw [z] at h; cases h
    | cons c r => rw [z] at h; exact ⟨r, by rw [show c = 47 from by simpa using h]⟩
  rw [hr, cut_hit] at e
  change (Txt.split t (Str.ofString "/")).map tl = _ at e
  cases z : Txt.split t (Str.ofString "/") with
  | nil => rw [z] at e; cases e
  | cons y ys =>
    rw [z] at e
    refine ⟨y, ys, rfl, ?_⟩
    rw [hr]
    exact (List.cons.inj e).2
theorem take_snoc {α : Type} {zs : List α} {i : Nat} {z : α} (h : zs[i]? = some z) : zs.take (i + 1) = zs.take i ++ [z] := by
  rw [List.take_succ, h]; rfl
theorem map_str {zs : List Str} {i : Nat} {x : V} (h : (zs.map V.str)[i]? = some x) : ∃ z, zs[i]? = some z ∧ x = V.str z := by
  rw [List.getElem?_map] at h
  cases e : zs[i]? with
  | none => rw [e] at h; cases h
  | some z => rw [e] at h; exact ⟨z, rfl, (Option.some.inj h).symm⟩
theorem last_str {zs : List Str} (h : zs ≠ []) : ∃ z, atI (zs.map V.str) (-1) = some (V.str z) ∧ zs.getLast? = some z := by
  obtain ⟨r, s, rfl⟩ : ∃ r s, zs = r ++ [s] := ⟨zs.dropLast, zs.getLast h, (List.dropLast_concat_getLast h).symm⟩
  refine ⟨s, ?_, by simp⟩
  unfold atI ixN
  rw [if_neg (by decide), if_pos (by simp only [List.map_append, List.length_append, List.length_map, List.map_cons, List.length_cons]; omega)]
  show ((r ++ [s]).map V.str)[_]? = _
  have e : (-1 + (((r ++ [s]).map V.str).length : Int)).toNat = r.length := by
    simp only [List.length_map, List.length_append, List.length_cons, List.length_nil]; omega
  rw [e]
  simp
theorem slash_of {t : Str} : cutS t none (some 1) = Str.ofString "/" ↔ (tl t).take 1 = [47] := by
  have h := sl_to t 1
  exact ⟨fun e => by rw [← h]; show tl (cutS t none (some 1)) = _; rw [e]; rfl, fun e => TL.ext_tl (h.trans e)⟩
theorem slashes_of {t : Str} : cutS t none (some 2) = Str.ofString "//" ↔ (tl t).take 2 = [47, 47] := by
  have h := sl_to t 2
  exact ⟨fun e => by rw [← h]; show tl (cutS t none (some 2)) = _; rw [e]; rfl, fun e => TL.ext_tl (h.trans e)⟩
theorem starts1 (t : Str) : Txt.startswith t (Str.ofString "/") = decide ((tl t).take 1 = [47]) := by
  rw [sw_pre t _ (by decide)]
  show TL.pre [47] (tl t) = _
  rw [Bool.eq_iff_iff, decide_eq_true_eq]
  cases tl t with
  | nil => simp [TL.pre]
  | cons c r => simp [TL.pre]
theorem starts2 (t : Str) : Txt.startswith t (Str.ofString "//") = decide ((tl t).take 2 = [47, 47]) := by
  rw [sw_pre t _ (by decide)]
  show TL.pre [47, 47] (tl t) = _
  rw [Bool.eq_iff_iff, decide_eq_true_eq]
  cases tl t with
  | nil => simp [TL.pre]
  | cons c r => cases r with
    | nil => simp [TL.pre]
    | cons d r => simp [TL.pre]
theorem cutV_init (xs : List V) : cutV xs none (some (if (xs.length : Int) - 1 > 0 then (xs.length : Int) - 1 else 0)) = xs.dropLast := by
  have e : (if (xs.length : Int) - 1 > 0 then (xs.length : Int) - 1 else 0) = ((xs.length - 1 : Nat) : Int) := by
    split <;> omega
  rw [e]
  show (xs.drop (HT.sIx xs.length 0 none)).take _ = _
  rw [HT.sIx_nat, HT.sIx_none, List.drop_zero, Nat.sub_zero, List.dropLast_eq_take]
  rw [Nat.min_eq_left (by omega)]
end Md
set_option Elab.async false
set_option linter.all false
set_option maxRecDepth 100000
set_option maxHeartbeats 4000000
/-! Mq: folders of paths, right signs of cleaned paths. -/
namespace Mq
open PySem PySem.Spec PyProof.Rows L2 Xs Mi Ms Md
open TL (tl joinL)
theorem cut_app (c : Nat) : ∀ a b : T, cut c (a ++ c :: b) = cut c a ++ cut c b
  | [], b => by rw [List.nil_append, cut_hit]; rfl
  | d :: r, b => by
    have ih := cut_app c r b
    rw [List.cons_append]
    by_cases h : d = c
    · subst h
      rw [cut_hit, cut_hit, ih]; rfl
    · rw [cut_miss h, cut_miss h, ih]
      cases e : cut c r with
      | nil => exact absurd e (cut_ne c r)
      | cons p ps => rfl
theorem cut_none {c : Nat} : ∀ {l : T}, c ∉ l → cut c l = [l]
  | [], _ => rfl
  | d :: r, h => by
    have h1 : d ≠ c := fun e => h (by rw [e]; exact List.mem_cons_self ..)
    have ih := cut_none (c := c) (l := r) fun e => h (List.mem_cons_of_mem _ e)
    rw [cut_miss h1, ih]
theorem last_split {c : Nat} : ∀ {l : T}, c ∈ l → ∃ a b, l = a ++ c :: b ∧ c ∉ b
  | [], h => nomatch h
  | d :: r, h => by
    by_cases hr : c ∈ r
    · obtain ⟨a, b, e, hb⟩ := last_split hr
      exact ⟨d :: a, b, by rw [e]; rfl, hb⟩
    · have : d = c := by
        rcases List.mem_cons.mp h with e | e
        · exact e.symm
        · exact absurd e hr
      exact ⟨[], r, by rw [this]; rfl, hr⟩
/-- what stands behind the last slash -/
def lastP (l : T) : T := (cut 47 l).getLast?.getD []
theorem lastP_none {l : T} (h : 47 ∉ l) : lastP l = l := by
  unfold lastP
  rw [cut_none h]; rfl
theorem lastP_app {a b : T} (h : 47 ∉ b) : lastP (a ++ 47 :: b) = b := by
  unfold lastP
  rw [cut_app, cut_none h, List.getLast?_append]
  rfl
/-- the folder of a path -/
def fld (l : T) : T := if l.take (l.length - (lastP l).length) = [] then [47] else l.take (l.length - (lastP l).length)
theorem take_pre (a b : T) : (a ++ 47 :: b).take ((a ++ 47 :: b).length - b.length) = a ++ [47] := by
  have e : (a ++ 47 :: b).length - b.length = (a ++ [47]).length := by
    simp only [List.length_append, List.length_cons, List.length_nil]; omega
  rw [e, show a ++ 47 :: b = (a ++ [47]) ++ b by simp, List.take_left]
theorem fld_none {l : T} (h : 47 ∉ l) : fld l = [47] := by
  unfold fld
  rw [lastP_none h, Nat.sub_self, List.take_zero, if_pos rfl]
theorem fld_app {a b : T} (h : 47 ∉ b) : fld (a ++ 47 :: b) = a ++ [47] := by
  unfold fld
  rw [lastP_app h, take_pre, if_neg (by simp)]
theorem fld_len (l : T) : (fld l).length ≤ l.length + 1 := by
  unfold fld
  split
  · simp
  · rw [List.length_take]; omega
/-- what rfind tells -/
theorem rfind_slash (t : Str) : (Txt.rfind t (Str.ofString "/") = -1 ∧ 47 ∉ tl t) ∨ ∃ a b, tl t = a ++ 47 :: b ∧ 47 ∉ b ∧ Txt.rfind t (Str.ofString "/") = (a.length : Nat) := by
  have hl := TL.len_tl t
  rcases rfind_whole t (Str.ofString "/") with ⟨e, hn⟩ | ⟨i, e, hi, hn⟩
  · refine .inl ⟨e, fun h => ?_⟩
    obtain ⟨k, hk, e2⟩ := List.mem_iff_getElem.mp h
    exact hn k ((at_one t 47 t.length k (by omega)).mpr ⟨by omega, by rw [List.getElem?_eq_getElem hk, e2]⟩)
  · refine .inr ?_
    have hi2 := (at_one t 47 t.length i (by omega)).mp hi
    obtain ⟨hlt, e2⟩ := List.getElem?_eq_some_iff.mp hi2.2
    obtain ⟨a, b, e3, hb⟩ := last_split (c := 47) (l := tl t) (by rw [← e2]; exact List.getElem_mem hlt)
    refine ⟨a, b, e3, hb, ?_⟩
    rw [e]
    have h1 : ¬ i < a.length := fun z => by
      refine hn a.length z ((at_one t 47 t.length a.length (by omega)).mpr ⟨?_, ?_⟩)
      · rw [hl, e3]; simp only [List.length_append, List.length_cons]; omega
      · rw [e3]; simp
    have h2 : ¬ a.length < i := fun z => by
      refine hb ?_
      have := hi2.2
      rw [e3, List.getElem?_append_right (by omega)] at this
      obtain ⟨k, hk⟩ : ∃ k, i - a.length = k + 1 := ⟨i - a.length - 1, by omega⟩
      rw [hk, List.getElem?_cons_succ] at this
      exact List.mem_of_getElem? this
    omega
/-! ### right signs -/
theorem hex47 : HEXT.contains 47 = false := by decide +kernel
theorem scan_cut {S b : T} : ∀ (n : Nat) (a : T) (i : Nat), a.length ≤ n → Mi.scan S i (a ++ 47 :: b) = none → Mi.scan S i a = none ∧ ∃ j, Mi.scan S j b = none
  | n, [], i, _, h => by
    rw [List.nil_append, scan_step (by decide)] at h
    refine ⟨rfl, ?_⟩
    cases hc : S.contains 47 with
    | true => rw [hc, if_pos rfl] at h; exact ⟨_, h⟩
    | false => rw [hc, if_neg Bool.false_ne_true] at h; cases h
  | 0, c :: r, i, hl, h => absurd hl (by simp)
  | n + 1, c :: r, i, hl, h => by
    simp only [List.length_cons] at hl
    by_cases h94 : c = 94
    · subst h94
      rw [List.cons_append, scan_94] at h
      match r, hl, h with
      | [], hl, h =>
        cases b with
        | nil => cases h
        | cons y q =>
          dsimp only [List.nil_append] at h
          rw [hex47, Bool.false_and] at h
          cases h
      | [x], hl, h =>
        dsimp only [List.nil_append, List.cons_append] at h
        rw [hex47, Bool.and_false] at h
        cases h
      | x :: y :: q, hl, h =>
        dsimp only [List.cons_append] at h
        simp only [List.length_cons] at hl
        cases hx : (HEXT.contains x && HEXT.contains y) with
        | false => rw [hx] at h; cases h
        | true =>
          rw [hx, if_pos rfl] at h
          have ih := scan_cut n q (i + 3) (by omega) h
          refine ⟨?_, ih.2⟩
          rw [scan_94]
          dsimp only
          rw [hx, if_pos rfl]
          exact ih.1
    · rw [List.cons_append, scan_step h94] at h
      rw [scan_step h94]
      cases hc : S.contains c with
      | false => rw [hc, if_neg Bool.false_ne_true] at h; cases h
      | true =>
        rw [hc, if_pos rfl] at h
        rw [if_pos rfl]
        exact scan_cut n r (i + 1) (by omega) h
theorem nw_split {S a b : T} (h : Nw S (a ++ 47 :: b)) : Nw S a ∧ Nw S b := by
  obtain ⟨h1, j, h2⟩ := scan_cut a.length a 0 (Nat.le_refl _) (h 0)
  exact ⟨.of h1, .of h2⟩
theorem nw_cut {S : T} : ∀ (n : Nat) (l : T), l.length ≤ n → Nw S l → ∀ p ∈ cut 47 l, Nw S p
  | n, l, hl, h, p, hp => by
    by_cases hm : 47 ∈ l
    · obtain ⟨a, b, e, hb⟩ := last_split hm
      subst e
      have := nw_split h
      rw [cut_app, cut_none hb] at hp
      simp only [List.length_append, List.length_cons] at hl
      match n, hl with
      | n + 1, hl =>
        rcases List.mem_append.mp hp with hp | hp
        · exact nw_cut n a (by omega) this.1 p hp
        · rw [List.mem_singleton.mp hp]; exact this.2
    · rw [cut_none hm] at hp
      rw [List.mem_singleton.mp hp]; exact h
theorem nw_stk {S l : T} (h : Nw S l) (h1 : l.take 1 = [47]) : ∀ p ∈ stk l, Nw S p := by
  intro p hp
  obtain ⟨r, er⟩ : ∃ r, l = 47 :: r := by
    cases l with
    | nil => cases h1
    | cons c r => exact ⟨r, by rw [show c = 47 from by simpa using h1]⟩
  subst er
  have hr : Nw S r := (nw_split (a := []) h).2
  rcases stkL_mem hp with hp | hp
  · exact nw_cut r.length r (Nat.le_refl _) hr p hp.1
  · rw [hp]; exact Nw.nil
theorem nw_cln {S l : T} (h47 : S.contains 47 = true) (h46 : S.contains 46 = true) (b : Bool) (h : Nw S l) : Nw S (cln b l) := by
  by_cases h1 : l.take 1 = [47]
  · have hj := nwJ h47 (stk l) (nw_stk h h1)
    have hf : Nw S (47 :: joinL [47] (stk l)) := (Nw.one (by decide) h47).app hj
    obtain ⟨r, er⟩ : ∃ r, l = 47 :: r := by
      cases l with
      | nil => cases h1
      | cons c r => exact ⟨r, by rw [show c = 47 from by simpa using h1]⟩
    subst er
    rw [cln_slash]
    split
    · exact ((Nw.one (by decide) h47).app (Nw.one (by decide) h46)).app hf
    · exact hf
  · rw [cln_other h1]; exact h
theorem nw_fld {S l : T} (h47 : S.contains 47 = true) (h : Nw S l) : Nw S (fld l) := by
  by_cases hm : 47 ∈ l
  · obtain ⟨a, b, e, hb⟩ := last_split hm
    subst e
    rw [fld_app hb]
    exact (nw_split h).1.app (Nw.one (by decide) h47)
  · rw [fld_none hm]; exact Nw.one (by decide) h47
theorem fld_head {l : T} (h : l = [] ∨ l.take 1 = [47]) : (fld l).take 1 = [47] := by
  by_cases hm : 47 ∈ l
  · obtain ⟨a, b, e, hb⟩ := last_split hm
    subst e
    rw [fld_app hb]
    cases a with
    | nil => rfl
    | cons c r =>
      rcases h with h | h
      · cases h
      · simpa using h
  · rw [fld_none hm]; rfl
theorem cln_head {b : Bool} {l : T} (h : l.take 1 = [47]) : (cln b l).take 1 = [47] := by
  obtain ⟨r, er⟩ : ∃ r, l = 47 :: r := by
    cases l with
    | nil => cases h
    | cons c r => exact ⟨r, by rw [show c = 47 from by simpa using h]⟩
  subst er
  rw [cln_slash]
  split <;> rfl
theorem cln_two {l : T} (h : l.take 2 ≠ [47, 47]) : (cln false l).take 2 ≠ [47, 47] := by
  by_cases h1 : l.take 1 = [47]
  · obtain ⟨r, er⟩ : ∃ r, l = 47 :: r := by
      cases l with
      | nil => cases h1
      | cons c r => exact ⟨r, by rw [show c = 47 from by simpa using h1]⟩
    subst er
    rw [cln_slash]
    split
    · intro e
      exact absurd (List.cons.inj (List.cons.inj e).2).1 (by decide)
    · rename_i n
      exact fun e => n ⟨rfl, e⟩
  · rw [cln_other h1]; exact h
theorem cln_two' {l : T} (h1 : l.take 1 = [47]) : (cln false l).take 2 ≠ [47, 47] := by
  obtain ⟨r, er⟩ : ∃ r, l = 47 :: r := by
    cases l with
    | nil => cases h1
    | cons c r => exact ⟨r, by rw [show c = 47 from by simpa using h1]⟩
  subst er
  rw [cln_slash]
  split
  · intro e
    exact absurd (List.cons.inj (List.cons.inj e).2).1 (by decide)
  · rename_i n
    exact fun e => n ⟨rfl, e⟩
theorem cln_len (b : Bool) (l : T) : (cln b l).length ≤ l.length + 5 := by
  by_cases h1 : l.take 1 = [47]
  · have h2 := stk_wt l
    have h3 := wt_join 47 (stk l)
    unfold cln
    rw [if_pos h1]
    split <;> simp only [List.length_cons] <;> omega
  · rw [cln_other h1]; omega
end Mq
set_option Elab.async false
set_option linter.all false
set_option maxRecDepth 100000
/-! Me: plain segments exchanged, over lists of codes. -/
namespace Me
open PySem PySem.Builtin PySem.Builtin.Str PySem.StrLaws L2 TL Mi Ms Mq
/-- a way to exchange segments -/
structure Fx (f : T → T) : Prop where
  nil : f [] = []
  d1 : f [46] = [46]
  d2 : f [46, 46] = [46, 46]
  ne : ∀ x, f x = [] → x = []
  n1 : ∀ x, f x = [46] → x = [46]
  n2 : ∀ x, f x = [46, 46] → x = [46, 46]
  fr : ∀ x, 47 ∉ x → 47 ∉ f x
  len : ∀ x, (f x).length ≤ x.length + 8
/-- a path with its segments exchanged -/
def ex (f : T → T) (l : T) : T := joinL [47] ((cut 47 l).map f)
variable {f : T → T}
theorem cut_ex (h : Fx f) (l : T) : cut 47 (ex f l) = (cut 47 l).map f := by
  refine cut_join (fun e => cut_ne 47 l (List.map_eq_nil_iff.mp e)) fun p hp => ?_
  obtain ⟨q, hq, rfl⟩ := List.mem_map.mp hp
  exact h.fr q (cut_free 47 l q hq)
theorem ex_join {ps : List T} (hne : ps ≠ []) (hp : ∀ p ∈ ps, 47 ∉ p) : ex f (joinL [47] ps) = joinL [47] (ps.map f) := by
  unfold ex
  rw [cut_join hne hp]
theorem join_cut (l : T) : joinL [47] (cut 47 l) = l := by
  induction l with
  | nil => rfl
  | cons d r ih =>
    by_cases h : d = 47
    · subst h
      rw [cut_hit]
      cases e : cut 47 r with
      | nil => exact absurd e (cut_ne 47 r)
      | cons p ps =>
        rw [e] at ih
        show [] ++ ([47] ++ joinL [47] (p :: ps)) = 47 :: r
        rw [ih]; rfl
    · rw [cut_miss h]
      cases e : cut 47 r with
      | nil => exact absurd e (cut_ne 47 r)
      | cons p ps =>
        rw [e] at ih
        cases ps with
        | nil =>
          show d :: p = d :: r
          rw [show p = r from ih]
        | cons q qs =>
          show d :: p ++ ([47] ++ joinL [47] (q :: qs)) = d :: r
          rw [← ih]
          rfl
theorem joinL_app {c : Nat} : ∀ {a b : List T}, a ≠ [] → b ≠ [] → joinL [c] (a ++ b) = joinL [c] a ++ c :: joinL [c] b
  | [], _, h, _ => absurd rfl h
  | [p], [], _, h => absurd rfl h
  | [p], q :: r, _, _ => rfl
  | p :: q :: r, b, _, hb => by
    have ih := joinL_app (c := c) (a := q :: r) (List.cons_ne_nil _ _) hb
    show p ++ ([c] ++ joinL [c] ((q :: r) ++ b)) = p ++ ([c] ++ joinL [c] (q :: r)) ++ c :: joinL [c] b
    rw [ih]
    simp [List.append_assoc]
theorem ex_app (a b : T) : ex f (a ++ 47 :: b) = ex f a ++ 47 :: ex f b := by
  unfold ex
  rw [cut_app, List.map_append]
  exact joinL_app (fun e => cut_ne 47 a (List.map_eq_nil_iff.mp e)) (fun e => cut_ne 47 b (List.map_eq_nil_iff.mp e))
theorem ex_free {l : T} (h : 47 ∉ l) : ex f l = f l := by
  unfold ex
  rw [cut_none h]
  rfl
theorem ex_nil (h : Fx f) : ex f [] = [] := by
  rw [ex_free List.not_mem_nil, h.nil]
theorem ex_slash (h : Fx f) (r : T) : ex f (47 :: r) = 47 :: ex f r := by
  have := ex_app (f := f) [] r
  rw [ex_nil h] at this
  exact this
theorem bef_mem_not (l : T) : 47 ∉ bef 47 l := by
  induction l with
  | nil => exact List.not_mem_nil
  | cons d r ih =>
    by_cases h : d = 47
    · subst h
      rw [bef_hit]
      exact List.not_mem_nil
    · rw [bef_miss h]
      intro z
      rcases List.mem_cons.mp z with z | z
      · exact h z.symm
      · exact ih z
theorem head_or (l : T) : l = [] ∨ (∃ r, l = 47 :: r) ∨ ∃ p t, l = p ++ t ∧ p ≠ [] ∧ 47 ∉ p ∧ (t = [] ∨ ∃ r, t = 47 :: r) := by
  by_cases h47 : 47 ∈ l
  · obtain ⟨i, hi⟩ : ∃ a b, l = a ++ 47 :: b ∧ 47 ∉ a := by
      have := bef_aft (c := 47) (l := l) (List.contains_iff_mem.mpr h47)
      exact ⟨_, _, this, bef_mem_not l⟩
    obtain ⟨b, e, ha⟩ := hi
    cases i with
    | nil => exact .inr (.inl ⟨b, e⟩)
    | cons c r => exact .inr (.inr ⟨c :: r, 47 :: b, e, List.cons_ne_nil _ _, ha, .inr ⟨b, rfl⟩⟩)
  · cases l with
    | nil => exact .inl rfl
    | cons c r => exact .inr (.inr ⟨c :: r, [], (List.append_nil _).symm, List.cons_ne_nil _ _, h47, .inl rfl⟩)
theorem ex_parts (h : Fx f) {p t : T} (hp : 47 ∉ p) (ht : t = [] ∨ ∃ r, t = 47 :: r) : ∃ t', ex f (p ++ t) = f p ++ t' ∧ (t' = [] ∨ ∃ r, t' = 47 :: r) := by
  rcases ht with rfl | ⟨r, rfl⟩
  · exact ⟨[], by rw [List.append_nil, ex_free hp, List.append_nil], .inl rfl⟩
  · exact ⟨47 :: ex f r, by rw [ex_app, ex_free hp], .inr ⟨_, rfl⟩⟩
theorem ex_emp (h : Fx f) {l : T} : ex f l = [] ↔ l = [] := by
  refine ⟨fun e => ?_, fun e => by rw [e, ex_nil h]⟩
  rcases head_or l with rfl | ⟨r, rfl⟩ | ⟨p, t, rfl, hp, hf, ht⟩
  · rfl
  · rw [ex_slash h] at e
    cases e
  · obtain ⟨t', e2, _⟩ := ex_parts h hf ht
    rw [e2] at e
    exact absurd (h.ne p (List.append_eq_nil_iff.mp e).1) hp
theorem ex_head (h : Fx f) {l : T} : (ex f l).take 1 = [47] ↔ l.take 1 = [47] := by
  rcases head_or l with rfl | ⟨r, rfl⟩ | ⟨p, t, rfl, hp, hf, ht⟩
  · rw [ex_nil h]
  · rw [ex_slash h]
    exact ⟨fun _ => rfl, fun _ => rfl⟩
  · obtain ⟨t', e2, _⟩ := ex_parts h hf ht
    have hq : f p ≠ [] := fun e => hp (h.ne p e)
    have hfq := h.fr p hf
    rw [e2]
    have no : ∀ (q s : T), q ≠ [] → 47 ∉ q → (q ++ s).take 1 ≠ [47] := fun q s h1 h2 e => by
      cases q with
      | nil => exact h1 rfl
      | cons c r => exact h2 (by rw [show c = 47 from (List.cons.inj e).1]; exact List.mem_cons_self ..)
    exact ⟨fun e => absurd e (no _ _ hq hfq), fun e => absurd e (no _ _ hp hf)⟩
theorem stp_map (h : Fx f) (k : List T) (s : T) : stp (k.map f) (f s) = (stp k s).map f := by
  unfold stp
  by_cases h1 : s = [46]
  · subst h1
    rw [if_pos rfl, if_pos h.d1]
  · rw [if_neg h1, if_neg fun e => h1 (h.n1 s e)]
    by_cases h2 : s = [46, 46]
    · subst h2
      rw [if_pos rfl, if_pos h.d2, List.map_dropLast]
    · rw [if_neg h2, if_neg fun e => h2 (h.n2 s e), List.map_append]
      rfl
theorem fold_map (h : Fx f) : ∀ (ss k : List T), (ss.map f).foldl stp (k.map f) = (ss.foldl stp k).map f
  | [], _ => rfl
  | s :: r, k => by
    rw [List.map_cons, List.foldl_cons, List.foldl_cons, stp_map h, fold_map h r]
theorem isDot_map (h : Fx f) (s : T) : isDot (f s) = isDot s := by
  rw [Bool.eq_iff_iff, isDot_iff, isDot_iff]
  constructor
  · rintro (e | e)
    · exact .inl (h.n1 s e)
    · exact .inr (h.n2 s e)
  · rintro (rfl | rfl)
    · exact .inl h.d1
    · exact .inr h.d2
theorem lastDot_map (h : Fx f) (ss : List T) : lastDot (ss.map f) = lastDot ss := by
  unfold lastDot
  rw [List.getLast?_map]
  cases ss.getLast? with
  | none => rfl
  | some s => exact isDot_map h s
theorem stkL_map (h : Fx f) (ss : List T) : stkL (ss.map f) = (stkL ss).map f := by
  unfold stkL
  rw [show ([] : List T) = ([] : List T).map f from rfl, fold_map h, lastDot_map h, List.map_append]
  split
  · rw [List.map_cons, h.nil]
    rfl
  · rfl
theorem stk_ex (h : Fx f) (r : T) : stk (47 :: ex f r) = (stk (47 :: r)).map f := by
  show stkL (cut 47 (ex f r)) = (stkL (cut 47 r)).map f
  rw [cut_ex h, stkL_map h]
theorem two_ex (h : Fx f) {r : T} : (47 :: ex f r).take 2 = [47, 47] ↔ (47 :: r).take 2 = [47, 47] := by
  have a : ∀ l : T, (47 :: l).take 2 = [47, 47] ↔ l.take 1 = [47] := fun l => by
    cases l with
    | nil => simp
    | cons c s => simp
  rw [a, a]
  exact ex_head h
theorem cln_ex (h : Fx f) (b : Bool) (l : T) : cln b (ex f l) = ex f (cln b l) := by
  by_cases h1 : l.take 1 = [47]
  · obtain ⟨r, rfl⟩ : ∃ r, l = 47 :: r := by
      cases l with
      | nil => cases h1
      | cons c r => exact ⟨r, by rw [show c = 47 from (List.cons.inj h1).1]⟩
    have ej : joinL [47] ((stk (47 :: r)).map f) = ex f (joinL [47] (stk (47 :: r))) := (ex_join (stk_ne _) fun p hp => stk_free hp).symm
    rw [ex_slash h, cln_slash, cln_slash, stk_ex h, ej]
    by_cases c : b = false ∧ (47 :: joinL [47] (stk (47 :: r))).take 2 = [47, 47]
    · rw [if_pos c, if_pos ⟨c.1, (two_ex h).mpr c.2⟩, ex_slash h, show (46 :: 47 :: joinL [47] (stk (47 :: r)) : T) = [46] ++ 47 :: joinL [47] (stk (47 :: r)) from rfl, ex_app, ex_free (l := [46]) (by decide), h.d1]
      rfl
    · rw [if_neg c, if_neg fun z => c ⟨z.1, (two_ex h).mp z.2⟩, ex_slash h]
  · rw [cln_other h1, cln_other fun e => h1 ((ex_head h).mp e)]
theorem road_ex (h : Fx f) (l r : T) : ex f (fld l ++ r) = fld (ex f l) ++ ex f r := by
  by_cases h47 : 47 ∈ l
  · obtain ⟨a, b, rfl, hb⟩ := last_split h47
    rw [fld_app hb, ex_app, ex_free (l := b) hb, fld_app (h.fr b hb), List.append_assoc, List.append_assoc]
    exact ex_app a r
  · rw [fld_none h47, ex_free h47, fld_none (h.fr l h47)]
    exact ex_slash h r
theorem wt_map (h : Fx f) (ps : List T) : wt (ps.map f) ≤ 9 * wt ps := by
  induction ps with
  | nil => exact Nat.zero_le _
  | cons p r ih =>
    rw [List.map_cons, wt_cons, wt_cons]
    have := h.len p
    omega
theorem ex_len (h : Fx f) (l : T) : (ex f l).length ≤ 9 * l.length + 8 := by
  have e1 := wt_join1 47 ((cut 47 l).map f) fun e => cut_ne 47 l (List.map_eq_nil_iff.mp e)
  have e2 := wt_map h (cut 47 l)
  have e3 := wt_cut 47 l
  unfold ex
  omega
theorem ex_bef (h : Fx f) (l : T) : bef 47 (ex f l) = f (bef 47 l) := by
  rcases head_or l with rfl | ⟨r, rfl⟩ | ⟨p, t, rfl, hp, hf, ht⟩
  · rw [ex_nil h]
    exact h.nil.symm
  · rw [ex_slash h, bef_hit, bef_hit, h.nil]
  · have cb : ∀ {p : T}, 47 ∉ p → ∀ t : T, (t = [] ∨ ∃ r, t = 47 :: r) → bef 47 (p ++ t) = p := fun {p} hp t ht => by
      rw [bef_app _ (by
        cases e : p.contains 47 with
        | false => rfl
        | true => exact absurd (List.contains_iff_mem.mp e) hp)]
      rcases ht with rfl | ⟨r, rfl⟩
      · show p ++ [] = p
        rw [List.append_nil]
      · rw [bef_hit, List.append_nil]
    obtain ⟨t', e2, ht'⟩ := ex_parts h hf ht
    rw [e2, cb (h.fr p hf) _ ht', cb hf _ ht]
/-- the exchange that a list of pairs tells -/
def exf (prs : List (T × T)) (x : T) : T := ((prs.find? fun p => decide (p.1 = x)).map (·.2)).getD x
/-- pairs that exchange plain segments -/
def okPr (p : T × T) : Bool := decide (p.1 ≠ [] ∧ p.1 ≠ [46] ∧ p.1 ≠ [46, 46] ∧ p.2 ≠ [] ∧ p.2 ≠ [46] ∧ p.2 ≠ [46, 46] ∧ p.2.length ≤ 8) && !p.2.contains 47
theorem exf_or (prs : List (T × T)) (x : T) : exf prs x = x ∨ ∃ p ∈ prs, p.1 = x ∧ exf prs x = p.2 := by
  unfold exf
  cases e : prs.find? fun p => decide (p.1 = x) with
  | none => exact .inl rfl
  | some p => exact .inr ⟨p, List.mem_of_find?_eq_some e, of_decide_eq_true (by simpa using List.find?_some e), rfl⟩
theorem exf_fx {prs : List (T × T)} (h : ∀ p ∈ prs, okPr p = true) : Fx (exf prs) := by
  have hp : ∀ p ∈ prs, (p.1 ≠ [] ∧ p.1 ≠ [46] ∧ p.1 ≠ [46, 46] ∧ p.2 ≠ [] ∧ p.2 ≠ [46] ∧ p.2 ≠ [46, 46] ∧ p.2.length ≤ 8) ∧ 47 ∉ p.2 := fun p hp => by
    have := h p hp
    unfold okPr at this
    rw [Bool.and_eq_true] at this
    refine ⟨of_decide_eq_true this.1, fun z => ?_⟩
    have t := this.2
    rw [List.contains_iff_mem.mpr z] at t
    cases t
  constructor
  · rcases exf_or prs [] with e | ⟨p, m, e, _⟩
    · exact e
    · exact absurd e (hp p m).1.1
  · rcases exf_or prs [46] with e | ⟨p, m, e, _⟩
    · exact e
    · exact absurd e (hp p m).1.2.1
  · rcases exf_or prs [46, 46] with e | ⟨p, m, e, _⟩
    · exact e
    · exact absurd e (hp p m).1.2.2.1
  · intro x z
    rcases exf_or prs x with e | ⟨p, m, e, e2⟩
    · rw [← e, z]
    · exact absurd (by rw [← e2, z]) (hp p m).1.2.2.2.1
  · intro x z
    rcases exf_or prs x with e | ⟨p, m, e, e2⟩
    · rw [← e, z]
    · exact absurd (by rw [← e2, z]) (hp p m).1.2.2.2.2.1
  · intro x z
    rcases exf_or prs x with e | ⟨p, m, e, e2⟩
    · rw [← e, z]
    · exact absurd (by rw [← e2, z]) (hp p m).1.2.2.2.2.2.1
  · intro x z
    rcases exf_or prs x with e | ⟨p, m, e, e2⟩
    · rw [e]; exact z
    · rw [e2]; exact (hp p m).2
  · intro x
    rcases exf_or prs x with e | ⟨p, m, e, e2⟩
    · rw [e]; omega
    · rw [e2]
      have := (hp p m).1.2.2.2.2.2.2
      omega
end Me
set_option Elab.async false
set_option linter.all false
set_option maxRecDepth 100000
set_option maxHeartbeats 4000000
/-! R21: comprehensions over lists and over enumerate. -/
namespace Xs
open PySem PySem.Spec PyProof.Rows L2
theorem lcp_list {K : PySem.W.Frag} {a : Addr} {xs : List V} {g : TG} {tt : TT} {te : TE} {vs : List Nat} {σ : L2.St} {H1 : Hp} {D : Addr} {Qd : Hp → Prop} (Pv : Nat → Hp → Prop) (h0 : Pv 0 (upd H1 D (.lst []))) (hl : ∀ i H, i ≤ xs.length → Pv i H → SqL K H a xs)
    (hs : ∀ i x H, xs[i]? = some x → Pv i H → g x (wipe σ vs) H fun σ2 H2 => wipe σ2 vs = wipe σ vs ∧ tt σ2 H2 fun b H3 =>
      if b = true then te σ2 H3 fun y H4 => ∃ acc, H4 D = some (.lst acc) ∧ acc.length < sizeLine ∧ Pv (i + 1) (upd H4 D (.lst (acc ++ [y]))) else Pv (i + 1) H3) (hd : ∀ H, Pv xs.length H → Qd H) : LcP (Itl K a) g tt te vs σ H1 D Qd := by
  refine ⟨fun i m H => m = xs.length - i ∧ i ≤ xs.length ∧ Pv i H, ⟨xs.length, by simp, Nat.zero_le _, h0⟩, ?_⟩
  rintro i m H ⟨rfl, hi, p⟩
  have q := hl i H hi p
  by_cases hlt : i < xs.length
  · refine .inr ⟨⟨xs, xs[i], q, by simp [hlt]⟩, Pv (i + 1), fun H' p' => ⟨xs.length - (i + 1), by omega, rfl, hlt, p'⟩, fun v H' y => ?_⟩
    obtain ⟨e, y⟩ := y
    subst e
    exact hs i v _ (y xs q) p
  · have e : i = xs.length := by omega
    subst e
    exact .inl ⟨⟨xs, q, Nat.le_refl _⟩, hd H p⟩
theorem lcp_enum {K : PySem.W.Frag} {a : Addr} {xs : List V} {g : TG} {tt : TT} {te : TE} {vs : List Nat} {σ : L2.St} {H1 : Hp} {D : Addr} {Qd : Hp → Prop} (Pv : Nat → Hp → Prop) (h0 : Pv 0 (upd H1 D (.lst []))) (hl : ∀ i H, i ≤ xs.length → Pv i H → SqL K H a xs)
    (hs : ∀ i x H T, xs[i]? = some x → Pv i H → H T = none → g (.ref T) (wipe σ vs) (upd H T (.tup [.int (i : Nat), x])) fun σ2 H2 => wipe σ2 vs = wipe σ vs ∧ tt σ2 H2 fun b H3 =>
      if b = true then te σ2 H3 fun y H4 => ∃ acc, H4 D = some (.lst acc) ∧ acc.length < sizeLine ∧ Pv (i + 1) (upd H4 D (.lst (acc ++ [y]))) else Pv (i + 1) H3) (hd : ∀ H, Pv xs.length H → Qd H) : LcP (Ite K a) g tt te vs σ H1 D Qd := by
  refine ⟨fun i m H => m = xs.length - i ∧ i ≤ xs.length ∧ Pv i H, ⟨xs.length, by simp, Nat.zero_le _, h0⟩, ?_⟩
  rintro i m H ⟨rfl, hi, p⟩
  have q := hl i H hi p
  by_cases hlt : i < xs.length
  · refine .inr ⟨⟨xs, xs[i], q, by simp [hlt]⟩, Pv (i + 1), fun H' p' => ⟨xs.length - (i + 1), by omega, rfl, hlt, p'⟩, fun v H' y => ?_⟩
    obtain ⟨T, z, e, hT, e2, y⟩ := y
    subst e e2
    exact hs i z _ T (y xs q) p hT
  · have e : i = xs.length := by omega
    subst e
    exact .inl ⟨⟨xs, q, Nat.le_refl _⟩, hd H p⟩
section
variable {X : Cx} {s : Shared} {H : Hp} {sc : Scope} {env : Env} {fp : List Addr}
/-- a target of several names in a comprehension -/
theorem pg_tupB {es : List Expr} {k : Nat} {t : TGs} {n : Nat} {pos : Pos} (hc : X.calm = true) (h : PGs (X.blk s H sc env fp) es t)
    (hn : (assignEach es (X.blk s H sc env fp).env).length = n := by rfl) (hst : (assignEach es (X.blk s H sc env fp).env).findIdx? (·.1) = none := by rfl) : PG (X.blk s H sc env fp) (.Tuple es k pos) (gTup X.K n t) := pg_tup (X := X.blk s H sc env fp) hc h hn hst
/-- a place of a sequence, in a comprehension -/
theorem hixB {a b : Expr} {ta tb : TE} {pos : Pos} (ha : PE (X.blk s H sc env fp) a ta) (hb : PE (X.blk s H sc env fp) b tb) (hp : PlainIx b := by exact fun _ _ => rfl) : PE (X.blk s H sc env fp) (.Subscript a b pos) (tOp (hIx X.K) ta tb) := hix (X := X.blk s H sc env fp) ha hb hp
/-- +, in a comprehension -/
theorem co_addB : OpR (X.blk s H sc env fp) (binaryOp .Add) (cAdd X.K) := co_add (X := X.blk s H sc env fp)
end
end Xs
/-! dicts of texts that tell an exchange -/
namespace Me
open PySem PySem.Spec PyProof.Rows L2 TL
def kvP (prs : List (Str × Str)) : List (Key × V) := prs.map fun p => (.inr p.1, .str p.2)
def prT (prs : List (Str × Str)) : List (List Nat × List Nat) := prs.map fun p => (tl p.1, tl p.2)
theorem val_ex : ∀ (prs : List (Str × Str)) (z : Str), ∃ z' : Str, (valV (kvP prs) (.inr z)).getD (.str z) = .str z' ∧ tl z' = exf (prT prs) (tl z)
  | [], z => ⟨z, rfl, rfl⟩
  | p :: r, z => by
    by_cases e : p.1 = z
    · refine ⟨p.2, ?_, ?_⟩
      · show (valV ((.inr p.1, V.str p.2) :: kvP r) (.inr z)).getD (.str z) = _
        rw [valV_pos (p := ((.inr p.1 : Key), V.str p.2)) (by rw [e])]
        rfl
      · show _ = exf ((tl p.1, tl p.2) :: prT r) (tl z)
        unfold exf
        rw [List.find?_cons_of_pos (by rw [e]; simp)]
        rfl
    · obtain ⟨z', e1, e2⟩ := val_ex r z
      refine ⟨z', ?_, ?_⟩
      · show (valV ((.inr p.1, V.str p.2) :: kvP r) (.inr z)).getD (.str z) = _
        rw [valV_neg (p := ((.inr p.1 : Key), V.str p.2)) (fun h => e (Sum.inr.inj h))]
        exact e1
      · rw [e2]
        show _ = exf ((tl p.1, tl p.2) :: prT r) (tl z)
        unfold exf
        have hn : ¬ tl p.1 = tl z := fun h => e (TL.ext_tl h)
        simp [List.find?_cons, hn]
end Me
set_option Elab.async false
set_option linter.all false
set_option maxRecDepth 100000
set_option maxHeartbeats 4000000
/-! R22: list(text). -/
namespace Xs
open PySem PySem.Spec PyProof.Rows L2
theorem vals_signs : ∀ (cs : List Nat) (vs : List Value), vs.length = cs.length → (∀ (j : Nat) (v : Value), vs[j]? = some v → ∃ c u, cs[j]? = some c ∧ v = .str ⟨#[c]⟩ u) → Vals (cs.map fun c => V.str ⟨#[c]⟩) vs
  | [], [], _, _ => .nil
  | [], _ :: _, h, _ => nomatch h
  | _ :: _, [], h, _ => nomatch h
  | c :: cs, v :: vs, h, k => by
    obtain ⟨c', u, e1, e2⟩ := k 0 v rfl
    cases Option.some.inj e1
    exact .cons ⟨u, e2⟩ (vals_signs cs vs (Nat.succ.inj h) fun j w e => k (j + 1) w (by simpa using e))
theorem call_listS {X : Cx} (hc : X.calm = true) : CallR X (.type "list") (fun xs H Q => ∃ x : Str, xs = [.str x] ∧ x.length ≤ sizeLine ∧ ∀ p, H p = none → Q (.ref p) (upd H p (.lst ((TL.tl x).map fun c => V.str ⟨#[c]⟩)))) := by
  intro pins s σ H xs us Q I r h
  obtain ⟨x, rfl, hz, q⟩ := h
  obtain ⟨u, rfl, t, rfl⟩ := vals1 r
  refine PySem.call_list_str (hn := hz) (I.ok.hd hc) x t fun h' tk acc' c' hk hS' hacc => ?_
  have hl : (TL.tl x).length = x.cps.size := by simp [TL.tl]
  have hv : Vals ((TL.tl x).map fun c => V.str ⟨#[c]⟩) acc'.toList := vals_signs _ _ (by rw [hl]; simpa using hacc.1) fun j v e => by
    obtain ⟨c, u, hc, e2⟩ := hacc.2 j v (by simpa using e)
    exact ⟨c, u, by rw [show (TL.tl x)[j]? = x.cps.toList[j]? from rfl, Array.getElem?_toList]; exact hc, e2⟩
  refine ⟨.ref s.heap.objs.size, _, I.laid (t' := tk) hk (Nat.le_refl _) (show ObjOk X.prog X.w _ h' _ (.lst ((TL.tl x).map fun c => V.str ⟨#[c]⟩)) from ⟨by rw [List.length_map, hl]; exact hz, acc'.toList, c', hv, by simpa using hS'⟩), rfl, q _ (I.hok.fresh (Nat.le_refl _))⟩
section
variable {X : Cx} {s s2 : Shared} {H H2 : Hp} {sc sc2 : Scope} {env env2 : Env} {fp fp2 : List Addr}
/-- a place of a sequence, in a comprehension within a comprehension -/
theorem hixBB {a b : Expr} {ta tb : TE} {pos : Pos} (ha : PE ((X.blk s H sc env fp).blk s2 H2 sc2 env2 fp2) a ta) (hb : PE ((X.blk s H sc env fp).blk s2 H2 sc2 env2 fp2) b tb) (hp : PlainIx b := by exact fun _ _ => rfl) : PE ((X.blk s H sc env fp).blk s2 H2 sc2 env2 fp2) (.Subscript a b pos) (tOp (hIx X.K) ta tb) := hix (X := (X.blk s H sc env fp).blk s2 H2 sc2 env2 fp2) ha hb hp
/-- joined, in a comprehension -/
theorem hm_joinB : MtR (X.blk s H sc env fp) "str.join" (cJoin X.K) := hm_join (X := X.blk s H sc env fp)
end
end Xs
set_option Elab.async false
set_option linter.all false
set_option maxRecDepth 100000
set_option maxHeartbeats 4000000
/-! R23: an int below 256 as two hexadecimal digits, f'{n:02X}'. -/
namespace Xs
open PySem PySem.Spec PyProof.Rows L2 Builtin Builtin.Str Builtin.Int Builtin.Float
/-- the digits -/
def hexD (n : Nat) : List Nat := (Nat.toDigits 16 n).map fun c => c.toUpper.toNat
/-- two digits -/
def hex2 (n : Nat) : Str := ⟨(List.replicate (2 - (hexD n).length) 48 ++ hexD n).toArray⟩
def spX : FormatSpec := { fill := 48, align := 61, width := some 2, type := some 88 }
theorem parse_X : parseFormatSpec (Str.ofString "02X").cps.toList "int" 62 = .ok spX := by rfl
theorem hex2_len {n : Nat} (hn : n < 256) : (hex2 n).length ≤ 300 := by
  have h1 : (hexD n).length ≤ n + 1 := by unfold hexD; rw [List.length_map]; exact tDigits_len_le 16 n
  show ((List.replicate (2 - (hexD n).length) 48 ++ hexD n).toArray).size ≤ 300
  simp only [List.size_toArray, List.length_append, List.length_replicate]
  omega
theorem field_hex {n : Nat} : intField' spX (decide (((n : Nat) : Int) < 0)) [] (hexD n) [] 4 = hex2 n := by
  have h0 : decide (((n : Nat) : Int) < 0) = false := decide_eq_false (by omega)
  have h1 : 1 ≤ (hexD n).length := by unfold hexD; rw [List.length_map]; exact tDigits_len_ge 16 n
  rw [h0, intField'_zero_nonneg spX (hexD n) 4 rfl rfl (by cases e : hexD n with
    | nil => rw [e] at h1; exact absurd h1 (by decide)
    | cons => rfl) rfl rfl]
  rfl
theorem field_X {prog : Program} {w : World} {A : Around} {E : Value → Shared → Prop} {s : Shared} {n : Nat} {t : Tok} {Q : Value → Shared → Prop} (hn : n < 256)
    (h : Q (.str (hex2 n) (s.toks + 1)) { s with toks := s.toks + 1 + 1 }) : wpAny (model prog w) A (formatField (.int (n : Nat) t) (Str.ofString "02X")) Q E s := by
  show wpAny _ _ (holding [.int (n : Nat) t] (pyFormat (.int (n : Nat) t) (Str.ofString "02X"))) Q E s
  refine wpAny_holding ?_
  unfold pyFormat
  refine wpAny_bind (wpAny_mkStr ?_ (by decide))
  refine wpAny_bind (m := callSpecial? (.int (n : Nat) t) (Str.ofString "__format__") [.str (Str.ofString "02X") s.toks]) (wpAny_callSpecial?_slot (name := Str.ofString "__format__") (typeIs_int _ _ t) slot_int_format ?_)
  refine wpAny_call (codeAny_call_builtin slot_int_format.plain entry_int_format (slot_int_format.check _ _ _ _ _ _ _ _ (typeIs_int _ _ t) (args_int_format _ _) ?_))
  have hne : ((Str.ofString "02X").length == 0) = false := rfl
  have hasc : (((Str.ofString "02X").cps.toList.drop 1).any (· ≥ 128) || ((Str.ofString "02X").cps.getD 0 0 ≥ 128 && !([60, 62, 61, 94] : List Nat).contains ((Str.ofString "02X").cps.getD 1 0))) = false := by decide +kernel
  unfold Builtin.«int.__format__»
  simp only [selfAndOne, noKeywords, Int.intOfSelf, asInt?, asStr?, List.isEmpty_nil, if_true, pure_bind, bind_pure, bind_assoc, hne, hasc, Bool.false_eq_true, if_false,
    show (Value.str (Str.ofString "02X") s.toks == Value.none) = false from rfl]
  refine wpAny_bind (wpAny_typeNameOf (T := "str") (typeIs_str _ _ _) (by decide) fun _ => ?_)
  first | refine wpAny_bind (wpAny_typeNameOfCut_int ?_) | refine wpAny_bind (wpAny_typeNameOf_int ?_)
  simp only [parse_X]
  rw [if_pos (by decide)]
  show wpAny _ _ (retStr (intField' spX (decide (((n : Nat) : Int) < 0)) [] (hexD n) [] 4)) _ _ _
  rw [field_hex]
  unfold retStr
  refine wpAny_bind (wpAny_mkStr (wpAny_pure ?_) (by rw [sizeLine_eq]; have := hex2_len hn; omega))
  dsimp only
  exact wpAny_bind (wpAny_isInstance (typeIs_str _ _ _) isSubtype_str_str (wpAny_pure h))
/-- {e:02X}, e below 256 -/
def tFmtX (te tsp : TE) : TE := fun σ H Q => te σ H fun x H1 => tsp σ H1 fun y H2 => ∃ n : Nat, x = .int (n : Nat) ∧ n < 256 ∧ y = .str (Str.ofString "02X") ∧ Q (.str (hex2 n)) H2
theorem pe_fmtX {X : Cx} {e sp : Expr} {te tsp : TE} {pos : Pos} (he : PE X e te) (hs : PE X sp tsp) : PE X (.FormattedValue e (-1) (some sp) pos) (tFmtX te tsp) := by
  refine ⟨fun pins s σ H Q I h => ?_⟩
  refine wpAny_FormattedValue_spec (thn (he.run pins s σ H _ I h) fun v s1 ⟨x, H1, I1, r1, q1⟩ => thn (hs.run pins s1 σ H1 _ I1 q1) fun r s2 ⟨y, H2, I2, r2, n, ex, hn, ey, q⟩ => ?_)
  subst ex ey
  obtain ⟨t, rfl⟩ := r1
  obtain ⟨u, rfl⟩ := r2
  exact ⟨_, _, rfl, field_X hn ⟨.str (hex2 n), H2, I2.tok _, ⟨_, rfl⟩, q⟩⟩
end Xs
set_option Elab.async false
set_option linter.all false
set_option maxRecDepth 100000
set_option maxHeartbeats 4000000
/-! R24: name = {k: v for ..}. -/
namespace Xs
open PySem PySem.Spec PyProof.Rows L2
section
variable {X : Cx} {i : Nat} {y : Str} {py : Pos} {kx vx tg iter : Expr} {ifs : List Expr} {sc : Scope} {own : List (Str × Nat)} {pos sp : Pos} {wi : TI} {g : TG} {tt : TT} {tk tv : TE}
/-- a dict comprehension, its dict set to a local at once -/
theorem ps_setDc (hc : X.calm = true) (hN : X.N.Nodup) (hy : X.N[i]? = some y) (hyl : X.env.scope.names.lookup y = some .local) (hsw : swapsWith (.DictComp kx vx [⟨tg, iter, ifs, 0⟩] sc pos) (some (.Name y py)) sp.line X.env = pure true) (hi : PI X tg iter wi) (ok : BlkOk X.N X.env.scope sc own)
    (h1 : ∀ (s : Shared) (H : Hp) (C : Addr) (l : List (Str × Addr)) (fp : List Addr), PG (X.blk s H sc (compEnvC sc l C X.env) fp) tg g) (h2 : ∀ (s : Shared) (H : Hp) (C : Addr) (l : List (Str × Addr)) (fp : List Addr), PTs (X.blk s H sc (compEnvC sc l C X.env) fp) ifs tt)
    (h3 : ∀ (s : Shared) (H : Hp) (C : Addr) (l : List (Str × Addr)) (fp : List Addr), PE (X.blk s H sc (compEnvC sc l C X.env) fp) kx tk) (h4 : ∀ (s : Shared) (H : Hp) (C : Addr) (l : List (Str × Addr)) (fp : List Addr), PE (X.blk s H sc (compEnvC sc l C X.env) fp) vx tv)
    (hs : ∀ x, foldedSetIterable iter X.env x = pure x := by intro _; rfl) : PS X (.Assign [.Name y py] (.DictComp kx vx [⟨tg, iter, ifs, 0⟩] sc pos) sp) (tAsg (tDc wi g tt tk tv (own.map (·.2))) (gName i)) := by
  refine ⟨fun pins s σ H D I h0 => ?_⟩
  have hh : tDc wi g tt tk tv (own.map (·.2)) σ H (fun x H1 => gName i x σ H1 D.nx) := h0
  rw [exec_Assign_Name_used _ _ _ _ hsw]
  refine wpAny_bind (wpAny_standAt (wpAny_bind ?_))
  show wpAny _ X.A (comprehension (.DictComp kx vx [⟨tg, iter, ifs, 0⟩] sc pos) sc X.env (firstIterPos [⟨tg, iter, ifs, 0⟩] pos) newDict false (eval iter X.env) (some (assign (.Name y py) X.env)) >>= _) _ _ s
  refine wpAny_bind (thn (dc_core (Qf := fun _ s' => SP X pins D .next s') hc hN I hi ok h1 h2 h3 h4 hs hh fun L C s' m H' I' q hn f => ?_) fun _ s' hq => wpAny_pure (wpAny_pure hq))
  show wpAny _ _ (assign (.Name y py) X.env (.ref L)) _ _ _
  refine wpAny_assign_Name (store_ok2 (v := V.ref L) I' hN hy (.inl hyl) rfl (fun s2 I2 ⟨a, sb, ha⟩ => ?_) (.inr hyl))
  obtain ⟨f0, f1, f2, f3, f4, f5⟩ := f
  have hCa : C ≠ a := ha.elim (fun z => by rw [z]; exact f1) fun z e => f4 y a z e.symm
  exact ⟨m, hn.sameBut sb hCa, fun s3 sb3 => ⟨_, H', I2.turned (t' := s2.toks) (fun b o hb e => (sb3.2 b hb).trans e) f0 f1 f3 f4 f5, q⟩⟩
theorem sw_trueD {gs : List Comprehension} {l : Nat} {env : Env} (hk : env.scope.kind = .function) (hy : env.scope.names.lookup y = some .local) (hl : (py.line == pos.line) = true)
    (ha : (sc.names.any fun (n, k) => n == y && (k == .local || k == .cell)) = false) : swapsWith (.DictComp kx vx gs sc pos) (some (.Name y py)) l env = pure true := by
  have e1 : env.kindOf y = some .local := hy
  have e2 : env.blockKind = .function := by unfold Env.blockKind; rw [hk]; rfl
  simp only [swapsWith, e1, e2, ha, Expr.pos, hl]
  rfl
variable {s1 : Shared} {H1 : Hp} {env1 : Env} {fp1 : List Addr}
/-- a slice, in a comprehension -/
theorem hs_anyB : SlR (X.blk s1 H1 sc env1 fp1) (hSl X.K) := hs_any (X := X.blk s1 H1 sc env1 fp1)
end
end Xs
set_option Elab.async false
set_option linter.all false
set_option maxRecDepth 100000
set_option maxHeartbeats 4000000
/-! R25: defs that are called only where no repr is under way (no guards), and repr of lists and tuples there. -/
namespace Gd
open PySem PySem.Spec PyProof.Rows L2
/-- as FnOk, where no guard stands -/
structure FnG (P : Program) (w : World) (K : PySem.W.Frag) (mg : Str → Option Value) (base : Heap) (CX : CXT) (k : Nat) (f : Addr) (fd : FuncData) (ps : List Str) (sp : Sp) : Prop where
  len : ∀ vs H Q E, sp vs H Q E → vs.length = ps.length
  run : ∀ (A : Around) (outer : List Env) (s : Shared) (H : Hp) (args : Args) (us : List Value) (vs : List V) (Q : VK) (E : XK), A.guards = some [] → Room k A → Env0 P w K mg base A outer s H → BindsTo s fd args (ps.zip us) → Vals vs us → sp vs H Q E → codeAny (model P w) A (.call (.ref f) args) (CR CX outer P w H s Q E) s
theorem guards_deeper {A : Around} {env : Env} (h : A.guards = some []) : (A.deeper env).guards = some [] := h
section
variable {P : Program} {w : World} {K : PySem.W.Frag} {mg : Str → Option Value} {base : Heap} {x qual : Str} {params : Arguments} {body : List Stmt} {scope : Scope} {dvs : List V} {kws : List (Str × V)} {f : Addr} {fd : FuncData} {CX : CXT}
theorem fn_g {N ps : List Str} {k : Nat} {sp : Sp} (F : FunD K x qual params body scope dvs kws f fd) (S : FnScope N ps scope) (len : ∀ vs H Q E, sp vs H Q E → vs.length = ps.length)
    (hbody : ∀ (cdv : Value) (A : Around) (outer : List Env) (s : Shared) (H : Hp) (vs : List V) (Q : VK) (E : XK), A.guards = some [] → Room k (A.deeper (envOfC qual scope s.heap.objs.size f cdv)) → sp vs H Q E →
      ∃ t, PSs (cxOf CX P w K mg base N qual scope f cdv A outer s H E) body t ∧ t { nx := fun _ H' => Q .non H', rt := Q } (start N vs) H) : FnG P w K mg base CX (k + 1) f fd ps sp := by
  obtain ⟨oc, od, dV, kV, doc, pm, an, cdv, ct, osl, rfl, lk, hcd, _, _⟩ := F.ex
  refine ⟨len, fun A outer s H args us vs Q E hg hr e0 hb r hsp => ?_⟩
  have hlen := len _ _ _ _ hsp
  have KX : K.In s.heap := e0.mod.kin.keeps fun c o e => (e0.bs c o e).1
  have nl : s.heap.NoLimit := e0.mod.nolimit.keeps fun c o e => (e0.bs c o e).1
  have hkd : ∀ z ∈ ps.zip us, scope.names.lookup z.1 = some .local ∨ (scope.names.lookup z.1 = some .cell ∧ ((cellsFrom (s.heap.objs.size + 1) scope.names []).lookup z.1).isSome = true) := fun ⟨n, v⟩ hz =>
    (S.par n (List.of_mem_zip hz).1).imp id fun c => ⟨c, PySem.W.cellsFrom_some _ _ _ (.inl c)⟩
  refine codeAny_call_function (show A.depth < recursionLimit from hr.depth) (KX _ _ lk) rfl S.co S.gen rfl (PySem.W.codeRec_of KX hcd) (hb _ _ _ _ ?_)
  refine wpAny_newFunctionEnv_cells S.kind hkd fun env he s1 y => ?_
  subst he
  refine ⟨nl.keeps y.toInCall.keep, codeAny_func ?_⟩
  obtain ⟨t, ht, hq⟩ := hbody cdv A outer s H vs Q E hg (hr.deeper _) hsp
  have I := inv_start (CX := CX) (E := E) S hr.hd e0 hlen r y
  refine wpAny_mono (ht.run [] s1 (start N vs) H _ I hq) (fun fl s' hs => ?_) fun _ _ hs => hs
  cases fl with
  | next => obtain ⟨σ', H', J, q⟩ := hs; exact ⟨.non, H', J.os, J.bare, J.base, J.hok, rfl, q⟩
  | ret u => obtain ⟨v, σ', H', J, rv, q⟩ := hs; exact ⟨v, H', J.os, J.bare, J.base, J.hok, rv, q⟩
  | cont => obtain ⟨_, _, _, q⟩ := hs; exact q.elim
  | brk => obtain ⟨_, _, _, q⟩ := hs; exact q.elim
end
/-- with its binding -/
def OkG (P : Program) (w : World) (K : PySem.W.Frag) (mg : Str → Option Value) (base : Heap) (CX : CXT) (k : Nat) (f : Addr) (ps : List Str) (sp : Sp) : Prop := ∃ fd, FnG P w K mg base CX k f fd ps sp ∧ Binds K fd ps []
section
variable {X : Cx} {CX : CXT} {k : Nat} {f : Addr} {fd : FuncData} {ps : List Str} {sp : Sp} {E : XK} {x : Str} {e : Expr} {es : List Expr} {t : TA} {p pos : Pos}
theorem run_fnG {pins : List (Addr × Obj)} {σ : L2.St} {H : Hp} {s : Shared} {Q : VK} {us : List Value} {vs : List V} (F : FnG X.prog X.w X.K X.mg X.base CX k f fd ps sp) (hg : X.A.guards = some []) (hr : Room k X.A) (hb : Binds X.K fd ps []) (hx : Passes CX X E)
    (I : Inv X pins σ H s) (r : Vals vs us) (h : sp vs H Q E) : wpAny (model X.prog X.w) X.A (call (.ref f) us) (EP X pins σ Q) X.xe s := by
  have hl : us.length = ps.length := r.length.symm.trans (F.len _ _ _ _ h)
  have b := hb s us I.kIn (by rw [List.append_nil]; exact hl)
  rw [List.append_nil] at b
  refine wpAny_call (codeAny_mono (F.run X.A X.stack s H ⟨us, []⟩ us vs Q E hg hr I.env0 b r h) fun z s' hq => ?_)
  cases z with
  | ok fl => cases fl with
    | next => exact hq.elim
    | ret u => exact I.after hq
    | cont => exact hq.elim
    | brk => exact hq.elim
  | error e => exact hx pins σ H s e s' I hq
/-- f(e, ..), f such a def -/
theorem pfG (F : OkG X.prog X.w X.K X.mg X.base CX k f ps sp) (hg : X.A.guards = some []) (hr : Room k X.A) (hm : X.mg x = some (.ref f)) (hk : PySem.W.keepIn X.K (.ref f) = true) (hx : Passes CX X E) (ha : PA X (e :: es) t) (hgl : Gl X x := by rfl) (hdb : (x == ("__debug__" : Str)) = false := by decide)
    (he : starEach (e :: es) X.env = (false, eval e X.env) :: starEach es X.env := by rfl) (hpl : (backTo pos (starEach es X.env)).any (·.1) = false := by rfl) : PE X (.Call (.Name x p) (e :: es) [] pos) (Xs.tCallF sp E t) := by
  obtain ⟨fd, G, b⟩ := F
  refine ⟨fun pins s σ H Q I h => wpAny_Call_Name_kw (ld_glob I hgl hm ?_ hdb)⟩
  exact PySem.W.callWith_K (h₀ := X.base) I.ok.mod.kin hk (thn (ha.run pos pins s σ H _ I h) fun us s1 ⟨vs, H1, I1, r, q⟩ => ⟨I1.kIn, run_fnG G hg hr b hx I1 r q⟩) he hpl
/-- repr of a list or a tuple of data -/
def rReprD (K : PySem.W.Frag) : List V → Hp → VK → Prop := fun xs H Q => ∃ a d, xs = [.ref a] ∧ Dp K H (.ref a) d ∧ d.showable = true ∧ d.hasDict = false ∧ d.depth ≤ 60 ∧ d.shown.length ≤ sizeLine ∧ Q (.str d.shown) H
theorem call_reprD (hg : X.A.guards = some []) (hu : X.A.units + 64 < cLine) : CallR X (.builtin "repr") (rReprD X.K) := by
  intro pins s σ H xs us Q I rs h
  obtain ⟨a, d, rfl, hd, h1, h2, h3, h4, q⟩ := h
  cases rs with
  | cons r0 r1 =>
    cases r1
    cases r0
    obtain ⟨as, hR⟩ := Dp.reads I d _ _ hd rfl
    refine repr_of_reads' hR h1 (fun z => by rw [h2] at z; cases z) hg (by omega) (fun _ _ e => e) (fun h' u tk hk => ?_) h4
    exact ⟨.str d.shown, H, I.kept hk, ⟨u, rfl⟩, q⟩
end
end Gd
set_option Elab.async false
set_option linter.all false
set_option maxRecDepth 100000
set_option maxHeartbeats 4000000
/-! R26: a law's end where its promise wants that no guard stands. -/
namespace Gd
open PySem PySem.Spec PyProof.Rows L2
theorem ls_ne_dict {h : Heap} {a b : Addr} {o : Obj} {vs : List Value} {es : Array DictEntry} {ep : Nat} (ha : h.get? a = some { cls := .type "list", data := .seq vs.toArray }) (e : h.get? b = some o) (d : o.data = .dict es ep) : b ≠ a := fun z => by
  subst z
  rw [ha] at e
  cases e
  exact (nomatch (show Data.seq vs.toArray _ = Data.dict es ep from d))
section
variable {P : Program} {w : World} {K : PySem.W.Frag} {mg mb : Str → Option Value} {CX : CXT} {k : Nat} {fa a : Addr} {fd : FuncData} {x : Str} {sp : Sp} {s1 : Shared} {vs : List Value} {ns : List Int}
theorem callG (KX : K.In s1.heap) (hns : s1.heap.Ns mainGlobals mg) (hb : s1.heap.Ns builtinsNs mb) (hbb : ∀ y : Str, y ≠ "__name__" → mb y = bootBuiltins y) (nl : s1.heap.NoLimit) (hg : s1.gens = #[]) (ha : s1.heap.get? a = some { cls := .type "list", data := .seq vs.toArray })
    (hr : Room k callerA) (F : ∀ base : Heap, K.In base → base.Ns mainGlobals mg → FnG P w K mg base CX k fa fd [x] sp) (hbind : ∀ (s : Shared) (u : Value), BindsTo s fd ⟨[u], []⟩ [(x, u)]) (hCX : ∀ H e s', CX [] H s1 (fun _ _ _ => False) e s' → False)
    {H : Hp} (hO : Only H) (hok : HOk P w H s1.heap) (hA : ∀ b, H b ≠ none → b = a) (hK : H a ≠ none → K.lookup a = none) (hsp : sp [.ref a] H (fun v _ => v = .bl true) fun _ _ _ => False) :
    codeAny (model P w) callerA (.call (.ref fa) ⟨[.ref a], []⟩) (fun r s' => r = .ok (.ret (.bool true)) ∧ OldK s1.heap s'.heap ∧ s'.os = s1.os ∧ AllBare s'.gens) s1 := by
  have free : ∀ {b : Addr}, b ≠ a → H b = none := fun {b} hb => by
    cases q : H b with
    | none => rfl
    | some u => exact absurd (hA b fun z => by rw [q] at z; cases z) hb
  have nsK : ∀ {b : Addr} {m : Str → Option Value}, s1.heap.Ns b m → (hidT s1.heap H).Ns b m := fun {b m} ⟨o, es, ep, e, d, r⟩ => ⟨o, es, ep, hidT_get e (free (ls_ne_dict ha e d)), d, r⟩
  have hKb : K.In (hidT s1.heap H) := fun b o e => hidT_get (KX b o e) (by
    by_cases hb : b = a
    · subst hb
      cases q : H b with
      | none => rfl
      | some u => exact absurd (hK fun z => by rw [q] at z; cases z) (by rw [e]; exact fun z => nomatch z)
    · exact free hb)
  obtain ⟨mc, l1, l2⟩ := nl
  have e0 : Env0 P w K mg (hidT s1.heap H) callerA [] s1 H := ⟨rfl, ⟨hKb, nsK hns, ⟨mb, nsK hb, hbb⟩, ⟨mc, nsK l1, l2⟩⟩, fun b o e => of_hidT e, Nat.le_of_eq (hidT_size _ _), trivial, (fun b z => absurd (show b ∈ ([] : List Addr) from z) (by simp)), hok, .of_eq hg⟩
  refine codeAny_mono ((F _ hKb (nsK hns)).run callerA [] s1 H ⟨[.ref a], []⟩ [.ref a] [.ref a] _ _ rfl hr e0 (hbind s1 (.ref a)) (.cons rfl .nil) hsp) fun r s' h => ?_
  rcases r with e | fl
  · exact (hCX H e s' h).elim
  · cases fl with
    | ret u =>
      obtain ⟨v, H', os, bare, un, hok', r', q⟩ := h
      cases (show v = .bl true from q)
      cases (show u = Value.bool true from r')
      refine ⟨rfl, OldK.of_keep fun b o e => ?_, os, bare⟩
      rcases hO b with z | ⟨ob, xs, z⟩
      · exact un.keep b o e z (fun y => absurd (show b ∈ ([] : List Addr) from y) (by simp)) (by simp)
      · have z1 := hok b _ z
        have z2 := hok' b _ (un.frzs b ob _ z)
        have e1 : some ob = some o := z1.1.symm.trans e
        cases e1
        exact z2.1
    | next => exact h.elim
    | cont => exact h.elim
    | brk => exact h.elim
theorem law_callG (KX : K.In s1.heap) (hns : s1.heap.Ns mainGlobals mg) (hb : s1.heap.Ns builtinsNs mb) (hbb : ∀ y : Str, y ≠ "__name__" → mb y = bootBuiltins y) (nl : s1.heap.NoLimit) (hg : s1.gens = #[]) (ha : s1.heap.get? a = some { cls := .type "list", data := .seq vs.toArray }) (hi : IntsAre vs ns) (hl : ns.length ≤ sizeLine)
    (hr : Room k callerA) (F : ∀ base : Heap, K.In base → base.Ns mainGlobals mg → FnG P w K mg base CX k fa fd [x] sp) (hbind : ∀ (s : Shared) (u : Value), BindsTo s fd ⟨[u], []⟩ [(x, u)]) (hsp : ∀ H : Hp, Only H → SqL K H a (ns.map V.int) → sp [.ref a] H (fun v _ => v = .bl true) fun _ _ _ => False)
    (hCX : ∀ H e s', CX [] H s1 (fun _ _ _ => False) e s' → False) : codeAny (model P w) callerA (.call (.ref fa) ⟨[.ref a], []⟩) (fun r s' => r = .ok (.ret (.bool true)) ∧ OldK s1.heap s'.heap ∧ s'.os = s1.os ∧ AllBare s'.gens) s1 := by
  have rv := vals_ints hi
  cases hk : K.lookup a with
  | none =>
    have hif : (fun b => if b = a then some (HO.frz { cls := .type "list", data := .seq vs.toArray } (.lst (ns.map V.int))) else none : Hp) a = some (.frz { cls := .type "list", data := .seq vs.toArray } (.lst (ns.map V.int))) := if_pos rfl
    have hO : Only (fun b => if b = a then some (HO.frz { cls := .type "list", data := .seq vs.toArray } (.lst (ns.map V.int))) else none : Hp) := fun b => by
      by_cases hb : b = a
      · exact .inr ⟨_, _, if_pos hb⟩
      · exact .inl (if_neg hb)
    refine callG KX hns hb hbb nl hg ha hr F hbind hCX hO (fun b u z => ?_) (fun b z => Classical.byContradiction fun y => z (if_neg y)) (fun _ => hk) (hsp _ hO (.inl (.inr ⟨_, hif⟩)))
    by_cases hb : b = a
    · cases (if_pos hb).symm.trans z
      subst hb
      exact ⟨ha, by rw [List.length_map]; exact hl, vs, _, rv, ha⟩
    · cases (if_neg hb).symm.trans z
  | some o =>
    cases ha.symm.trans (KX a o hk)
    have hO : Only (fun _ => none : Hp) := fun _ => .inl rfl
    exact callG KX hns hb hbb nl hg ha hr F hbind hCX hO (fun b u z => nomatch (show (none : Option HO) = some u from z)) (fun b z => absurd rfl z) (fun z => absurd rfl z) (hsp _ hO (.inr ⟨_, vs.toArray, _, hk, rfl, rfl, rfl, by rw [List.size_toArray, hi.length]; exact hl, by simpa using rv⟩))
end
/-- a law's end -/
theorem walk_ofG {l : PySem.W.OpenLaw} {n k : Nat} {q : Program} {loose : List Str} {XP : (Str → Option Value) → Heap → Prop} {YP : World → Heap → Prop} {d : DefRec} {CX : CXT} {x : Str} (hn : l.most = some n) (hn2 : n ≤ sizeLine) (hdf : d.params.defaults = []) (hr : Room k callerA)
    (F : ∀ (w : World) (mg : Str → Option Value) (fa : Addr) (h : Heap), YP w h → h.Ns mainGlobals mg → mg d.name = some (.ref fa) → ∃ (K : PySem.W.Frag) (fd : FuncData) (sp : Sp), K.In h ∧ (∀ (s : Shared) (u : Value), BindsTo s fd ⟨[u], []⟩ [(x, u)]) ∧
        (∀ (H : Hp) (a : Addr) (ns : List Int), ns.length ≤ n → Only H → SqL K H a (ns.map V.int) → sp [.ref a] H (fun v _ => v = .bl true) fun _ _ _ => False) ∧ ∀ base : Heap, K.In base → base.Ns mainGlobals mg → FnG l.prog w K mg base CX k fa fd [x] sp)
    (hCX : ∀ (H : Hp) (s : Shared) (e : Value) (s' : Shared), CX [] H s (fun _ _ _ => False) e s' → False) : PySem.W.WalkO q loose XP YP l.row.toRowW d [] (fun f vs => PySem.call f vs) := by
  refine Att.attach_call hn hdf fun w s0 s1 mg mb fa o pm cd doc a vs ns G Y ho hd hcd hmg hobj hints hlen hg => ?_
  obtain ⟨K, fd, sp, KX, hb, hsp, hF⟩ := F w mg fa _ Y G.T.g hmg
  exact law_callG KX G.T.g G.T.b G.T.builtins G.T.nolimit hg hobj hints (Nat.le_trans hlen hn2) hr hF hb (fun H hO hS => hsp H a ns hlen hO hS) fun H e s' => hCX H s1 e s'
end Gd
set_option Elab.async false
set_option linter.all false
set_option maxRecDepth 100000
set_option maxHeartbeats 4000000
/-! R27: isinstance(x, T), T a built-in type written by its name. -/
namespace Gd
open PySem PySem.Spec PyProof.Rows L2
def tyB (a b : String) : Bool := a == b || (a == "bool" && b == "int")
def tyNm : V → Hp → Option String
  | .str _, _ => some "str"
  | .non, _ => some "NoneType"
  | .bl _, _ => some "bool"
  | .int _, _ => some "int"
  | .ref p, H => match H p with
    | some (.lst _) => some "list"
    | some (.tup _) => some "tuple"
    | _ => none
  | _, _ => none
def hIsT : List V → Hp → VK → Prop := fun xs H Q => match xs with
  | [x, .ty n] => (n = "str" ∨ n = "int" ∨ n = "bool" ∨ n = "list" ∨ n = "tuple") ∧ ∃ a, tyNm x H = some a ∧ Q (.bl (tyB a n)) H
  | _ => False
theorem hc_isT {X : Cx} : CallR X (.builtin "isinstance") hIsT := by
  intro pins s σ H xs us Q I rs h
  refine call_isi pins s σ H xs us Q I rs ?_
  unfold hIsT at h
  split at h
  · rename_i x n
    obtain ⟨hn, a, ha, q⟩ := h
    unfold tyNm at ha
    split at ha
    · cases ha
      rcases hn with rfl | rfl | rfl | rfl | rfl <;> exact ⟨_, _, _, _, _, rfl, .ty _, .base (.str _), rfl, q⟩
    · cases ha
      rcases hn with rfl | rfl | rfl | rfl | rfl <;> exact ⟨_, _, _, _, _, rfl, .ty _, .base .non, rfl, q⟩
    · cases ha
      rcases hn with rfl | rfl | rfl | rfl | rfl <;> exact ⟨_, _, _, _, _, rfl, .ty _, .base (.bl _), rfl, q⟩
    · cases ha
      rcases hn with rfl | rfl | rfl | rfl | rfl <;> exact ⟨_, _, _, _, _, rfl, .ty _, .base (.int _), rfl, q⟩
    · split at ha
      · cases ha
        rcases hn with rfl | rfl | rfl | rfl | rfl <;> exact ⟨_, _, _, _, _, rfl, .ty _, .base (.lst ‹_›), rfl, q⟩
      · cases ha
        rcases hn with rfl | rfl | rfl | rfl | rfl <;> exact ⟨_, _, _, _, _, rfl, .ty _, .base (.tup ‹_›), rfl, q⟩
      · cases ha
    · cases ha
  · exact h.elim
end Gd
set_option Elab.async false
set_option linter.all false
set_option maxRecDepth 100000
set_option maxHeartbeats 4000000
/-! R28: comprehensions over range; len in a comprehension. -/
namespace Gd
open PySem PySem.Spec PyProof.Rows L2 Xs
theorem lcp_range {lo : Int} {n : Nat} {g : TG} {tt : TT} {te : TE} {vs : List Nat} {σ : L2.St} {H1 : Hp} {D : Addr} {Qd : Hp → Prop} (Pv : Nat → Hp → Prop) (h0 : Pv 0 (upd H1 D (.lst [])))
    (hs : ∀ i H, i < n → Pv i H → g (.int (lo + i)) (wipe σ vs) H fun σ2 H2 => wipe σ2 vs = wipe σ vs ∧ tt σ2 H2 fun b H3 =>
      if b = true then te σ2 H3 fun y H4 => ∃ acc, H4 D = some (.lst acc) ∧ acc.length < sizeLine ∧ Pv (i + 1) (upd H4 D (.lst (acc ++ [y]))) else Pv (i + 1) H3) (hd : ∀ H, Pv n H → Qd H) : LcP (Itr lo n) g tt te vs σ H1 D Qd := by
  refine ⟨fun i m H => m = n - i ∧ i ≤ n ∧ Pv i H, ⟨n, by simp, Nat.zero_le _, h0⟩, ?_⟩
  rintro i m H ⟨rfl, hi, p⟩
  by_cases hlt : i < n
  · refine .inr ⟨hlt, Pv (i + 1), fun H' p' => ⟨n - (i + 1), by omega, rfl, hlt, p'⟩, fun v H' y => ?_⟩
    obtain ⟨e1, e2⟩ := y
    subst e1 e2
    exact hs i _ hlt p
  · have e : i = n := by omega
    subst e
    exact .inl ⟨Nat.le_refl _, hd H p⟩
section
variable {X : Cx} {s : Shared} {H : Hp} {sc : Scope} {env : Env} {fp : List Addr}
theorem hc_lenB : CallR (X.blk s H sc env fp) (.builtin "len") (hLen X.K) := hc_len (X := X.blk s H sc env fp)
end
end Gd
set_option Elab.async false
set_option linter.all false
set_option maxRecDepth 100000
set_option maxHeartbeats 4000000
/-! R29: how long a shown list or tuple is at most. -/
namespace Gd
open PySem PySem.Spec PyProof.Rows L2 Xs
def sumL (ts : List Str) : Nat := (ts.map fun t => t.length + 2).sum
theorem sumL_cons (t : Str) (ts : List Str) : sumL (t :: ts) = t.length + 2 + sumL ts := rfl
theorem textFrom_le : ∀ (ts : List Str) (k : Nat) (acc : Str), (textFrom k acc ts).length ≤ acc.length + sumL ts
  | [], k, acc => Nat.le_add_right _ _
  | t :: r, k, acc => by
    have ih := textFrom_le r (k + 1) (acc ++ (if k > 0 then ", " else "" : String) ++ t)
    have e : (acc ++ (if k > 0 then ", " else "" : String) ++ t).length ≤ acc.length + 2 + t.length := by
      rw [la, la]
      split
      · rw [show (Str.ofString ", ").length = 2 from rfl]; omega
      · rw [show (Str.ofString "").length = 0 from rfl]; omega
    rw [sumL_cons]
    show (textFrom (k + 1) _ r).length ≤ _
    omega
theorem listText_le (ts : List Str) : (listText ts).length ≤ sumL ts + 2 := by
  unfold listText
  have := textFrom_le ts 0 "["
  rw [la]
  rw [show (Str.ofString "]").length = 1 from rfl]
  rw [show (Str.ofString "[").length = 1 from rfl] at this
  omega
theorem joinS_le : ∀ ts : List Str, (Str.join ", " ts).length ≤ sumL ts
  | [] => Nat.zero_le _
  | [x] => by
    show x.length ≤ _
    rw [sumL_cons]; omega
  | x :: y :: r => by
    have ih := joinS_le (y :: r)
    show (x ++ ", " ++ Str.join ", " (y :: r)).length ≤ _
    rw [la, la, sumL_cons, show (Str.ofString ", ").length = 2 from rfl]
    omega
theorem tupleText_le (ts : List Str) : (tupleText ts).length ≤ sumL ts + 3 := by
  unfold tupleText
  have := joinS_le ts
  rw [la, la, show (Str.ofString "(").length = 1 from rfl]
  split
  · rw [show (Str.ofString ",)").length = 2 from rfl]; omega
  · rw [show (Str.ofString ")").length = 1 from rfl]; omega
theorem sumL_le {m : Nat} : ∀ {ts : List Str}, (∀ t ∈ ts, t.length ≤ m) → sumL ts ≤ ts.length * (m + 2)
  | [], _ => Nat.zero_le _
  | t :: ts, h => by
    have h1 := h t (List.mem_cons_self ..)
    have h2 := sumL_le (m := m) (ts := ts) fun x hx => h x (List.mem_cons_of_mem _ hx)
    rw [sumL_cons, List.length_cons, Nat.succ_mul]
    omega
theorem shownAll_len : ∀ ds : List PyData, (PyData.shownAll ds).length = ds.length
  | [] => by simp [PyData.shownAll]
  | d :: ds => by simp [PyData.shownAll, shownAll_len ds]
theorem shownAll_mem : ∀ {ds : List PyData} {t : Str}, t ∈ PyData.shownAll ds → ∃ d ∈ ds, t = d.shown
  | [], t, h => by simp [PyData.shownAll] at h
  | d :: ds, t, h => by
    simp only [PyData.shownAll, List.mem_cons] at h
    rcases h with rfl | h
    · exact ⟨d, List.mem_cons_self .., rfl⟩
    · obtain ⟨e, he, r⟩ := shownAll_mem h
      exact ⟨e, List.mem_cons_of_mem _ he, r⟩
theorem showableAll_of : ∀ {ds : List PyData}, (∀ d ∈ ds, d.showable = true) → PyData.showableAll ds = true
  | [], _ => by simp [PyData.showableAll]
  | d :: ds, h => by
    simp only [PyData.showableAll, h d (List.mem_cons_self ..), Bool.true_and]
    exact showableAll_of fun x hx => h x (List.mem_cons_of_mem _ hx)
theorem hasDictAll_of : ∀ {ds : List PyData}, (∀ d ∈ ds, d.hasDict = false) → PyData.hasDictAll ds = false
  | [], _ => by simp [PyData.hasDictAll]
  | d :: ds, h => by
    simp only [PyData.hasDictAll, h d (List.mem_cons_self ..), Bool.false_or]
    exact hasDictAll_of fun x hx => h x (List.mem_cons_of_mem _ hx)
theorem depthAll_of {m : Nat} : ∀ {ds : List PyData}, (∀ d ∈ ds, d.depth ≤ m) → PyData.depthAll ds ≤ m
  | [], _ => by simp [PyData.depthAll]
  | d :: ds, h => by
    have h1 := h d (List.mem_cons_self ..)
    have h2 := depthAll_of (m := m) (ds := ds) fun x hx => h x (List.mem_cons_of_mem _ hx)
    simp only [PyData.depthAll]
    omega
end Gd
set_option Elab.async false
set_option linter.all false
set_option maxRecDepth 100000
set_option maxHeartbeats 4000000
/-! Mv: paths between folders. -/
namespace Mv
open PySem PySem.Spec PyProof.Rows L2 Xs Mi Ms Md Mq Me
open TL (tl joinL)
def dd : T := [46, 46]
/-- the folders of a path -/
def fdT (l : T) : List T := (stk (fld l)).dropLast
/-- how many first ones are shared; the last one of the goal is not -/
def sh : List T → List T → Nat
  | f :: fs, g :: g2 :: gs => if f = g then sh fs (g2 :: gs) + 1 else 0
  | _, _ => 0
theorem sh_nil (gs : List T) : sh [] gs = 0 := by cases gs <;> rfl
theorem sh_one (fs : List T) (g : T) : sh fs [g] = 0 := by cases fs <;> rfl
theorem sh_le : ∀ (fs gs : List T), sh fs gs ≤ fs.length ∧ (gs ≠ [] → sh fs gs < gs.length)
  | [], gs => by rw [sh_nil]; exact ⟨Nat.zero_le _, fun h => List.length_pos_iff.mpr h⟩
  | f :: fs, [] => ⟨Nat.zero_le _, fun h => absurd rfl h⟩
  | f :: fs, [g] => ⟨Nat.zero_le _, fun _ => by simp [sh]⟩
  | f :: fs, g :: g2 :: gs => by
    obtain ⟨h1, h2⟩ := sh_le fs (g2 :: gs)
    have h2 := h2 (by simp)
    unfold sh
    split
    · simp only [List.length_cons] at *
      exact ⟨by omega, fun _ => by omega⟩
    · exact ⟨Nat.zero_le _, fun _ => by simp⟩
theorem sh_take : ∀ (fs gs : List T), fs.take (sh fs gs) = gs.take (sh fs gs)
  | [], gs => by rw [sh_nil]; simp
  | f :: fs, [] => by simp [sh]
  | f :: fs, [g] => by simp [sh]
  | f :: fs, g :: g2 :: gs => by
    have h := sh_take fs (g2 :: gs)
    unfold sh
    split
    · rename_i e
      rw [List.take_succ_cons, List.take_succ_cons, h, e]
    · simp
/-- by a count that goes up -/
theorem sh_up : ∀ (fs gs : List T) (k : Nat), k ≤ fs.length → k < gs.length → fs.take k = gs.take k → sh fs gs = k + sh (fs.drop k) (gs.drop k)
  | fs, gs, 0, _, _, _ => by simp
  | [], gs, k + 1, h, _, _ => by simp at h
  | f :: fs, [], k + 1, _, h, _ => by simp at h
  | f :: fs, [g], k + 1, _, h, _ => by simp at h
  | f :: fs, g :: g2 :: gs, k + 1, h1, h2, e => by
    rw [List.take_succ_cons, List.take_succ_cons] at e
    obtain ⟨e1, e2⟩ := List.cons.inj e
    have ih := sh_up fs (g2 :: gs) k (by simpa using h1) (by simpa using h2) e2
    have : sh (f :: fs) (g :: g2 :: gs) = sh fs (g2 :: gs) + 1 := by
      conv => lhs; unfold sh
      rw [if_pos e1]
    rw [this, ih, List.drop_succ_cons, List.drop_succ_cons]
    omega
theorem sh_stop {fs gs : List T} {k : Nat} (h : k = fs.length ∨ k + 1 = gs.length ∨ fs[k]? ≠ gs[k]?) : sh (fs.drop k) (gs.drop k) = 0 := by
  rcases h with h | h | h
  · rw [h, List.drop_length, sh_nil]
  · have : ∃ g, gs.drop k = [g] := List.length_eq_one_iff.mp (by rw [List.length_drop]; omega)
    obtain ⟨g, e⟩ := this
    rw [e, sh_one]
  · cases hf : fs.drop k with
    | nil => rw [sh_nil]
    | cons f fr =>
      cases hg : gs.drop k with
      | nil => rfl
      | cons g gr =>
        cases gr with
        | nil => rw [sh_one]
        | cons g2 gr =>
          have e1 : fs[k]? = some f := by
            have := congrArg (fun l => l[0]?) hf
            simpa using this
          have e2 : gs[k]? = some g := by
            have := congrArg (fun l => l[0]?) hg
            simpa using this
          unfold sh
          rw [if_neg (fun e => h (by rw [e1, e2, e]))]
/-- the segments of the path between -/
def segB (fs gs : List T) : List T :=
  if gs.drop (sh fs gs) = [[]] then (if 0 < fs.length - sh fs gs then List.replicate (fs.length - sh fs gs) dd else [[46]])
  else let y := List.replicate (fs.length - sh fs gs) dd ++ gs.drop (sh fs gs)
    if (joinL [47] y).take 1 = [47] ∨ 58 ∈ bef 47 (joinL [47] y) then [46] :: y else y
def pathB (fs gs : List T) : T := joinL [47] (segB fs gs)
theorem joinL_cons2 (c : Nat) (p : T) {ps : List T} (h : ps ≠ []) : joinL [c] (p :: ps) = p ++ c :: joinL [c] ps := by
  have := joinL_app (c := c) (a := [p]) (b := ps) (by simp) h
  exact this
theorem flat_join (n : Nat) {rest : List T} (h : rest ≠ []) : (List.replicate n ([46, 46, 47] : T)).flatten ++ joinL [47] rest = joinL [47] (List.replicate n dd ++ rest) := by
  induction n with
  | zero => simp
  | succ n ih =>
    have hne : List.replicate n dd ++ rest ≠ [] := by simp [h]
    rw [List.replicate_succ (a := dd), List.cons_append, joinL_cons2 47 dd hne, ← ih, List.replicate_succ, List.flatten_cons]
    rfl
theorem rest_ne {fs gs : List T} (h : gs ≠ []) : gs.drop (sh fs gs) ≠ [] := by
  have := (sh_le fs gs).2 h
  intro e
  have := congrArg List.length e
  rw [List.length_drop] at this
  simp only [List.length_nil] at this
  omega
theorem segB_ne (fs : List T) {gs : List T} (h : gs ≠ []) : segB fs gs ≠ [] := by
  unfold segB
  split
  · split
    · rename_i h2
      intro e
      have := congrArg List.length e
      rw [List.length_replicate] at this
      simp only [List.length_nil] at this
      omega
    · simp
  · have := rest_ne (fs := fs) h
    dsimp only
    split
    · simp
    · simp [this]
theorem segB_mem {fs gs : List T} {p : T} (h : p ∈ segB fs gs) : p = dd ∨ p = [46] ∨ p ∈ gs := by
  unfold segB at h
  split at h
  · split at h
    · exact .inl (List.mem_replicate.mp h).2
    · exact .inr (.inl (List.mem_singleton.mp h))
  · have hy : p ∈ List.replicate (fs.length - sh fs gs) dd ++ gs.drop (sh fs gs) → p = dd ∨ p = [46] ∨ p ∈ gs := fun h => by
      rcases List.mem_append.mp h with h | h
      · exact .inl (List.mem_replicate.mp h).2
      · exact .inr (.inr (List.mem_of_mem_drop h))
    dsimp only at h
    split at h
    · rcases List.mem_cons.mp h with h | h
      · exact .inr (.inl h)
      · exact hy h
    · exact hy h
theorem segB_free {fs gs : List T} (hg : ∀ p ∈ gs, 47 ∉ p) : ∀ p ∈ segB fs gs, 47 ∉ p := fun p hp => by
  rcases segB_mem hp with rfl | rfl | h
  · decide
  · decide
  · exact hg p h
theorem cut_pathB {fs gs : List T} (h : gs ≠ []) (hg : ∀ p ∈ gs, 47 ∉ p) : cut 47 (pathB fs gs) = segB fs gs := cut_join (segB_ne fs h) (segB_free hg)
/-! the stack behind a path that is joined -/
theorem fold_up (n : Nat) : ∀ (k : List T), (List.replicate n dd).foldl stp k = k.take (k.length - n) := by
  induction n with
  | zero => intro k; simp
  | succ n ih =>
    intro k
    rw [List.replicate_succ, List.foldl_cons]
    have : stp k dd = k.dropLast := by
      unfold stp dd
      rw [if_neg (by decide), if_pos rfl]
    rw [this, ih, List.dropLast_eq_take, List.take_take, List.length_take]
    congr 1
    omega
theorem stp_dot (k : List T) : stp k [46] = k := by
  unfold stp; rw [if_pos rfl]
theorem lastDot_app {ss ts : List T} (h : ts ≠ []) : lastDot (ss ++ ts) = lastDot ts := by
  unfold lastDot
  rw [List.getLast?_append]
  cases e : ts.getLast? with
  | none => exact absurd (List.getLast?_eq_none_iff.mp e) h
  | some z => rfl
theorem stkL_app {ss ts : List T} (h : ts ≠ []) : stkL (ss ++ ts) = ts.foldl stp (ss.foldl stp []) ++ (if lastDot ts = true then [[]] else []) := by
  unfold stkL
  rw [List.foldl_append, lastDot_app h]
/-- a folder: what stands in it -/
theorem fld_form (l : T) : ∃ A, fld l = A ++ [47] ∧ (l = [] ∨ l.take 1 = [47] → A = [] ∨ A.take 1 = [47]) := by
  by_cases h : 47 ∈ l
  · obtain ⟨a, b, rfl, hb⟩ := last_split h
    refine ⟨a, fld_app hb, fun hl => ?_⟩
    rcases hl with hl | hl
    · simp at hl
    · cases a with
      | nil => exact .inl rfl
      | cons c a => exact .inr (by simpa using hl)
  · exact ⟨[], fld_none h, fun _ => .inl rfl⟩
theorem stk_fld {l x : T} (hl : l = [] ∨ l.take 1 = [47]) : stk (fld l ++ x) = (cut 47 x).foldl stp (fdT l) ++ (if lastDot (cut 47 x) = true then [[]] else []) := by
  obtain ⟨A, e, hA⟩ := fld_form l
  have key : ∃ ss : List T, ∀ y : T, cut 47 ((fld l ++ y).drop 1) = ss ++ cut 47 y := by
    rw [e]
    rcases hA hl with rfl | h
    · exact ⟨[], fun y => by simp⟩
    · cases A with
      | nil => cases h
      | cons c B =>
        refine ⟨cut 47 B, fun y => ?_⟩
        have := cut_app 47 B y
        rw [← this]
        simp
  obtain ⟨ss, hs⟩ := key
  have h0 : fdT l = ss.foldl stp [] := by
    unfold fdT stk
    have := hs []
    rw [List.append_nil] at this
    rw [this, stkL_app (by simp [cut])]
    have : stp (ss.foldl stp []) [] = ss.foldl stp [] ++ [[]] := stp_plain (by decide)
    simp [cut, this, lastDot, isDot]
  have h1 : stk (fld l ++ x) = stkL (ss ++ cut 47 x) := by
    unfold stk
    rw [hs x]
  rw [h1, stkL_app (cut_ne 47 x), h0]
theorem stk_between {l g : T} (hl : l = [] ∨ l.take 1 = [47]) : stk (fld l ++ pathB (fdT l) (stk g)) = stk g := by
  have hne := stk_ne g
  have hfree : ∀ p ∈ stk g, 47 ∉ p := fun p hp => stk_free hp
  have hdot : ∀ p ∈ stk g, isDot p = false := fun p hp => stkL_dot hp
  rw [stk_fld hl, cut_pathB hne hfree]
  generalize hF : fdT l = F
  generalize hG : stk g = G at *
  have hsh := sh_le F G
  have htk := sh_take F G
  have hr := rest_ne (fs := F) hne
  have hup : ∀ ts : List T, (List.replicate (F.length - sh F G) dd ++ ts).foldl stp F = ts.foldl stp (G.take (sh F G)) := fun ts => by
    rw [List.foldl_append, fold_up]
    have : F.length - (F.length - sh F G) = sh F G := by omega
    rw [this, htk]
  unfold segB
  by_cases h1 : G.drop (sh F G) = [[]]
  · rw [if_pos h1]
    have hG2 : G = G.take (sh F G) ++ [[]] := by rw [← h1, List.take_append_drop]
    by_cases h2 : 0 < F.length - sh F G
    · rw [if_pos h2]
      have := hup []
      rw [List.append_nil] at this
      rw [this]
      have hl : lastDot (List.replicate (F.length - sh F G) dd) = true := by
        unfold lastDot
        rw [List.getLast?_replicate, if_neg (by omega)]
        decide
      rw [hl, if_pos rfl]
      exact hG2.symm
    · rw [if_neg h2]
      have e : F = G.take (sh F G) := by
        rw [← htk, List.take_of_length_le (by omega)]
      rw [List.foldl_cons, stp_dot, List.foldl_nil, if_pos (by decide)]
      rw [e] at hG2 ⊢
      have : (G.take (sh F G)) ++ [[]] = G := by
        have h3 := hG2
        rw [← e] at h3
        rw [← h1, List.take_append_drop]
      exact this
  · rw [if_neg h1]
    have hmem : ∀ p ∈ G.drop (sh F G), isDot p = false := fun p hp => hdot p (List.mem_of_mem_drop hp)
    have main : (List.replicate (F.length - sh F G) dd ++ G.drop (sh F G)).foldl stp F ++ (if lastDot (List.replicate (F.length - sh F G) dd ++ G.drop (sh F G)) = true then [[]] else []) = G := by
      rw [hup, fold_plain _ _ hmem, lastDot_app hr, lastDot_plain hmem, if_neg Bool.false_ne_true, List.append_nil, List.take_append_drop]
    dsimp only
    split
    · rw [List.foldl_cons, stp_dot]
      have : lastDot ([46] :: (List.replicate (F.length - sh F G) dd ++ G.drop (sh F G))) = lastDot (List.replicate (F.length - sh F G) dd ++ G.drop (sh F G)) := lastDot_app (ss := [[46]]) (by simp [hr])
      rw [this]
      exact main
    · exact main
theorem cln_stk {b : Bool} {l m : T} (hl : l.take 1 = [47]) (hm : m.take 1 = [47]) (e : stk l = stk m) : cln b l = cln b m := by
  unfold cln
  rw [if_pos hl, if_pos hm, e]
theorem fld_take (l x : T) (h : l = [] ∨ l.take 1 = [47]) : (fld l ++ x).take 1 = [47] := by
  have := fld_head h
  cases e : fld l with
  | nil => rw [e] at this; cases this
  | cons c r => rw [e] at this; simpa using this
/-- the path between leads there -/
theorem cln_between {b : Bool} {l g : T} (hl : l = [] ∨ l.take 1 = [47]) (hg : g.take 1 = [47]) : cln b (fld l ++ pathB (fdT l) (stk g)) = cln b g := cln_stk (fld_take l _ hl) hg (stk_between hl)
theorem cln_false {b : Bool} {g : T} (hg : g.take 1 = [47]) : cln b (cln false g) = cln b g := by
  refine cln_stk (cln_head hg) hg ?_
  obtain ⟨r, rfl⟩ : ∃ r, g = 47 :: r := by
    cases g with
    | nil => cases hg
    | cons c r => exact ⟨r, by simpa using hg⟩
  rw [cln_slash]
  split
  · exact stk_dot _
  · exact stk_join _
/-- what the path between looks like -/
theorem pathB_head {fs gs : List T} (h : gs ≠ []) (hg : ∀ p ∈ gs, 47 ∉ p) : (pathB fs gs).take 1 ≠ [47] ∧ 58 ∉ bef 47 (pathB fs gs) ∧ pathB fs gs ≠ [] := by
  unfold pathB segB
  split
  · split
    · rename_i h2
      obtain ⟨k, hk⟩ : ∃ k, fs.length - sh fs gs = k + 1 := ⟨fs.length - sh fs gs - 1, by omega⟩
      rw [hk]
      cases k with
      | zero => exact ⟨by decide, by decide, by decide⟩
      | succ k =>
        rw [List.replicate_succ, joinL_cons2 47 dd (by simp [List.replicate_succ])]
        have : ∀ x : T, bef 47 (dd ++ 47 :: x) = dd := fun x => by simp [bef, dd]
        rw [this]
        exact ⟨by simp [dd], by decide, by simp [dd]⟩
    · exact ⟨by decide, by decide, by decide⟩
  · have hy : (List.replicate (fs.length - sh fs gs) dd ++ gs.drop (sh fs gs)) ≠ [] := by simp [rest_ne h]
    have hyf : ∀ p ∈ (List.replicate (fs.length - sh fs gs) dd ++ gs.drop (sh fs gs)), 47 ∉ p := fun p hp => by
      rcases List.mem_append.mp hp with hp | hp
      · rw [(List.mem_replicate.mp hp).2]; decide
      · exact hg p (List.mem_of_mem_drop hp)
    rename_i h1
    dsimp only
    split
    · rw [joinL_cons2 47 [46] hy]
      have : ∀ x : T, bef 47 ([46] ++ 47 :: x) = [46] := fun x => by simp [bef]
      rw [this]
      exact ⟨by simp, by decide, by simp⟩
    · rename_i h2
      refine ⟨fun e => h2 (.inl e), fun e => h2 (.inr e), fun e => ?_⟩
      have hc := cut_join hy hyf
      rw [e] at hc
      have hc : ([[]] : List T) = List.replicate (fs.length - sh fs gs) dd ++ gs.drop (sh fs gs) := hc
      cases hn : fs.length - sh fs gs with
      | zero => rw [hn] at hc; exact h1 hc.symm
      | succ n =>
        rw [hn, List.replicate_succ] at hc
        have := (List.cons.inj hc).1
        cases this
end Mv
set_option Elab.async false
set_option linter.all false
set_option maxRecDepth 100000
set_option maxHeartbeats 4000000
namespace Da
open PySem PySem.Spec PyProof.Rows L2 Hd Xs Fx Mi Ms Md
open TL (tl)
theorem hu64 {A : Around} {k : Nat} (h : Room k A) : A.units + 64 < cLine := by have := h.un; omega
/-- the bag: three numbers, m draws at most -/
def Bg (m : Nat) (H : Hp) (a : Addr) : Prop := ∃ x y z : Int, H a = some (.lst [.int x, .int y, .int z]) ∧ 0 ≤ y ∧ y < 4294967296 ∧ 0 ≤ z ∧ z ≤ m
theorem Bg.fresh {m : Nat} {H : Hp} {a p : Addr} {o : HO} (h : Bg m H a) (hp : H p = none) : Bg m (upd H p o) a := by
  obtain ⟨x, y, z, e, r⟩ := h
  exact ⟨x, y, z, upd_old e hp, r⟩
theorem Bg.ne {m : Nat} {H : Hp} {a p : Addr} (h : Bg m H a) (hp : H p = none) : p ≠ a := by
  obtain ⟨x, y, z, e, r⟩ := h
  exact (ne_none e hp).symm
theorem Bg.ext {m : Nat} {H H' : Hp} {b : Addr} (h : Bg m H b) (e : Ext H H') : Bg m H' b := by
  obtain ⟨x, y, z, h, r⟩ := h
  exact ⟨x, y, z, e _ _ h, r⟩
theorem Bg.mono {m n : Nat} {H : Hp} {b : Addr} (h : Bg m H b) (e : m ≤ n) : Bg n H b := by
  obtain ⟨x, y, z, h, r1, r2, r3, r4⟩ := h
  exact ⟨x, y, z, h, r1, r2, r3, by omega⟩
theorem _root_.Xs.Kp.none {a p : Addr} {H H' : Hp} (h : Kp a H H') (n : p ≠ a) (e : H' p = none) : H p = none := by
  cases z : H p with
  | none => rfl
  | some o => rw [h p o n z] at e; cases e
theorem _root_.L2.Ext.kp {b : Addr} {H H1 H2 : Hp} (e : Ext H H1) (hb : H b = none) (k : Kp b H1 H2) : Ext H H2 := fun p o h => k p o (fun z => by subst z; rw [hb] at h; cases h) (e p o h)
def spTake : Sp := fun vs H Q _ => match vs with
  | [.ref a, .int n] => ∃ m, Bg m H a ∧ m ≤ 100000 ∧ 1 ≤ n ∧ n ≤ 1000000 ∧ ∀ d H', 0 ≤ d → d < n → Bg (m + 1) H' a → Kp a H H' → Q (.int d) H'
  | _ => False
theorem fm {x m : Int} (h : 0 < m) : 0 ≤ x.fmod m ∧ x.fmod m < m := by
  rw [Int.fmod_eq_emod_of_nonneg _ (by omega)]
  exact ⟨Int.emod_nonneg _ (by omega), Int.emod_lt_of_pos _ h⟩
theorem take_ok {m : Nat} {H : Hp} {a : Addr} {n : Int} {Q : VK} {E : XK} (hb : Bg m H a) (hm : m ≤ 100000) (n0 : 1 ≤ n) (n1 : n ≤ 1000000) (q : ∀ d H', 0 ≤ d → d < n → Bg (m + 1) H' a → Kp a H H' → Q (.int d) H') : spTake [.ref a, .int n] H Q E := ⟨m, hb, hm, n0, n1, q⟩
def spBag (K : PySem.W.Frag) : Sp := fun vs H Q _ => match vs with
  | [.ref a, .int i] => ∃ ns : List Int, SqL K H a (ns.map V.int) ∧ 0 ≤ i ∧ i ≤ 100 ∧ ∀ p H', Ext H H' → H p = none → Bg 0 H' p → Q (.ref p) H'
  | _ => False
section
variable {P : Program} {w : World} {K : PySem.W.Frag} {mg : Str → Option Value} {base : Heap}
theorem ok__law_take (c : Ct w K mg) : OkF P w K mg base CX0 1 (He.ga K "_law_take") ["bag", "many"] (spTake) := by
  obtain ⟨fd, F⟩ := F__law_take c
  refine ⟨fd, F.ok sc__law_take (fun vs H Q E h => ?_) (fun cdv A outer s H vs Q E hr h => ⟨_, PSs.nox ((pss_cons (ps_if (ctc co_gt (hix (cv 0) pe_int) pe_int (by rfl)) (pss_cons (ps_set (i := 2) (sc__law_take).nd rfl (Or.inl rfl) (pe_op co_mod (hix (cv 0) pe_int) (cv 1))) (pss_cons (ps_asg (pe_op co_fdiv (hix (cv 0) pe_int) (cv 1)) (pg_sub (cv 0) pe_int set_list)) (pss_one (ps_ret (cv 2))))) pss_nil) (pss_cons (ps_asg (pe_op co_add (hix (cv 0) pe_int) pe_int) (pg_sub (cv 0) pe_int set_list)) (pss_cons (ps_asg (pe_op co_mod (pe_op co_add (pe_op co_add (pe_op co_mul (hix (cv 0) pe_int) pe_int) (pe_op co_mul (pe_op co_mul pe_int (hix (cv 0) pe_int)) (hix (cv 0) pe_int))) pe_int) pe_int) (pg_sub (cv 0) pe_int set_list)) (pss_one (ps_ret (pe_op co_mod (pe_op co_fdiv (pe_op co_mod (pe_op co_pow (pe_op co_fdiv (hix (cv 0) pe_int) pe_int) pe_int) pe_int) pe_int) (cv 1)))))))), ?_⟩), F.bindsN fun _ _ _ _ _ _ us hl => match us, hl with | [_, _], _ => rfl⟩
  · unfold spTake at h
    split at h
    · rfl
    · exact h.elim
  · unfold spTake at h
    split at h
    case h_2 => exact h.elim
    rename_i a n
    obtain ⟨m, ⟨x, y, z, ha, y0, y1, z0, z1⟩, hm, n0, n1, q⟩ := h
    have e0 : ∀ v0 v1 v2 : V, atI [v0, v1, v2] 0 = some v0 := fun _ _ _ => rfl
    have e1 : ∀ v0 v1 v2 : V, atI [v0, v1, v2] 1 = some v1 := fun _ _ _ => rfl
    have e2 : ∀ v0 v1 v2 : V, atI [v0, v1, v2] 2 = some v2 := fun _ _ _ => rfl
    (try simp only [tSeq, tNext, tIfS, tFor_eq, cBl, tOp, tC, cI, cIc, cAdd, cVar, hEq, hNe, hIn, hNotIn, hLen, hSl, tM1, tBM, cT1, cT1f, cFind3, cSplit, cPart, rNewStrs, hIsS, hTru, tAsg, gName, gSub, tRet, tRetN, tCons, tNil, tTup, tLst, tCB, tNot, tAnd, tNotV, tAndV, tOrV, tOr, V.bl.injEq, V.int.injEq, V.str.injEq, exists_eq_left', exists_eq_left, exists_eq', true_and, and_true, cIsN, L2.start, gTup, gCons, gNil, nox_K, cx_K, tCallF, tSl, tPart, tNoPart, iEnum, RZ.iZipA, iRng1, iRng2, cAbs, List.map_cons, List.map_nil, List.length_cons, List.length_nil, List.replicate, List.cons_append, List.nil_append, List.getElem?_cons_zero, List.getElem?_cons_succ, List.getElem?_nil, List.set_cons_zero, List.set_cons_succ, Nat.reduceAdd, Nat.reduceSub, Nat.zero_add, if_true, if_false, reduceIte, reduceCtorEq, Bool.false_eq_true, decide_eq_true_eq, tDrop, cMin2, cJoin, iList, tDNewK, tLc_eq, iStr, wipe])
    simp only [hIx, seqAt_lst ha, e0, e1, e2]
    split
    · refine ⟨by omega, ⟨by omega, by omega⟩, setL_at ha rfl ?_⟩
      have hm := fm (x := x) (m := n) (by omega)
      exact q _ _ hm.1 hm.2 ⟨_, _, _, upd_self, y0, y1, z0, by omega⟩ (Kp.refl.at)
    · refine setL_at ha rfl ?_
      try simp only [List.set_cons_zero, List.set_cons_succ]
      simp only [hIx, seqAt_lst (upd_self (H := H) (a := a)), e0, e1, e2]
      refine ⟨.inr ⟨by decide, by decide⟩, .inl ⟨by decide, by decide⟩, .inr ⟨by omega, by omega⟩, by decide, setL_at upd_self rfl ?_⟩
      have hm := fm (x := y * 40692 + 6121 * (z + 1) * (z + 1) + 29) (m := 2147483399) (by decide)
      try simp only [List.set_cons_zero, List.set_cons_succ]
      simp only [hIx, seqAt_lst upd_self, e0, e1, e2]
      refine ⟨⟨by decide, by decide⟩, ⟨by decide, by decide, ?_⟩, by decide, ⟨by decide, by decide⟩, by omega, ?_⟩
      · generalize (y * 40692 + 6121 * (z + 1) * (z + 1) + 29).fmod 2147483399 = r at hm
        have : r.fdiv 8 = r / 8 := Int.fdiv_eq_ediv_of_nonneg _ (by decide)
        rw [this]
        omega
      · generalize (y * 40692 + 6121 * (z + 1) * (z + 1) + 29).fmod 2147483399 = r at *
        have hm2 := fm (x := ((((r.fdiv 8) ^ (3 : Int).toNat).fmod 2147483549).fdiv 16)) (m := n) (by omega)
        exact q _ _ hm2.1 hm2.2 ⟨_, _, _, upd_self, hm.1, by omega, by omega, by omega⟩ (Kp.refl.at.at)
theorem ok__law_bag (c : Ct w K mg) : OkF P w K mg base CX0 1 (He.ga K "_law_bag") ["script", "at"] (spBag K) := by
  obtain ⟨fd, F⟩ := F__law_bag c
  refine ⟨fd, F.ok sc__law_bag (fun vs H Q E h => ?_) (fun cdv A outer s H vs Q E hr h => ⟨_, PSs.nox ((pss_cons (ps_set (i := 2) (sc__law_bag).nd rfl (Or.inl rfl) pe_int) (pss_cons (ps_if (ctc co_lt (cv 1) (pe_callB cc_len (by rfl) (b_len c) (by decide +kernel) (pa_cons (cv 0) pa_nil)) (by rfl)) (pss_one (ps_set (i := 2) (sc__law_bag).nd rfl (Or.inl rfl) (cix (cv 0) (cv 1)))) pss_nil) (pss_cons (ps_set (i := 3) (sc__law_bag).nd rfl (Or.inl rfl) (pe_op ho_mul (pe_callB cc_abs (by rfl) (b_abs c) (by decide +kernel) (pa_cons (cv 2) pa_nil)) (pe_callTy hc_int1 (by rfl) (b_int c) (by decide +kernel) (pa_cons (pe_cmpR co_ge (pe_callB cc_abs (by rfl) (b_abs c) (by decide +kernel) (pa_cons (cv 2) pa_nil)) (pe_op co_pow pe_int pe_int) (by rfl)) pa_nil)))) (pss_one (ps_ret (pe_lst (pa_cons (cv 3) (pa_cons (pe_op co_add (pe_op co_mod (pe_op co_add (pe_op co_add (pe_op co_mod (cv 2) (pe_op co_add (pe_op co_pow pe_int pe_int) pe_int)) (pe_op co_mul pe_int (cv 1))) pe_int) pe_int) pe_int) (pa_cons pe_int pa_nil)))))))))), ?_⟩), F.bindsN fun _ _ _ _ _ _ us hl => match us, hl with | [_, _], _ => rfl⟩
  · unfold spBag at h
    split at h
    · rfl
    · exact h.elim
  · unfold spBag at h
    split at h
    case h_2 => exact h.elim
    rename_i a i
    obtain ⟨ns, hS, i0, i1, q⟩ := h
    refine seqStep ?_
    (try simp only [tNext, tFor_eq, cBl, tOp, tC, cI, cIc, cAdd, cVar, hEq, hNe, hIn, hNotIn, hLen, hSl, tM1, tBM, cT1, cT1f, cFind3, cSplit, cPart, rNewStrs, hIsS, hTru, tAsg, gName, gSub, tRet, tRetN, tCons, tNil, tTup, tLst, tCB, tNot, tAnd, tNotV, tAndV, tOrV, tOr, V.bl.injEq, V.int.injEq, V.str.injEq, exists_eq_left', exists_eq_left, exists_eq', true_and, and_true, cIsN, L2.start, gTup, gCons, gNil, nox_K, cx_K, tCallF, tSl, tPart, tNoPart, iEnum, RZ.iZipA, iRng1, iRng2, cAbs, List.map_cons, List.map_nil, List.length_cons, List.length_nil, List.replicate, List.cons_append, List.nil_append, List.getElem?_cons_zero, List.getElem?_cons_succ, List.getElem?_nil, List.set_cons_zero, List.set_cons_succ, Nat.reduceAdd, Nat.reduceSub, Nat.zero_add, if_true, if_false, reduceIte, reduceCtorEq, Bool.false_eq_true, decide_eq_true_eq, tDrop, cMin2, cJoin, iList, tDNewK, tLc_eq, iStr, wipe])
    refine seqCps (fun σ H' => H = H' ∧ ∃ z : Int, σ = [some (V.ref a), some (V.int i), some (V.int z), none]) (fun Nx hN => ?_) ?_
    · unfold tIfS
      (try simp only [tNext, tFor_eq, cBl, tOp, tC, cI, cIc, cAdd, cVar, hEq, hNe, hIn, hNotIn, hLen, hSl, tM1, tBM, cT1, cT1f, cFind3, cSplit, cPart, rNewStrs, hIsS, hTru, tAsg, gName, gSub, tRet, tRetN, tCons, tNil, tTup, tLst, tCB, tNot, tAnd, tNotV, tAndV, tOrV, tOr, V.bl.injEq, V.int.injEq, V.str.injEq, exists_eq_left', exists_eq_left, exists_eq', true_and, and_true, cIsN, L2.start, gTup, gCons, gNil, nox_K, cx_K, tCallF, tSl, tPart, tNoPart, iEnum, RZ.iZipA, iRng1, iRng2, cAbs, List.map_cons, List.map_nil, List.length_cons, List.length_nil, List.replicate, List.cons_append, List.nil_append, List.getElem?_cons_zero, List.getElem?_cons_succ, List.getElem?_nil, List.set_cons_zero, List.set_cons_succ, Nat.reduceAdd, Nat.reduceSub, Nat.zero_add, if_true, if_false, reduceIte, reduceCtorEq, Bool.false_eq_true, decide_eq_true_eq, tDrop, cMin2, cJoin, iList, tDNewK, tLc_eq, iStr, wipe])
      refine ⟨_, .inl hS, ?_⟩
      simp only [List.length_map]
      by_cases hl : i < (ns.length : Nat)
      · rw [if_pos hl]
        obtain ⟨j, rfl⟩ : ∃ j : Nat, i = j := ⟨i.toNat, by omega⟩
        have hj : j < ns.length := by omega
        refine ⟨_, .int ns[j], .inl hS, ?_, hN _ _ ⟨rfl, _, rfl⟩⟩
        unfold atI ixN
        rw [if_pos (by omega), if_pos (by simpa using hl)]
        simp [hj]
      · rw [if_neg hl]
        exact hN _ _ ⟨rfl, _, rfl⟩
    · rintro σ _ ⟨rfl, z, rfl⟩
      (try simp only [tSeq, tNext, tIfS, tFor_eq, cBl, tOp, tC, cI, cIc, cAdd, cVar, hEq, hNe, hIn, hNotIn, hLen, hSl, tM1, tBM, cT1, cT1f, cFind3, cSplit, cPart, rNewStrs, hIsS, hTru, tAsg, gName, gSub, tRet, tRetN, tCons, tNil, tTup, tLst, tCB, tNot, tAnd, tNotV, tAndV, tOrV, tOr, V.bl.injEq, V.int.injEq, V.str.injEq, exists_eq_left', exists_eq_left, exists_eq', true_and, and_true, cIsN, L2.start, gTup, gCons, gNil, nox_K, cx_K, tCallF, tSl, tPart, tNoPart, iEnum, RZ.iZipA, iRng1, iRng2, cAbs, List.map_cons, List.map_nil, List.length_cons, List.length_nil, List.replicate, List.cons_append, List.nil_append, List.getElem?_cons_zero, List.getElem?_cons_succ, List.getElem?_nil, List.set_cons_zero, List.set_cons_succ, Nat.reduceAdd, Nat.reduceSub, Nat.zero_add, if_true, if_false, reduceIte, reduceCtorEq, Bool.false_eq_true, decide_eq_true_eq, tDrop, cMin2, cJoin, iList, tDNewK, tLc_eq, iStr, wipe])
      simp only [hMul, hInt1]
      have e10 : (10 : Int) ^ (18 : Int).toNat = 1000000000000000000 := by decide
      refine ⟨⟨by decide, by decide, by decide⟩, .inr ⟨by (repeat' split) <;> decide, by (repeat' split) <;> decide⟩, ⟨by decide, by decide, by decide⟩, by rw [e10]; decide, .inl ⟨by decide, by decide⟩, by decide, by decide, fun p hp => ?_⟩
      rw [e10]
      have hm := fm (x := z.fmod (1000000000000000000 + 7) + 8117 * i + 307) (m := 2147483587) (by decide)
      exact q _ _ (Ext.rf.fresh hp) hp ⟨_, _, _, upd_self, by omega, by omega, by omega, by omega⟩
end
end Da
set_option Elab.async false
set_option linter.all false
set_option maxRecDepth 100000
set_option maxHeartbeats 4000000
namespace Da
open PySem PySem.Spec PyProof.Rows L2 Hd Xs Fx Mi Ms Md
open TL (tl)
/-- the signs of a path -/
def PS : T := PLNT ++ INNT ++ tl ":@/"
def RoadOk (b : Bool) (l : T) : Prop := l.take 1 = [47] ∧ Nw PS l ∧ (b = false → l.take 2 ≠ [47, 47])
def spSeg : Sp := fun vs H Q _ => match vs with
  | [.ref a] => ∃ m, Bg m H a ∧ m ≤ 100000 ∧ ∀ t : Str, ∀ H', t.length ≤ 6 → Sg t ∧ Nw PS (tl t) → Bg (m + 1) H' a → Kp a H H' → Q (.str t) H'
  | _ => False
theorem seg_ok {m : Nat} {H : Hp} {a : Addr} {Q : VK} {E : XK} (hb : Bg m H a) (hm : m ≤ 100000) (q : ∀ t : Str, ∀ H', t.length ≤ 6 → Sg t ∧ Nw PS (tl t) → Bg (m + 1) H' a → Kp a H H' → Q (.str t) H') : spSeg [.ref a] H Q E := ⟨m, hb, hm, q⟩
def spRooted : Sp := fun vs H Q _ => match vs with
  | [.ref a, .int n, .bl b] => ∃ m, Bg m H a ∧ m ≤ 90000 ∧ 1 ≤ n ∧ n ≤ 10 ∧ ∀ t : Str, ∀ H', t.length ≤ 200 → Sg t → RoadOk b (tl t) → Bg (m + 12) H' a → Kp a H H' → Q (.str t) H'
  | _ => False
theorem rooted_ok {m : Nat} {H : Hp} {a : Addr} {n : Int} {b : Bool} {Q : VK} {E : XK} (hb : Bg m H a) (hm : m ≤ 90000) (n0 : 1 ≤ n) (n1 : n ≤ 10) (q : ∀ t : Str, ∀ H', t.length ≤ 200 → Sg t → RoadOk b (tl t) → Bg (m + 12) H' a → Kp a H H' → Q (.str t) H') : spRooted [.ref a, .int n, .bl b] H Q E := ⟨m, hb, hm, n0, n1, q⟩
section
variable {P : Program} {w : World} {K : PySem.W.Frag} {mg : Str → Option Value} {base : Heap}
theorem ok__law_segment (c : Ct w K mg) : OkF P w K mg base CX0 2 (He.ga K "_law_segment") ["bag"] (spSeg) := by
  obtain ⟨fd, F⟩ := F__law_segment c
  refine ⟨fd, F.ok sc__law_segment (fun vs H Q E h => ?_) (fun cdv A outer s H vs Q E hr h => ⟨_, PSs.nox ((pss_cons (ps_set (i := 1) (sc__law_segment).nd rfl (Or.inl rfl) (pe_lst (pa_cons pe_str (pa_cons pe_str (pa_cons pe_str (pa_cons pe_str (pa_cons pe_str (pa_cons pe_str (pa_cons pe_str (pa_cons pe_str (pa_cons pe_str (pa_cons pe_str (pa_cons pe_str (pa_cons pe_str (pa_cons pe_str (pa_cons pe_str (pa_cons pe_str pa_nil))))))))))))))))) (pss_one (ps_ret (hix (cv 1) (pf (ok__law_take c) (hr.mono (by decide)) (g__law_take c) (k__law_take c) pass0 (pa_cons (cv 0) (pa_cons pe_int pa_nil)))))))), ?_⟩), F.bindsN fun _ _ _ _ _ _ us hl => match us, hl with | [_], _ => rfl⟩
  · unfold spSeg at h
    split at h
    · rfl
    · exact h.elim
  · unfold spSeg at h
    split at h
    case h_2 => exact h.elim
    rename_i a
    obtain ⟨m, hb, hm, q⟩ := h
    (try simp only [tSeq, tNext, tIfS, tFor_eq, cBl, tOp, tC, cI, cIc, cAdd, cVar, hEq, hNe, hIn, hNotIn, hLen, hSl, tM1, tBM, cT1, cT1f, cFind3, cSplit, cPart, rNewStrs, hIsS, hTru, tAsg, gName, gSub, tRet, tRetN, tCons, tNil, tTup, tLst, tCB, tNot, tAnd, tNotV, tAndV, tOrV, tOr, V.bl.injEq, V.int.injEq, V.str.injEq, exists_eq_left', exists_eq_left, exists_eq', true_and, and_true, cIsN, L2.start, gTup, gCons, gNil, nox_K, cx_K, tCallF, tSl, tPart, tNoPart, iEnum, RZ.iZipA, iRng1, iRng2, cAbs, List.map_cons, List.map_nil, List.length_cons, List.length_nil, List.replicate, List.cons_append, List.nil_append, List.getElem?_cons_zero, List.getElem?_cons_succ, List.getElem?_nil, List.set_cons_zero, List.set_cons_succ, Nat.reduceAdd, Nat.reduceSub, Nat.zero_add, if_true, if_false, reduceIte, reduceCtorEq, Bool.false_eq_true, decide_eq_true_eq, tDrop, cMin2, cJoin, iList, tDNewK, tLc_eq, iStr, wipe])
    refine ⟨by decide, fun p hp => ?_⟩
    refine take_ok (hb.fresh hp) hm (by decide) (by decide) fun d H1 d0 d1 hb1 hk1 => ?_
    refine hIx_all (hk1 _ _ (hb.ne hp) upd_self) d0 d1 fun v hv => ?_
    have hk : Kp a H H1 := (Kp.refl.fresh hp).trans hk1
    simp only [List.mem_cons, List.not_mem_nil, or_false] at hv
    rcases hv with rfl | rfl | rfl | rfl | rfl | rfl | rfl | rfl | rfl | rfl | rfl | rfl | rfl | rfl | rfl
    all_goals exact q _ _ (by decide) ⟨Sg.lit (by rfl), Nw.lit (by decide +kernel)⟩ hb1 hk
theorem ok__law_rooted (c : Ct w K mg) : OkF P w K mg base CX0 3 (He.ga K "_law_rooted") ["bag", "most", "is_beside"] (spRooted) := by
  obtain ⟨fd, F⟩ := F__law_rooted c
  refine ⟨fd, F.ok sc__law_rooted (fun vs H Q E h => ?_) (fun cdv A outer s H vs Q E hr h => ⟨_, PSs.nox ((pss_cons (ps_set (i := 4) (sc__law_rooted).nd rfl (Or.inl rfl) (pe_op co_add pe_str (pe_m1 PySem.F.slot_str_join PySem.F.type_str_join hm_join pe_str (pe_lc rfl (sc__law_rooted).nd (pi_range1 rfl (b_range c) (pa_cons (pe_op co_add pe_int (pf (ok__law_take c) (hr.mono (by decide)) (g__law_take c) (k__law_take c) pass0 (pa_cons (cv 0) (pa_cons (cv 1) pa_nil)))) pa_nil)) (blkOk_by (own := [("k", 3)]) (by rfl)) (fun _ _ _ _ _ => pg_name (i := 3) (sc__law_rooted).nd rfl (Or.inl rfl)) (fun _ _ _ _ _ => pts_nil) (fun _ _ _ _ _ => (pf (ok__law_segment c) (hr.mono (by decide)) (g__law_segment c) (k__law_segment c) pass0 (pa_cons (cv 0) pa_nil))))))) (pss_one (ps_ret (pe_ifExp (PW.pt (pw_and (pt_not (hTr (cv 2))) (pw_and1 (ctc (ho_eq (hu64 hr)) (pe_slice hs_any (cv 4) po_none (po_some pe_int)) pe_str (by rfl))))) (pe_op co_add pe_str (cv 4)) (cv 4)))))), ?_⟩), F.bindsN fun _ _ _ _ _ _ us hl => match us, hl with | [_, _, _], _ => rfl⟩
  · unfold spRooted at h
    split at h
    · rfl
    · exact h.elim
  · unfold spRooted at h
    split at h
    case h_2 => exact h.elim
    rename_i a n b
    obtain ⟨m, hb, hm, n0, n1, q⟩ := h
    have sl := sl
    (try simp only [tSeq, tNext, tIfS, tFor_eq, cBl, tOp, tC, cI, cIc, cAdd, cVar, hEq, hNe, hIn, hNotIn, hLen, hSl, tM1, tBM, cT1, cT1f, cFind3, cSplit, cPart, rNewStrs, hIsS, hTru, tAsg, gName, gSub, tRet, tRetN, tCons, tNil, tTup, tLst, tCB, tNot, tAnd, tNotV, tAndV, tOrV, tOr, V.bl.injEq, V.int.injEq, V.str.injEq, exists_eq_left', exists_eq_left, exists_eq', true_and, and_true, cIsN, L2.start, gTup, gCons, gNil, nox_K, cx_K, tCallF, tSl, tPart, tNoPart, iEnum, RZ.iZipA, iRng1, iRng2, cAbs, List.map_cons, List.map_nil, List.length_cons, List.length_nil, List.replicate, List.cons_append, List.nil_append, List.getElem?_cons_zero, List.getElem?_cons_succ, List.getElem?_nil, List.set_cons_zero, List.set_cons_succ, Nat.reduceAdd, Nat.reduceSub, Nat.zero_add, if_true, if_false, reduceIte, reduceCtorEq, Bool.false_eq_true, decide_eq_true_eq, tDrop, cMin2, cJoin, iList, tDNewK, tLc_eq, iStr, wipe])
    refine take_ok hb (by omega) (by omega) (by omega) fun d H1 d0 d1 hb1 hk1 => ?_
    refine ⟨1 + d, rfl, by omega, by omega, fun D hD => ?_⟩
    have hDa := hb1.ne hD
    refine lcp_range (fun i H' => ∃ ys : List Str, H' D = some (.lst (ys.map V.str)) ∧ (∀ y ∈ ys, y.length ≤ 6) ∧ (∀ y ∈ ys, Sg y ∧ Nw PS (tl y)) ∧ ys.length = i ∧ Bg (m + 1 + i) H' a ∧ Kp a H H') ⟨[], upd_self, fun _ h => (nomatch h), fun _ h => (nomatch h), rfl, hb1.fresh hD, hk1.fresh hD⟩ ?_ ?_
    · rintro i H2 hi ⟨ys, hl, hy, hg, hn, hb2, hk2⟩
      (try simp only [tSeq, tNext, tIfS, tFor_eq, cBl, tOp, tC, cI, cIc, cAdd, cVar, hEq, hNe, hIn, hNotIn, hLen, hSl, tM1, tBM, cT1, cT1f, cFind3, cSplit, cPart, rNewStrs, hIsS, hTru, tAsg, gName, gSub, tRet, tRetN, tCons, tNil, tTup, tLst, tCB, tNot, tAnd, tNotV, tAndV, tOrV, tOr, V.bl.injEq, V.int.injEq, V.str.injEq, exists_eq_left', exists_eq_left, exists_eq', true_and, and_true, cIsN, L2.start, gTup, gCons, gNil, nox_K, cx_K, tCallF, tSl, tPart, tNoPart, iEnum, RZ.iZipA, iRng1, iRng2, cAbs, List.map_cons, List.map_nil, List.length_cons, List.length_nil, List.replicate, List.cons_append, List.nil_append, List.getElem?_cons_zero, List.getElem?_cons_succ, List.getElem?_nil, List.set_cons_zero, List.set_cons_succ, Nat.reduceAdd, Nat.reduceSub, Nat.zero_add, if_true, if_false, reduceIte, reduceCtorEq, Bool.false_eq_true, decide_eq_true_eq, tDrop, cMin2, cJoin, iList, tDNewK, tLc_eq, iStr, wipe])
      simp only [tYes, if_true]
      refine seg_ok hb2 (by omega) fun t H3 ht hs hb3 hk3 => ?_
      refine ⟨ys.map V.str, hk3 _ _ hDa hl, by rw [List.length_map]; omega, ys ++ [t], by rw [List.map_append]; exact upd_self, fun y hm => ?_, fun y hm => ?_, by rw [List.length_append]; simp only [List.length_cons, List.length_nil]; omega, ?_, ?_⟩
      · rcases List.mem_append.mp hm with hm | hm
        · exact hy y hm
        · rw [List.mem_singleton.mp hm]; exact ht
      · rcases List.mem_append.mp hm with hm | hm
        · exact hg y hm
        · rw [List.mem_singleton.mp hm]; exact hs
      · obtain ⟨x, y, z, e, r⟩ := hb3
        exact ⟨x, y, z, by rw [upd_ne hDa.symm]; exact e, r⟩
      · exact (hk2.trans hk3).new (hk1.none hDa hD)
    · rintro H2 ⟨ys, hl, hy, hg, hn, hb2, hk2⟩
      have hj := join_len (y := Str.ofString "/") hy
      have hs := sum_len hy
      have e1 : (Str.ofString "/").length = 1 := rfl
      have e2 : (Str.ofString "/.").length = 2 := rfl
      have hn2 : ys.length ≤ 10 := by omega
      have hj2 : (Txt.join (Str.ofString "/") ys).length ≤ 70 := by
        rw [e1] at hj
        omega
      have hjg : Sg (Txt.join (Str.ofString "/") ys) := Sg.join (Sg.lit (by rfl)) fun y hy => (hg y hy).1
      have hjn : Nw PS (tl (Txt.join (Str.ofString "/") ys)) := by
        rw [TL.join_eq, TL.tl_join]
        exact nwJ (by decide +kernel) _ fun p hp => by
          obtain ⟨z, hz, rfl⟩ := List.mem_map.mp hp
          exact (hg z hz).2
      refine ⟨ys, .inl (.inl (Rd.of hl)), by rw [e1]; omega, ?_⟩
      generalize Txt.join (Str.ofString "/") ys = tj at *
      have hsl : Sg (Str.ofString "/" ++ tj) := (Sg.lit (by rfl)).app hjg
      have ht1 : (tl (Str.ofString "/" ++ tj)).take 1 = [47] := by rw [TL.tl_append]; rfl
      have hn1 : Nw PS (tl (Str.ofString "/" ++ tj)) := by rw [TL.tl_append]; exact (Nw.lit (by decide +kernel)).app hjn
      have ht2 : RoadOk b (tl (Str.ofString "/." ++ (Str.ofString "/" ++ tj))) := by
        rw [TL.tl_append]
        exact ⟨rfl, (Nw.lit (by decide +kernel)).app hn1, fun _ e => absurd (List.cons.inj (List.cons.inj e).2).1 (by decide)⟩
      have hb3 := hb2.mono (show m + 1 + (1 + d).toNat ≤ m + 12 by omega)
      have hlen : (Str.ofString "/" ++ tj).length = 1 + tj.length := by rw [la, e1]
      refine ⟨by omega, ?_⟩
      unfold tIf
      (try simp only [tSeq, tNext, tIfS, tFor_eq, cBl, tOp, tC, cI, cIc, cAdd, cVar, hEq, hNe, hIn, hNotIn, hLen, hSl, tM1, tBM, cT1, cT1f, cFind3, cSplit, cPart, rNewStrs, hIsS, hTru, tAsg, gName, gSub, tRet, tRetN, tCons, tNil, tTup, tLst, tCB, tNot, tAnd, tNotV, tAndV, tOrV, tOr, V.bl.injEq, V.int.injEq, V.str.injEq, exists_eq_left', exists_eq_left, exists_eq', true_and, and_true, cIsN, L2.start, gTup, gCons, gNil, nox_K, cx_K, tCallF, tSl, tPart, tNoPart, iEnum, RZ.iZipA, iRng1, iRng2, cAbs, List.map_cons, List.map_nil, List.length_cons, List.length_nil, List.replicate, List.cons_append, List.nil_append, List.getElem?_cons_zero, List.getElem?_cons_succ, List.getElem?_nil, List.set_cons_zero, List.set_cons_succ, Nat.reduceAdd, Nat.reduceSub, Nat.zero_add, if_true, if_false, reduceIte, reduceCtorEq, Bool.false_eq_true, decide_eq_true_eq, tDrop, cMin2, cJoin, iList, tDNewK, tLc_eq, iStr, wipe])
      cases b
      · simp only [Bool.not_false, if_true]
        refine ⟨by omega, ?_⟩
        split
        · exact ⟨by omega, q _ _ (by rw [la]; omega) ((Sg.lit (by rfl)).app hsl) ht2 hb3 hk2⟩
        · rename_i n2
          exact q _ _ (by omega) hsl ⟨ht1, hn1, fun _ e => n2 (slashes_of.mpr e)⟩ hb3 hk2
      · simp only [Bool.not_true, Bool.false_eq_true, if_false]
        exact q _ _ (by omega) hsl ⟨ht1, hn1, fun e => Bool.noConfusion e⟩ hb3 hk2
end
end Da
set_option Elab.async false
set_option linter.all false
set_option maxRecDepth 100000
set_option maxHeartbeats 4000000
namespace Da
open PySem PySem.Spec PyProof.Rows L2 Hd Xs Fx Mi Ms Md
open TL (tl)
/-- the stack of a path, a new list of texts -/
def spStack : Sp := fun vs H Q _ => match vs with
  | [.str t] => t.length ≤ (100000 : Nat) ∧ (tl t).take 1 = [47] ∧ ∀ p (ks : List Str) H', Ext H H' → H p = none → H' p = some (.lst (ks.map V.str)) → ks.map tl = stk (tl t) → Q (.ref p) H'
  | _ => False
/-- the stack while a path is walked -/
def foldS (zs : List Str) (i : Nat) : List T := ((zs.take i).map tl).foldl stp []
theorem foldS_step {zs : List Str} {i : Nat} {z : Str} (h : zs[i]? = some z) : foldS zs (i + 1) = stp (foldS zs i) (tl z) := by
  unfold foldS
  rw [take_snoc h, List.map_append, List.foldl_append]
  rfl
theorem foldS_len (zs : List Str) (i : Nat) : (foldS zs i).length ≤ i := by
  induction i with
  | zero => exact Nat.le_refl _
  | succ i ih =>
    cases h : zs[i]? with
    | none =>
      unfold foldS at ih ⊢
      rw [List.take_succ, h]
      simp only [Option.toList_none, List.append_nil]
      omega
    | some z =>
      rw [foldS_step h]
      unfold stp
      split
      · omega
      · split
        · rw [List.length_dropLast]; omega
        · rw [List.length_append, List.length_singleton]; omega
theorem lastDot_str {zs : List Str} {z : Str} (h : zs.getLast? = some z) : lastDot (zs.map tl) = isDot (tl z) := by
  unfold lastDot
  rw [List.getLast?_map, h]
  rfl
theorem stk_end {zs : List Str} {z : Str} (h : zs.getLast? = some z) : stkL (zs.map tl) = foldS zs zs.length ++ (if isDot (tl z) = true then [[]] else []) := by
  unfold stkL foldS
  rw [List.take_length, lastDot_str h]
section
variable {P : Program} {w : World} {K : PySem.W.Frag} {mg : Str → Option Value} {base : Heap}
theorem ok_stack (c : Ct w K mg) : OkF P w K mg base CX0 1 (He.ga K "stack") ["path"] (spStack) := by
  obtain ⟨fd, F⟩ := F_stack c
  refine ⟨fd, F.ok sc_stack (fun vs H Q E h => ?_) (fun cdv A outer s H vs Q E hr h => ⟨_, PSs.nox ((pss_cons (ps_set (i := 1) (sc_stack).nd rfl (Or.inl rfl) (pe_slice hs_any (pe_m1 PySem.F.slot_str_split PySem.F.type_str_split cm_split (cv 0) pe_str) (po_some pe_int) po_none)) (pss_cons (ps_set (i := 2) (sc_stack).nd rfl (Or.inl rfl) (pe_lst pa_nil)) (pss_cons (ps_for PassesOwn.never rfl (pi_list (cv 1)) (pg_name (i := 3) (sc_stack).nd rfl (Or.inl rfl)) (pss_one (ps_if (ctc ho_notIn (cv 3) (pe_tup (pa_cons pe_str (pa_cons pe_str pa_nil))) (by rfl)) (pss_one (ps_expr (pe_bm PySem.F.plainAttrs_list PySem.F.slot_list_append PySem.F.type_list_append mt_append (cv 2) (pa_cons (cv 3) pa_nil)))) (pss_one (ps_if (PW.pt (pw_and (ctc (ho_eq (hu64 hr)) (cv 3) pe_str (by rfl)) (pw_and1 (ctc co_gt (pe_callB hc_len (by rfl) (b_len c) (by decide +kernel) (pa_cons (cv 2) pa_nil)) pe_int (by rfl))))) (pss_one (ps_expr (pe_bm0 PySem.F.plainAttrs_list PySem.F.slot_list_pop PySem.F.type_list_pop mt_pop (cv 2)))) pss_nil))))) (pss_cons (ps_if (ctc ho_in (hix (cv 1) (pe_un un_neg pe_int)) (pe_tup (pa_cons pe_str (pa_cons pe_str pa_nil))) (by rfl)) (pss_one (ps_expr (pe_bm PySem.F.plainAttrs_list PySem.F.slot_list_append PySem.F.type_list_append mt_append (cv 2) (pa_cons pe_str pa_nil)))) pss_nil) (pss_one (ps_ret (cv 2)))))))), ?_⟩), F.bindsN fun _ _ _ _ _ _ us hl => match us, hl with | [_], _ => rfl⟩
  · unfold spStack at h
    split at h
    · rfl
    · exact h.elim
  · unfold spStack at h
    split at h
    case h_2 => exact h.elim
    rename_i t
    obtain ⟨ht, hs, q⟩ := h
    have sl := sl
    obtain ⟨z0, zs, ez, em⟩ := split_slash hs
    have hzl : zs.length ≤ (100000 : Nat) + 1 := by
      have := wt_len (cut 47 ((tl t).drop 1))
      rw [wt_cut, List.length_drop, ← em, List.length_map, ← TL.len_tl] at this
      omega
    have hne : zs ≠ [] := fun e => by
      rw [e] at em
      exact cut_ne _ _ em.symm
    refine seqStep ?_
    (try simp only [tNext, tFor_eq, cBl, tOp, tC, cI, cIc, cAdd, cVar, hEq, hNe, hIn, hNotIn, hLen, hSl, tM1, tBM, cT1, cT1f, cFind3, cSplit, cPart, rNewStrs, hIsS, hTru, tAsg, gName, gSub, tRet, tRetN, tCons, tNil, tTup, tLst, tCB, tNot, tAnd, tNotV, tAndV, tOrV, tOr, V.bl.injEq, V.int.injEq, V.str.injEq, exists_eq_left', exists_eq_left, exists_eq', true_and, and_true, cIsN, L2.start, gTup, gCons, gNil, nox_K, cx_K, tCallF, tSl, tPart, tNoPart, iEnum, RZ.iZipA, iRng1, iRng2, cAbs, List.map_cons, List.map_nil, List.length_cons, List.length_nil, List.replicate, List.cons_append, List.nil_append, List.getElem?_cons_zero, List.getElem?_cons_succ, List.getElem?_nil, List.set_cons_zero, List.set_cons_succ, Nat.reduceAdd, Nat.reduceSub, Nat.zero_add, if_true, if_false, reduceIte, reduceCtorEq, Bool.false_eq_true, decide_eq_true_eq, tDrop, cMin2, cJoin, iList, tDNewK, tLc_eq, iStr, wipe])
    refine ⟨rfl, by omega, fun p1 hp1 => ?_⟩
    simp only [upd_self, ez]
    intro p2 hp2
    rw [List.map_cons, cutV_tail]
    have x2 : Ext H (upd (upd H p1 (.lst (V.str z0 :: zs.map V.str))) p2 (.lst (zs.map V.str))) := (Ext.rf.fresh hp1).fresh hp2
    have h2 : (upd (upd H p1 (.lst (V.str z0 :: zs.map V.str))) p2 (.lst (zs.map V.str))) p2 = some (.lst (zs.map V.str)) := upd_self
    have hn2 : H p2 = none := by
      cases z : H p2 with
      | none => rfl
      | some o => rw [upd_old z hp1] at hp2; cases hp2
    generalize (upd (upd H p1 (.lst (V.str z0 :: zs.map V.str))) p2 (.lst (zs.map V.str))) = H2 at *
    refine seqStep ?_
    (try simp only [tNext, tFor_eq, cBl, tOp, tC, cI, cIc, cAdd, cVar, hEq, hNe, hIn, hNotIn, hLen, hSl, tM1, tBM, cT1, cT1f, cFind3, cSplit, cPart, rNewStrs, hIsS, hTru, tAsg, gName, gSub, tRet, tRetN, tCons, tNil, tTup, tLst, tCB, tNot, tAnd, tNotV, tAndV, tOrV, tOr, V.bl.injEq, V.int.injEq, V.str.injEq, exists_eq_left', exists_eq_left, exists_eq', true_and, and_true, cIsN, L2.start, gTup, gCons, gNil, nox_K, cx_K, tCallF, tSl, tPart, tNoPart, iEnum, RZ.iZipA, iRng1, iRng2, cAbs, List.map_cons, List.map_nil, List.length_cons, List.length_nil, List.replicate, List.cons_append, List.nil_append, List.getElem?_cons_zero, List.getElem?_cons_succ, List.getElem?_nil, List.set_cons_zero, List.set_cons_succ, Nat.reduceAdd, Nat.reduceSub, Nat.zero_add, if_true, if_false, reduceIte, reduceCtorEq, Bool.false_eq_true, decide_eq_true_eq, tDrop, cMin2, cJoin, iList, tDNewK, tLc_eq, iStr, wipe])
    refine ⟨by decide, fun kp hkp => ?_⟩
    have hnk : H kp = none := by
      cases z : H kp with
      | none => rfl
      | some o => rw [x2 _ _ z] at hkp; cases hkp
    have hne2 : p2 ≠ kp := ne_none h2 hkp
    refine seqCps (fun σ H' => ∃ u3, ∃ ks : List Str, σ = [some (.str t), some (.ref p2), some (.ref kp), u3] ∧ Ext H H' ∧ H' p2 = some (.lst (zs.map V.str)) ∧ H' kp = some (.lst (ks.map V.str)) ∧ ks.map tl = foldS zs zs.length) (fun Nx hN => ?_) ?_
    · (try simp only [tNext, tFor_eq, cBl, tOp, tC, cI, cIc, cAdd, cVar, hEq, hNe, hIn, hNotIn, hLen, hSl, tM1, tBM, cT1, cT1f, cFind3, cSplit, cPart, rNewStrs, hIsS, hTru, tAsg, gName, gSub, tRet, tRetN, tCons, tNil, tTup, tLst, tCB, tNot, tAnd, tNotV, tAndV, tOrV, tOr, V.bl.injEq, V.int.injEq, V.str.injEq, exists_eq_left', exists_eq_left, exists_eq', true_and, and_true, cIsN, L2.start, gTup, gCons, gNil, nox_K, cx_K, tCallF, tSl, tPart, tNoPart, iEnum, RZ.iZipA, iRng1, iRng2, cAbs, List.map_cons, List.map_nil, List.length_cons, List.length_nil, List.replicate, List.cons_append, List.nil_append, List.getElem?_cons_zero, List.getElem?_cons_succ, List.getElem?_nil, List.set_cons_zero, List.set_cons_succ, Nat.reduceAdd, Nat.reduceSub, Nat.zero_add, if_true, if_false, reduceIte, reduceCtorEq, Bool.false_eq_true, decide_eq_true_eq, tDrop, cMin2, cJoin, iList, tDNewK, tLc_eq, iStr, wipe])
      refine ⟨p2, rfl, ⟨_, .inl (Rd.of (upd_old h2 hkp))⟩, ?_⟩
      refine lp_list (xs := zs.map V.str) (fun i σ H' => ∃ u3, ∃ ks : List Str, σ = [some (.str t), some (.ref p2), some (.ref kp), u3] ∧ Ext H H' ∧ H' p2 = some (.lst (zs.map V.str)) ∧ H' kp = some (.lst (ks.map V.str)) ∧ ks.map tl = foldS zs i) ⟨_, [], rfl, x2.fresh hkp, upd_old h2 hkp, upd_self, rfl⟩ ?_ ?_ ?_
      · rintro i σ H3 hi ⟨u3, ks, rfl, _, h3, _, _⟩
        exact .inl (Rd.of h3)
      · rintro i x σ H3 hx ⟨u3, ks, rfl, x3, h3, hk, ek⟩
        obtain ⟨z, hz, rfl⟩ := map_str hx
        have hi : i < zs.length := by
          cases Nat.lt_or_ge i zs.length with
          | inl h => exact h
          | inr h => rw [List.getElem?_eq_none h] at hz; cases hz
        have hkl : ks.length ≤ i := by
          have := foldS_len zs i
          rw [← ek, List.length_map] at this
          exact this
        unfold tIfS
        (try simp only [tSeq, tNext, tIfS, tFor_eq, cBl, tOp, tC, cI, cIc, cAdd, cVar, hEq, hNe, hIn, hNotIn, hLen, hSl, tM1, tBM, cT1, cT1f, cFind3, cSplit, cPart, rNewStrs, hIsS, hTru, tAsg, gName, gSub, tRet, tRetN, tCons, tNil, tTup, tLst, tCB, tNot, tAnd, tNotV, tAndV, tOrV, tOr, V.bl.injEq, V.int.injEq, V.str.injEq, exists_eq_left', exists_eq_left, exists_eq', true_and, and_true, cIsN, L2.start, gTup, gCons, gNil, nox_K, cx_K, tCallF, tSl, tPart, tNoPart, iEnum, RZ.iZipA, iRng1, iRng2, cAbs, List.map_cons, List.map_nil, List.length_cons, List.length_nil, List.replicate, List.cons_append, List.nil_append, List.getElem?_cons_zero, List.getElem?_cons_succ, List.getElem?_nil, List.set_cons_zero, List.set_cons_succ, Nat.reduceAdd, Nat.reduceSub, Nat.zero_add, if_true, if_false, reduceIte, reduceCtorEq, Bool.false_eq_true, decide_eq_true_eq, tDrop, cMin2, cJoin, iList, tDNewK, tLc_eq, iStr, wipe])
        refine ⟨by decide, fun p4 hp4 => ?_⟩
        have hk4 : (upd H3 p4 (.tup [V.str (Str.ofString "."), V.str (Str.ofString "..")])) kp = some (.lst (ks.map V.str)) := upd_old hk hp4
        have h34 : (upd H3 p4 (.tup [V.str (Str.ofString "."), V.str (Str.ofString "..")])) p2 = some (.lst (zs.map V.str)) := upd_old h3 hp4
        have x4 : Ext H (upd H3 p4 (.tup [V.str (Str.ofString "."), V.str (Str.ofString "..")])) := x3.fresh hp4
        refine ⟨_, .inr (.inl (Rd.of upd_self)), rfl, rfl, ?_⟩
        generalize (upd H3 p4 (.tup [V.str (Str.ofString "."), V.str (Str.ofString "..")])) = H4 at *
        rw [inV_dot]
        cases hd : isDot (tl z) with
        | false =>
          simp only [Bool.not_false, if_true]
          refine ⟨tyL hk4, append_at hk4 (by rw [List.length_map]; omega) ?_⟩
          refine ⟨_, ks ++ [z], rfl, x4.new hnk, by rw [upd_ne hne2]; exact h34, by rw [List.map_append]; exact upd_self, ?_⟩
          rw [foldS_step hz, stp_plain hd, List.map_append, ek]
          rfl
        | true =>
          simp only [Bool.not_true, Bool.false_eq_true, if_false, if_true]
          have ek2 : foldS zs (i + 1) = if tl z = [46, 46] then (foldS zs i).dropLast else foldS zs i := by
            rw [foldS_step hz]
            unfold stp
            rcases isDot_iff.mp hd with e | e
            · rw [e]; rfl
            · rw [e]; rfl
          split
          · rename_i he
            have he := str_dots.mp he
            rw [if_pos he] at ek2
            simp only [hk4]
            split
            · rename_i hpos
              have hpos : 0 < ks.length := by
                have := hpos
                simp only [List.length_map] at this
                omega
              unfold tBM0
              (try simp only [tSeq, tNext, tIfS, tFor_eq, cBl, tOp, tC, cI, cIc, cAdd, cVar, hEq, hNe, hIn, hNotIn, hLen, hSl, tM1, tBM, cT1, cT1f, cFind3, cSplit, cPart, rNewStrs, hIsS, hTru, tAsg, gName, gSub, tRet, tRetN, tCons, tNil, tTup, tLst, tCB, tNot, tAnd, tNotV, tAndV, tOrV, tOr, V.bl.injEq, V.int.injEq, V.str.injEq, exists_eq_left', exists_eq_left, exists_eq', true_and, and_true, cIsN, L2.start, gTup, gCons, gNil, nox_K, cx_K, tCallF, tSl, tPart, tNoPart, iEnum, RZ.iZipA, iRng1, iRng2, cAbs, List.map_cons, List.map_nil, List.length_cons, List.length_nil, List.replicate, List.cons_append, List.nil_append, List.getElem?_cons_zero, List.getElem?_cons_succ, List.getElem?_nil, List.set_cons_zero, List.set_cons_succ, Nat.reduceAdd, Nat.reduceSub, Nat.zero_add, if_true, if_false, reduceIte, reduceCtorEq, Bool.false_eq_true, decide_eq_true_eq, tDrop, cMin2, cJoin, iList, tDNewK, tLc_eq, iStr, wipe])
              refine ⟨tyL hk4, pop_at (y := V.str (ks[ks.length - 1]'(by omega))) hk4 (by rw [List.length_map, List.getElem?_map, List.getElem?_eq_getElem (by omega)]; rfl) ?_⟩
              refine ⟨_, ks.dropLast, rfl, x4.new hnk, by rw [upd_ne hne2]; exact h34, by rw [← List.map_dropLast]; exact upd_self, ?_⟩
              rw [ek2, ← ek, List.map_dropLast]
            · rename_i hpos
              have hk0 : ks = [] := by
                cases ks with
                | nil => rfl
                | cons a b => exact absurd (by simp only [List.map_cons, List.length_cons]; omega) hpos
              refine ⟨_, ks, rfl, x4, h34, rfl, ?_⟩
              rw [ek2, ← ek, hk0]
              rfl
          · rename_i he
            rw [if_neg (fun e => he (str_dots.mpr e))] at ek2
            exact ⟨_, ks, rfl, x4, h34, hk4, by rw [ek2, ek]⟩
      · exact fun σ H' h => hN _ _ (by rw [List.length_map] at h; exact h)
    · rintro σ H3 ⟨u3, ks, rfl, x3, h3, hk, ek⟩
      obtain ⟨z, h1, h2z⟩ := last_str hne
      have es := stk_end h2z
      rw [em] at es
      have hkl : ks.length ≤ zs.length := by
        have := foldS_len zs zs.length
        rw [← ek, List.length_map] at this
        exact this
      unfold tIfS
      (try simp only [tSeq, tNext, tIfS, tFor_eq, cBl, tOp, tC, cI, cIc, cAdd, cVar, hEq, hNe, hIn, hNotIn, hLen, hSl, tM1, tBM, cT1, cT1f, cFind3, cSplit, cPart, rNewStrs, hIsS, hTru, tAsg, gName, gSub, tRet, tRetN, tCons, tNil, tTup, tLst, tCB, tNot, tAnd, tNotV, tAndV, tOrV, tOr, V.bl.injEq, V.int.injEq, V.str.injEq, exists_eq_left', exists_eq_left, exists_eq', true_and, and_true, cIsN, L2.start, gTup, gCons, gNil, nox_K, cx_K, tCallF, tSl, tPart, tNoPart, iEnum, RZ.iZipA, iRng1, iRng2, cAbs, List.map_cons, List.map_nil, List.length_cons, List.length_nil, List.replicate, List.cons_append, List.nil_append, List.getElem?_cons_zero, List.getElem?_cons_succ, List.getElem?_nil, List.set_cons_zero, List.set_cons_succ, Nat.reduceAdd, Nat.reduceSub, Nat.zero_add, if_true, if_false, reduceIte, reduceCtorEq, Bool.false_eq_true, decide_eq_true_eq, tDrop, cMin2, cJoin, iList, tDNewK, tLc_eq, iStr, wipe])
      refine ⟨_, rfl, hIx_lit h3 h1 ?_⟩
      refine ⟨by decide, fun p4 hp4 => ?_⟩
      refine ⟨_, .inr (.inl (Rd.of upd_self)), rfl, rfl, ?_⟩
      rw [inV_dot]
      have hk4 : (upd H3 p4 (.tup [V.str (Str.ofString "."), V.str (Str.ofString "..")])) kp = some (.lst (ks.map V.str)) := upd_old hk hp4
      have x4 : Ext H (upd H3 p4 (.tup [V.str (Str.ofString "."), V.str (Str.ofString "..")])) := x3.fresh hp4
      generalize (upd H3 p4 (.tup [V.str (Str.ofString "."), V.str (Str.ofString "..")])) = H4 at *
      cases hd : isDot (tl z) with
      | false =>
        simp only [Bool.false_eq_true, if_false]
        rw [hd, if_neg Bool.false_ne_true, List.append_nil] at es
        exact q _ ks _ x4 hnk hk4 (by rw [ek]; exact es.symm)
      | true =>
        simp only [if_true]
        rw [hd, if_pos rfl] at es
        refine ⟨tyL hk4, append_at hk4 (by rw [List.length_map]; omega) ?_⟩
        refine q _ (ks ++ [Str.ofString ""]) _ (x4.new hnk) hnk (by rw [List.map_append]; exact upd_self) ?_
        rw [List.map_append, ek]
        exact es.symm
end
end Da
set_option Elab.async false
set_option linter.all false
set_option maxRecDepth 100000
set_option maxHeartbeats 4000000
namespace Da
open PySem PySem.Spec PyProof.Rows L2 Hd Xs Fx Mi Ms Md
open TL (tl)
section
variable {P : Program} {w : World} {K : PySem.W.Frag} {mg : Str → Option Value} {base : Heap}
end
end Da
set_option Elab.async false
set_option linter.all false
set_option maxRecDepth 100000
set_option maxHeartbeats 4000000
namespace Da
open PySem PySem.Spec PyProof.Rows L2 Hd Xs Fx Mi Ms Md
open TL (tl joinL)
def spCleaned : Sp := fun vs H Q _ => match vs with
  | [.str t, .bl b] => t.length ≤ (100000 : Nat) ∧ ∀ z H', Ext H H' → tl z = cln b (tl t) → Q (.str z) H'
  | _ => False
/-- the path with these segments -/
def pof (b : Bool) (ss : List T) : T := if b = false ∧ (47 :: joinL [47] ss).take 2 = [47, 47] then 47 :: 46 :: 47 :: joinL [47] ss else 47 :: joinL [47] ss
def spPathOf : Sp := fun vs H Q _ => match vs with
  | [.ref a, .bl b] => ∃ ks : List Str, H a = some (.lst (ks.map V.str)) ∧ (ks.map (·.length)).sum + ks.length * (Str.ofString "/").length ≤ 16777216 ∧ (Txt.join (Str.ofString "/") ks).length ≤ (100000 : Nat) + 2 ∧ ∀ z, tl z = pof b (ks.map tl) → Q (.str z) H
  | _ => False
theorem Ext.none {H H' : Hp} {p : Addr} (x : Ext H H') (h : H' p = none) : H p = none := by
  cases z : H p with
  | none => rfl
  | some o => rw [x _ _ z] at h; cases h
theorem head47 {l : T} (h : l.take 1 = [47]) : ∃ r, l = 47 :: r := by
  cases l with
  | nil => cases h
  | cons c r => exact ⟨r, by rw [show c = 47 from by simpa using h]⟩
/-- the joined stack: its size -/
theorem join_stk {t : Str} {ks : List Str} (ht : t.length ≤ (100000 : Nat)) (e : ks.map tl = stk (tl t)) : (ks.map (·.length)).sum + ks.length * (Str.ofString "/").length ≤ 16777216 ∧ tl (Str.ofString "/" ++ Txt.join (Str.ofString "/") ks) = 47 :: joinL [47] (stk (tl t)) ∧
    (Txt.join (Str.ofString "/") ks).length ≤ (100000 : Nat) + 2 := by
  have h1 := wt_sum (stk (tl t))
  have h2 := stk_wt (tl t)
  have h3 := wt_join 47 (stk (tl t))
  rw [← TL.len_tl] at h2
  have e3 : tl (Txt.join (Str.ofString "/") ks) = joinL [47] (stk (tl t)) := by
    rw [TL.join_eq, TL.tl_join, e]; rfl
  have e4 : (ks.map (·.length)).sum = ((stk (tl t)).map (·.length)).sum := by
    rw [← e, List.map_map]
    exact congrArg List.sum (List.map_congr_left fun z _ => TL.len_tl z)
  have e5 : ks.length = (stk (tl t)).length := by rw [← e, List.length_map]
  refine ⟨?_, ?_, ?_⟩
  · rw [e4, e5, show (Str.ofString "/").length = 1 from rfl]
    omega
  · rw [TL.tl_append, e3]; rfl
  · rw [TL.len_tl, e3]
    omega
section
variable {P : Program} {w : World} {K : PySem.W.Frag} {mg : Str → Option Value} {base : Heap}
theorem ok_path_of (c : Ct w K mg) : OkF P w K mg base CX0 1 (He.ga K "path_of") ["segments", "has_authority"] (spPathOf) := by
  obtain ⟨fd, F⟩ := F_path_of c
  refine ⟨fd, F.ok sc_path_of (fun vs H Q E h => ?_) (fun cdv A outer s H vs Q E hr h => ⟨_, PSs.nox ((pss_cons (ps_set (i := 2) (sc_path_of).nd rfl (Or.inl rfl) (pe_op co_add pe_str (pe_m1 PySem.F.slot_str_join PySem.F.type_str_join hm_join pe_str (cv 0)))) (pss_one (ps_ret (pe_ifExp (PW.pt (pw_and (ct (pe_m1 PySem.F.slot_str_startswith PySem.F.type_str_startswith cm_startswith (cv 2) pe_str)) (pw_and1 (pt_not (hTr (cv 1)))))) (pe_op co_add pe_str (cv 2)) (cv 2)))))), ?_⟩), F.bindsN fun _ _ _ _ _ _ us hl => match us, hl with | [_, _], _ => rfl⟩
  · unfold spPathOf at h
    split at h
    · rfl
    · exact h.elim
  · unfold spPathOf at h
    split at h
    case h_2 => exact h.elim
    rename_i a b
    obtain ⟨ks, hk, j1, j3, q⟩ := h
    have sl := sl
    refine seqStep ?_
    (try simp only [tNext, tFor_eq, cBl, tOp, tC, cI, cIc, cAdd, cVar, hEq, hNe, hIn, hNotIn, hLen, hSl, tM1, tBM, cT1, cT1f, cFind3, cSplit, cPart, rNewStrs, hIsS, hTru, tAsg, gName, gSub, tRet, tRetN, tCons, tNil, tTup, tLst, tCB, tNot, tAnd, tNotV, tAndV, tOrV, tOr, V.bl.injEq, V.int.injEq, V.str.injEq, exists_eq_left', exists_eq_left, exists_eq', true_and, and_true, cIsN, L2.start, gTup, gCons, gNil, nox_K, cx_K, tCallF, tSl, tPart, tNoPart, iEnum, RZ.iZipA, iRng1, iRng2, cAbs, List.map_cons, List.map_nil, List.length_cons, List.length_nil, List.replicate, List.cons_append, List.nil_append, List.getElem?_cons_zero, List.getElem?_cons_succ, List.getElem?_nil, List.set_cons_zero, List.set_cons_succ, Nat.reduceAdd, Nat.reduceSub, Nat.zero_add, if_true, if_false, reduceIte, reduceCtorEq, Bool.false_eq_true, decide_eq_true_eq, tDrop, cMin2, cJoin, iList, tDNewK, tLc_eq, iStr, wipe])
    have e1 : (Str.ofString "/").length = 1 := rfl
    refine ⟨ks, .inl (.inl (Rd.of hk)), j1, by omega, ?_⟩
    have j2 : tl (Str.ofString "/" ++ Txt.join (Str.ofString "/") ks) = 47 :: joinL [47] (ks.map tl) := by
      rw [TL.tl_append, TL.join_eq, TL.tl_join]; rfl
    have j4 : (Str.ofString "/" ++ Txt.join (Str.ofString "/") ks).length ≤ (100000 : Nat) + 3 := by rw [la, e1]; omega
    unfold tIf
    (try simp only [tNext, tFor_eq, cBl, tOp, tC, cI, cIc, cAdd, cVar, hEq, hNe, hIn, hNotIn, hLen, hSl, tM1, tBM, cT1, cT1f, cFind3, cSplit, cPart, rNewStrs, hIsS, hTru, tAsg, gName, gSub, tRet, tRetN, tCons, tNil, tTup, tLst, tCB, tNot, tAnd, tNotV, tAndV, tOrV, tOr, V.bl.injEq, V.int.injEq, V.str.injEq, exists_eq_left', exists_eq_left, exists_eq', true_and, and_true, cIsN, L2.start, gTup, gCons, gNil, nox_K, cx_K, tCallF, tSl, tPart, tNoPart, iEnum, RZ.iZipA, iRng1, iRng2, cAbs, List.map_cons, List.map_nil, List.length_cons, List.length_nil, List.replicate, List.cons_append, List.nil_append, List.getElem?_cons_zero, List.getElem?_cons_succ, List.getElem?_nil, List.set_cons_zero, List.set_cons_succ, Nat.reduceAdd, Nat.reduceSub, Nat.zero_add, if_true, if_false, reduceIte, reduceCtorEq, Bool.false_eq_true, decide_eq_true_eq, tDrop, cMin2, cJoin, iList, tDNewK, tLc_eq, iStr, wipe])
    rw [starts2]
    unfold pof at q
    rw [← j2] at q
    generalize Str.ofString "/" ++ Txt.join (Str.ofString "/") ks = f at *
    have e2 : (Str.ofString "/.").length = 2 := rfl
    cases b with
    | true =>
      simp only [Bool.not_true, Bool.false_eq_true, if_false, ite_self]
      exact q _ (by rw [if_neg (fun z => nomatch z.1)])
    | false =>
      by_cases h2 : (tl f).take 2 = [47, 47]
      · rw [if_pos (decide_eq_true h2)]
        simp only [Bool.not_false, if_true]
        refine ⟨by omega, q _ ?_⟩
        rw [if_pos ⟨rfl, h2⟩, TL.tl_append, j2]
        rfl
      · rw [if_neg (by rw [decide_eq_false h2]; exact Bool.false_ne_true)]
        exact q _ (by rw [if_neg (fun z => h2 z.2)])
theorem ok_cleaned (c : Ct w K mg) : OkK P w K mg base CX0 2 (He.ga K "cleaned") 1 ["path", "has_authority"] ["has_authority"] [.bl true] spCleaned := by
  obtain ⟨fd, F⟩ := F_cleaned c
  refine ⟨fd, F.ok sc_cleaned (fun vs H Q E h => ?_) (fun cdv A outer s H vs Q E hr h => ⟨_, PSs.nox ((pss_one (ps_ret (pe_ifExp (ct (pe_m1 PySem.F.slot_str_startswith PySem.F.type_str_startswith cm_startswith (cv 0) pe_str)) (pf (ok_path_of c) (hr.mono (by decide)) (g_path_of c) (k_path_of c) pass0 (pa_cons (pf (ok_stack c) (hr.mono (by decide)) (g_stack c) (k_stack c) pass0 (pa_cons (cv 0) pa_nil)) (pa_cons (cv 1) pa_nil))) (cv 0))))), ?_⟩), ?_, ?_⟩
  · unfold spCleaned at h
    split at h
    · rfl
    · exact h.elim
  · unfold spCleaned at h
    split at h
    case h_2 => exact h.elim
    rename_i t b
    obtain ⟨ht, q⟩ := h
    have sl := sl
    (try simp only [tNext, tFor_eq, cBl, tOp, tC, cI, cIc, cAdd, cVar, hEq, hNe, hIn, hNotIn, hLen, hSl, tM1, tBM, cT1, cT1f, cFind3, cSplit, cPart, rNewStrs, hIsS, hTru, tAsg, gName, gSub, tRet, tRetN, tCons, tNil, tTup, tLst, tCB, tNot, tAnd, tNotV, tAndV, tOrV, tOr, V.bl.injEq, V.int.injEq, V.str.injEq, exists_eq_left', exists_eq_left, exists_eq', true_and, and_true, cIsN, L2.start, gTup, gCons, gNil, nox_K, cx_K, tCallF, tSl, tPart, tNoPart, iEnum, RZ.iZipA, iRng1, iRng2, cAbs, List.map_cons, List.map_nil, List.length_cons, List.length_nil, List.replicate, List.cons_append, List.nil_append, List.getElem?_cons_zero, List.getElem?_cons_succ, List.getElem?_nil, List.set_cons_zero, List.set_cons_succ, Nat.reduceAdd, Nat.reduceSub, Nat.zero_add, if_true, if_false, reduceIte, reduceCtorEq, Bool.false_eq_true, decide_eq_true_eq, tDrop, cMin2, cJoin, iList, tDNewK, tLc_eq, iStr, wipe])
    unfold tIf
    (try simp only [tNext, tFor_eq, cBl, tOp, tC, cI, cIc, cAdd, cVar, hEq, hNe, hIn, hNotIn, hLen, hSl, tM1, tBM, cT1, cT1f, cFind3, cSplit, cPart, rNewStrs, hIsS, hTru, tAsg, gName, gSub, tRet, tRetN, tCons, tNil, tTup, tLst, tCB, tNot, tAnd, tNotV, tAndV, tOrV, tOr, V.bl.injEq, V.int.injEq, V.str.injEq, exists_eq_left', exists_eq_left, exists_eq', true_and, and_true, cIsN, L2.start, gTup, gCons, gNil, nox_K, cx_K, tCallF, tSl, tPart, tNoPart, iEnum, RZ.iZipA, iRng1, iRng2, cAbs, List.map_cons, List.map_nil, List.length_cons, List.length_nil, List.replicate, List.cons_append, List.nil_append, List.getElem?_cons_zero, List.getElem?_cons_succ, List.getElem?_nil, List.set_cons_zero, List.set_cons_succ, Nat.reduceAdd, Nat.reduceSub, Nat.zero_add, if_true, if_false, reduceIte, reduceCtorEq, Bool.false_eq_true, decide_eq_true_eq, tDrop, cMin2, cJoin, iList, tDNewK, tLc_eq, iStr, wipe])
    rw [starts1]
    by_cases hs : (tl t).take 1 = [47]
    · rw [decide_eq_true hs]
      simp only [if_true]
      (try simp only [tSeq, tNext, tIfS, tFor_eq, cBl, tOp, tC, cI, cIc, cAdd, cVar, hEq, hNe, hIn, hNotIn, hLen, hSl, tM1, tBM, cT1, cT1f, cFind3, cSplit, cPart, rNewStrs, hIsS, hTru, tAsg, gName, gSub, tRet, tRetN, tCons, tNil, tTup, tLst, tCB, tNot, tAnd, tNotV, tAndV, tOrV, tOr, V.bl.injEq, V.int.injEq, V.str.injEq, exists_eq_left', exists_eq_left, exists_eq', true_and, and_true, cIsN, L2.start, gTup, gCons, gNil, nox_K, cx_K, tCallF, tSl, tPart, tNoPart, iEnum, RZ.iZipA, iRng1, iRng2, cAbs, List.map_cons, List.map_nil, List.length_cons, List.length_nil, List.replicate, List.cons_append, List.nil_append, List.getElem?_cons_zero, List.getElem?_cons_succ, List.getElem?_nil, List.set_cons_zero, List.set_cons_succ, Nat.reduceAdd, Nat.reduceSub, Nat.zero_add, if_true, if_false, reduceIte, reduceCtorEq, Bool.false_eq_true, decide_eq_true_eq, tDrop, cMin2, cJoin, iList, tDNewK, tLc_eq, iStr, wipe])
      refine ⟨ht, hs, fun p ks H1 x1 hp hk ek => ?_⟩
      obtain ⟨j1, j2, j3⟩ := join_stk ht ek
      obtain ⟨r, er⟩ := head47 hs
      have ec := cln_slash b r
      rw [← er, ← j2] at ec
      refine ⟨ks, hk, j1, j3, fun z ez => q _ _ x1 ?_⟩
      rw [ez, ec, ek]
      unfold pof
      rw [← j2]
    · rw [decide_eq_false hs]
      simp only [Bool.false_eq_true, if_false]
      exact q _ _ Ext.rf (cln_other hs).symm
  · exact FunD.binds0 (kws := [("has_authority", V.bl true)]) F 1 (List.cons_ne_nil _ _) rfl fun D doc pm an cdv ct us ks h1 h2 => match us, ks, h1, h2 with
      | [u], [k], _, _ => ⟨_, _, _, _, _, _, rfl, rfl, rfl⟩
  · obtain ⟨mv, b⟩ := FunD.kbinds0 (kws := [("has_authority", V.bl true)]) (ps := ["path", "has_authority"]) F 1 ["has_authority"] [] (fun vs _ zs => vs ++ zs) (List.cons_ne_nil _ _) (fun _ h => nomatch h) (fun r1 _ r3 => r1.append r3)
      fun D doc pm an cdv ct us mv ws h1 h2 h3 => match us, mv, ws, h1, h2, h3 with
        | [u], [], [k], _, _, _ => rfl
    exact ⟨_, b⟩
end
end Da
set_option Elab.async false
set_option linter.all false
set_option maxRecDepth 100000
set_option maxHeartbeats 4000000
namespace Da
open PySem PySem.Spec PyProof.Rows L2 Hd Xs Fx
/-- None, or a text of some length -/
def PV (v : V) : Prop := v = .non ∨ ∃ t : Str, v = .str t ∧ t.length ≤ 3000 ∧ Sg t
theorem cutS_len (z : Str) (lo hi : Option Int) : (cutS z lo hi).length ≤ z.length := by
  show ((z.cps.toList.drop _).take _).toArray.size ≤ z.cps.size
  simp only [List.size_toArray, List.length_take, List.length_drop, Array.length_toList]
  omega
theorem cutS_lt {z : Str} (h : 2 ≤ z.length) : (cutS z (some 1) none).length < z.length := by
  show ((z.cps.toList.drop _).take _).toArray.size < z.cps.size
  have h2 : 2 ≤ z.cps.size := h
  have e : HT.sIx z.length 0 (some 1) = 1 := by
    rw [show (some (1 : Int)) = some ((1 : Nat) : Int) from rfl, HT.sIx_nat]
    have : z.length = z.cps.size := rfl
    omega
  simp only [List.size_toArray, List.length_take, List.length_drop, Array.length_toList, e]
  omega
end Da
set_option Elab.async false
set_option linter.all false
set_option maxRecDepth 100000
set_option maxHeartbeats 4000000
namespace Da
open PySem PySem.Spec PyProof.Rows L2 Hd Xs Fx Mi
open TL (tl)
def spFirst : Sp := fun vs H Q _ => match vs with
  | [.str t, .str s] => t.length ≤ (100000 : Nat) ∧ Q (.int (fo (tl t) (tl s) : Nat)) H
  | _ => False
def spOctet : Sp := fun vs H Q _ => match vs with
  | [.str t] => t.length ≤ (100000 : Nat) ∧ Q (.bl (hex2 (tl t))) H
  | _ => False
/-- a kind and a place, or None -/
def RW (H : Hp) (v : V) (o : KP) : Prop := match o with
  | none => v = .non
  | some (k, i) => ∃ q, v = .ref q ∧ H q = some (.tup [.str k, .int (i : Nat)])
def spWrong (f : T → KP) : Sp := fun vs H Q _ => match vs with
  | [.str t] => t.length ≤ (100000 : Nat) ∧ ∀ v H', Ext H H' → RW H' v (f (tl t)) → Q v H'
  | _ => False
theorem isIn_one (c : Nat) (b : Str) : isIn ⟨#[c]⟩ b = (tl b).contains c := by
  show decide (c ∈ tl b) = _
  simp
theorem tl_nil {t : Str} (h : tl t = []) : t = Str.ofString "" := TL.ext_tl h
theorem one_at {z : Str} {c : Nat} {r : List Nat} {K : PySem.W.Frag} {H : Hp} {Q : VK} (e : tl z = c :: r) (hz : z.length ≤ sizeLine) (q : Q (.str ⟨#[c]⟩) H) : hIx K (.str z) (.int 0) H Q := hIx_str hz (by rw [show z.cps.toList = c :: r from e]; exact atI_zero _ _) q
theorem two_at {z : Str} {c d : Nat} {r : List Nat} {K : PySem.W.Frag} {H : Hp} {Q : VK} (e : tl z = c :: d :: r) (hz : z.length ≤ sizeLine) (q : Q (.str ⟨#[d]⟩) H) : hIx K (.str z) (.int 1) H Q := hIx_str hz (by
  rw [show z.cps.toList = c :: d :: r from e]
  unfold atI ixN
  rw [if_pos (by decide), if_pos (by simp only [List.length_cons]; omega)]
  rfl) q
section
variable {P : Program} {w : World} {K : PySem.W.Frag} {mg : Str → Option Value} {base : Heap}
theorem ok__first_other (c : Ct w K mg) : OkF P w K mg base CX0 1 (He.ga K "_first_other") ["text", "signs"] (spFirst) := by
  obtain ⟨fd, F⟩ := F__first_other c
  refine ⟨fd, F.ok sc__first_other (fun vs H Q E h => ?_) (fun cdv A outer s H vs Q E hr h => ⟨_, PSs.nox ((pss_one (ps_ret (pe_op co_sub (pe_callB hc_len (by rfl) (b_len c) (by decide +kernel) (pa_cons (cv 0) pa_nil)) (pe_callB hc_len (by rfl) (b_len c) (by decide +kernel) (pa_cons (pe_m1 PySem.F.slot_str_lstrip PySem.F.type_str_lstrip cm_lstripChars (cv 0) (cv 1)) pa_nil)))))), ?_⟩), F.bindsN fun _ _ _ _ _ _ us hl => match us, hl with | [_, _], _ => rfl⟩
  · unfold spFirst at h
    split at h
    · rfl
    · exact h.elim
  · unfold spFirst at h
    split at h
    case h_2 => exact h.elim
    rename_i t s
    obtain ⟨ht, q⟩ := h
    have sl := sl
    (try simp only [tSeq, tNext, tIfS, tFor_eq, cBl, tOp, tC, cI, cIc, cAdd, cVar, hEq, hNe, hIn, hNotIn, hLen, hSl, tM1, tBM, cT1, cT1f, cFind3, cSplit, cPart, rNewStrs, hIsS, hTru, tAsg, gName, gSub, tRet, tRetN, tCons, tNil, tTup, tLst, tCB, tNot, tAnd, tNotV, tAndV, tOrV, tOr, V.bl.injEq, V.int.injEq, V.str.injEq, exists_eq_left', exists_eq_left, exists_eq', true_and, and_true, cIsN, L2.start, gTup, gCons, gNil, nox_K, cx_K, tCallF, tSl, tPart, tNoPart, iEnum, RZ.iZipA, iRng1, iRng2, cAbs, List.map_cons, List.map_nil, List.length_cons, List.length_nil, List.replicate, List.cons_append, List.nil_append, List.getElem?_cons_zero, List.getElem?_cons_succ, List.getElem?_nil, List.set_cons_zero, List.set_cons_succ, Nat.reduceAdd, Nat.reduceSub, Nat.zero_add, if_true, if_false, reduceIte, reduceCtorEq, Bool.false_eq_true, decide_eq_true_eq, tDrop, cMin2, cJoin, iList, tDNewK, tLc_eq, iStr, wipe])
    have e := lstrip_len t s
    have e2 : (Txt.lstripChars t s).length ≤ t.length := by omega
    refine ⟨by omega, by omega, by omega, ?_⟩
    rw [e]
    exact q
theorem ok_begins_with_octet (c : Ct w K mg) : OkF P w K mg base CX0 1 (He.ga K "begins_with_octet") ["text"] (spOctet) := by
  obtain ⟨fd, F⟩ := F_begins_with_octet c
  refine ⟨fd, F.ok sc_begins_with_octet (fun vs H Q E h => ?_) (fun cdv A outer s H vs Q E hr h => ⟨_, PSs.nox ((pss_one (ps_ret (pe_and (pe_cmpR co_gt (pe_callB hc_len (by rfl) (b_len c) (by decide +kernel) (pa_cons (cv 0) pa_nil)) pe_int (by rfl)) (pe_and (pe_cmpR ho_in (hix (cv 0) pe_int) (pe_glob rfl (c_HEXADECIMAL c).choose_spec.1 (c_HEXADECIMAL c).choose_spec.2) (by rfl)) (pe_one (pe_cmpR ho_in (hix (cv 0) pe_int) (pe_glob rfl (c_HEXADECIMAL c).choose_spec.1 (c_HEXADECIMAL c).choose_spec.2) (by rfl)))))))), ?_⟩), F.bindsN fun _ _ _ _ _ _ us hl => match us, hl with | [_], _ => rfl⟩
  · unfold spOctet at h
    split at h
    · rfl
    · exact h.elim
  · unfold spOctet at h
    split at h
    case h_2 => exact h.elim
    rename_i t
    obtain ⟨ht, q⟩ := h
    have sl := sl
    (try simp only [tSeq, tNext, tIfS, tFor_eq, cBl, tOp, tC, cI, cIc, cAdd, cVar, hEq, hNe, hIn, hNotIn, hLen, hSl, tM1, tBM, cT1, cT1f, cFind3, cSplit, cPart, rNewStrs, hIsS, hTru, tAsg, gName, gSub, tRet, tRetN, tCons, tNil, tTup, tLst, tCB, tNot, tAnd, tNotV, tAndV, tOrV, tOr, V.bl.injEq, V.int.injEq, V.str.injEq, exists_eq_left', exists_eq_left, exists_eq', true_and, and_true, cIsN, L2.start, gTup, gCons, gNil, nox_K, cx_K, tCallF, tSl, tPart, tNoPart, iEnum, RZ.iZipA, iRng1, iRng2, cAbs, List.map_cons, List.map_nil, List.length_cons, List.length_nil, List.replicate, List.cons_append, List.nil_append, List.getElem?_cons_zero, List.getElem?_cons_succ, List.getElem?_nil, List.set_cons_zero, List.set_cons_succ, Nat.reduceAdd, Nat.reduceSub, Nat.zero_add, if_true, if_false, reduceIte, reduceCtorEq, Bool.false_eq_true, decide_eq_true_eq, tDrop, cMin2, cJoin, iList, tDNewK, tLc_eq, iStr, wipe])
    refine ⟨by omega, ?_⟩
    have hl := TL.len_tl t
    rcases e : tl t with _ | ⟨c, _ | ⟨d, r⟩⟩
    · rw [e] at hl q
      rw [if_neg (by rw [hl]; decide)]
      exact q
    · rw [e] at hl q
      rw [if_neg (by rw [hl]; simp only [List.length_cons, List.length_nil]; omega)]
      exact q
    · rw [e] at hl q
      rw [if_pos (by rw [hl]; simp only [List.length_cons]; omega)]
      refine one_at e (by omega) ?_
      dsimp only
      rw [isIn_one]
      have q' : Q (.bl (HEXT.contains c && HEXT.contains d)) H := q
      cases hc : HEXT.contains c with
      | false =>
        rw [if_neg (by rw [show (tl (Str.ofString "0123456789ABCDEFabcdef")).contains c = HEXT.contains c from rfl, hc]; exact Bool.false_ne_true)]
        rw [hc] at q'
        exact q'
      | true =>
        rw [if_pos (show (tl (Str.ofString "0123456789ABCDEFabcdef")).contains c = true from hc)]
        refine two_at e (by omega) ?_
        dsimp only
        rw [isIn_one]
        rw [hc, Bool.true_and] at q'
        exact q'
theorem ok__wrong_in_scheme (c : Ct w K mg) : OkF P w K mg base CX0 2 (He.ga K "_wrong_in_scheme") ["text"] (spWrong wSch) := by
  obtain ⟨fd, F⟩ := F__wrong_in_scheme c
  refine ⟨fd, F.ok sc__wrong_in_scheme (fun vs H Q E h => ?_) (fun cdv A outer s H vs Q E hr h => ⟨_, PSs.nox ((pss_cons (ps_if (PW.pt (pw_or (ctc (ho_eq (hu64 hr)) (cv 0) pe_str (by rfl)) (pw_or1 (ctc ho_notIn (hix (cv 0) pe_int) (pe_glob rfl (c_LETTERS c).choose_spec.1 (c_LETTERS c).choose_spec.2) (by rfl))))) (pss_one (ps_ret (pe_tup (pa_cons pe_str (pa_cons pe_int pa_nil))))) pss_nil) (pss_cons (ps_set (i := 1) (sc__wrong_in_scheme).nd rfl (Or.inl rfl) (pf (ok__first_other c) (hr.mono (by decide)) (g__first_other c) (k__first_other c) pass0 (pa_cons (cv 0) (pa_cons (pe_op co_add (pe_op co_add (pe_glob rfl (c_LETTERS c).choose_spec.1 (c_LETTERS c).choose_spec.2) (pe_glob rfl (c_DIGITS c).choose_spec.1 (c_DIGITS c).choose_spec.2)) pe_str) pa_nil)))) (pss_one (ps_ret (pe_ifExp (ctc co_lt (cv 1) (pe_callB hc_len (by rfl) (b_len c) (by decide +kernel) (pa_cons (cv 0) pa_nil)) (by rfl)) (pe_tup (pa_cons pe_str (pa_cons (cv 1) pa_nil))) pe_non)))))), ?_⟩), F.bindsN fun _ _ _ _ _ _ us hl => match us, hl with | [_], _ => rfl⟩
  · unfold spWrong at h
    split at h
    · rfl
    · exact h.elim
  · unfold spWrong at h
    split at h
    case h_2 => exact h.elim
    rename_i t
    obtain ⟨ht, q⟩ := h
    have sl := sl
    (try simp only [tSeq, tNext, tIfS, tFor_eq, cBl, tOp, tC, cI, cIc, cAdd, cVar, hEq, hNe, hIn, hNotIn, hLen, hSl, tM1, tBM, cT1, cT1f, cFind3, cSplit, cPart, rNewStrs, hIsS, hTru, tAsg, gName, gSub, tRet, tRetN, tCons, tNil, tTup, tLst, tCB, tNot, tAnd, tNotV, tAndV, tOrV, tOr, V.bl.injEq, V.int.injEq, V.str.injEq, exists_eq_left', exists_eq_left, exists_eq', true_and, and_true, cIsN, L2.start, gTup, gCons, gNil, nox_K, cx_K, tCallF, tSl, tPart, tNoPart, iEnum, RZ.iZipA, iRng1, iRng2, cAbs, List.map_cons, List.map_nil, List.length_cons, List.length_nil, List.replicate, List.cons_append, List.nil_append, List.getElem?_cons_zero, List.getElem?_cons_succ, List.getElem?_nil, List.set_cons_zero, List.set_cons_succ, Nat.reduceAdd, Nat.reduceSub, Nat.zero_add, if_true, if_false, reduceIte, reduceCtorEq, Bool.false_eq_true, decide_eq_true_eq, tDrop, cMin2, cJoin, iList, tDNewK, tLc_eq, iStr, wipe])
    have hl := TL.len_tl t
    unfold wSch at q
    rcases e : tl t with _ | ⟨c, r⟩
    · rw [if_pos (tl_nil e)]
      refine ⟨by omega, fun p hp => q _ _ (Ext.rf.fresh hp) ?_⟩
      rw [e, if_pos (show badHead [] = true from rfl)]
      exact ⟨p, rfl, upd_self⟩
    · rw [e] at q
      rw [if_neg (fun z => by rw [z] at e; exact nomatch e)]
      refine one_at e (by omega) ?_
      dsimp only
      rw [isIn_one]
      cases hc : LETT.contains c with
      | false =>
        rw [if_pos (by rw [show (tl (Str.ofString "ABCDEFGHIJKLMNOPQRSTUVWXYZabcdefghijklmnopqrstuvwxyz")).contains c = LETT.contains c from rfl, hc]; rfl)]
        refine ⟨by omega, fun p hp => q _ _ (Ext.rf.fresh hp) ?_⟩
        rw [if_pos (by show (!LETT.contains c) = true; rw [hc]; rfl)]
        exact ⟨p, rfl, upd_self⟩
      | true =>
        rw [if_neg (by rw [show (tl (Str.ofString "ABCDEFGHIJKLMNOPQRSTUVWXYZabcdefghijklmnopqrstuvwxyz")).contains c = LETT.contains c from rfl, hc]; exact Bool.false_ne_true)]
        rw [if_neg (by show ¬ (!LETT.contains c) = true; rw [hc]; exact Bool.false_ne_true)] at q
        have eS : tl (Str.ofString "ABCDEFGHIJKLMNOPQRSTUVWXYZabcdefghijklmnopqrstuvwxyz" ++ Str.ofString "0123456789" ++ Str.ofString "+-.") = SCHT := by rw [TL.tl_append, TL.tl_append]; rfl
        refine ⟨Nat.le_trans (by decide) sl, Nat.le_trans (by rw [la]; decide) sl, ht, ?_⟩
        rw [eS, e]
        unfold tIf
        (try simp only [tSeq, tNext, tIfS, tFor_eq, cBl, tOp, tC, cI, cIc, cAdd, cVar, hEq, hNe, hIn, hNotIn, hLen, hSl, tM1, tBM, cT1, cT1f, cFind3, cSplit, cPart, rNewStrs, hIsS, hTru, tAsg, gName, gSub, tRet, tRetN, tCons, tNil, tTup, tLst, tCB, tNot, tAnd, tNotV, tAndV, tOrV, tOr, V.bl.injEq, V.int.injEq, V.str.injEq, exists_eq_left', exists_eq_left, exists_eq', true_and, and_true, cIsN, L2.start, gTup, gCons, gNil, nox_K, cx_K, tCallF, tSl, tPart, tNoPart, iEnum, RZ.iZipA, iRng1, iRng2, cAbs, List.map_cons, List.map_nil, List.length_cons, List.length_nil, List.replicate, List.cons_append, List.nil_append, List.getElem?_cons_zero, List.getElem?_cons_succ, List.getElem?_nil, List.set_cons_zero, List.set_cons_succ, Nat.reduceAdd, Nat.reduceSub, Nat.zero_add, if_true, if_false, reduceIte, reduceCtorEq, Bool.false_eq_true, decide_eq_true_eq, tDrop, cMin2, cJoin, iList, tDNewK, tLc_eq, iStr, wipe])
        refine ⟨by omega, ?_⟩
        rw [hl, e]
        by_cases hf : fo (c :: r) SCHT < (c :: r).length
        · rw [if_pos hf] at q
          rw [if_pos (by omega)]
          exact ⟨by omega, fun p hp => q _ _ (Ext.rf.fresh hp) ⟨p, rfl, upd_self⟩⟩
        · rw [if_neg hf] at q
          rw [if_neg (by omega)]
          exact q _ _ Ext.rf rfl
end
end Da
set_option Elab.async false
set_option linter.all false
set_option maxRecDepth 100000
set_option maxHeartbeats 4000000
namespace Da
open PySem PySem.Spec PyProof.Rows L2 Hd Xs Fx Mi
open TL (tl)
def spAmong : Sp := fun vs H Q _ => match vs with
  | [.str t, .str s] => t.length ≤ (100000 : Nat) ∧ ∀ v H', Ext H H' → RW H' v (wAm (tl s) 0 0 (cut 94 (tl t))) → Q v H'
  | _ => False
theorem cut_len (c : Nat) : ∀ (l p : T), p ∈ cut c l → p.length ≤ l.length
  | [], p, h => by
    rw [List.mem_singleton.mp (show p ∈ [[]] from h)]
    exact Nat.le_refl _
  | d :: r, p, h => by
    by_cases hd : d = c
    · subst hd
      rw [cut_hit] at h
      rcases List.mem_cons.mp h with e | h
      · rw [e]; exact Nat.zero_le _
      · have := cut_len d r p h
        simp only [List.length_cons]; omega
    · rw [cut_miss hd] at h
      cases e : cut c r with
      | nil => exact absurd e (cut_ne c r)
      | cons q qs =>
        rw [e] at h
        rcases List.mem_cons.mp h with e2 | h
        · have := cut_len c r q (by rw [e]; exact List.mem_cons_self ..)
          rw [e2]; simp only [List.length_cons]; omega
        · have := cut_len c r p (by rw [e]; exact List.mem_cons_of_mem _ h)
          simp only [List.length_cons]; omega
theorem wAm_cons (S : T) (k st : Nat) (p : T) (ps : List T) : wAm S k st (p :: ps) = if 0 < k ∧ hex2 p = false then some (kE, st - 1) else if fo p S < p.length then some (kS, st + fo p S) else wAm S (k + 1) (st + p.length + 1) ps := rfl
theorem hat_one : Str.ofString "^" = ⟨#[94]⟩ := TL.ext_tl (by decide +kernel)
section
variable {P : Program} {w : World} {K : PySem.W.Frag} {mg : Str → Option Value} {base : Heap}
theorem ok__wrong_among (c : Ct w K mg) : OkF P w K mg base CX0 2 (He.ga K "_wrong_among") ["text", "signs"] (spAmong) := by
  obtain ⟨fd, F⟩ := F__wrong_among c
  refine ⟨fd, F.ok sc__wrong_among (fun vs H Q E h => ?_) (fun cdv A outer s H vs Q E hr h => ⟨_, PSs.nox ((pss_cons (ps_set (i := 2) (sc__wrong_among).nd rfl (Or.inl rfl) pe_int) (pss_cons (ps_for PassesOwn.never rfl (pi_enum rfl (b_enumerate c) (pa_cons (pe_m1 PySem.F.slot_str_split PySem.F.type_str_split cm_split (cv 0) pe_str) pa_nil)) (pg_tup (n := 2) rfl (pgs_cons (pg_name (i := 3) (sc__wrong_among).nd rfl (Or.inl rfl)) (pgs_cons (pg_name (i := 4) (sc__wrong_among).nd rfl (Or.inl rfl)) pgs_nil))) (pss_cons (ps_if (PW.pt (pw_and (ctc co_gt (cv 3) pe_int (by rfl)) (pw_and1 (pt_not (ct (pf (ok_begins_with_octet c) (hr.mono (by decide)) (g_begins_with_octet c) (k_begins_with_octet c) pass0 (pa_cons (cv 4) pa_nil))))))) (pss_one (ps_ret (pe_tup (pa_cons pe_str (pa_cons (pe_op co_sub (cv 2) pe_int) pa_nil))))) pss_nil) (pss_cons (ps_set (i := 5) (sc__wrong_among).nd rfl (Or.inl rfl) (pf (ok__first_other c) (hr.mono (by decide)) (g__first_other c) (k__first_other c) pass0 (pa_cons (cv 4) (pa_cons (cv 1) pa_nil)))) (pss_cons (ps_if (ctc co_lt (cv 5) (pe_callB hc_len (by rfl) (b_len c) (by decide +kernel) (pa_cons (cv 4) pa_nil)) (by rfl)) (pss_one (ps_ret (pe_tup (pa_cons pe_str (pa_cons (pe_op co_add (cv 2) (cv 5)) pa_nil))))) pss_nil) (pss_one (ps_set (i := 2) (sc__wrong_among).nd rfl (Or.inl rfl) (pe_op co_add (pe_op co_add (cv 2) (pe_callB hc_len (by rfl) (b_len c) (by decide +kernel) (pa_cons (cv 4) pa_nil))) pe_int))))))) (pss_one (ps_ret pe_non))))), ?_⟩), F.bindsN fun _ _ _ _ _ _ us hl => match us, hl with | [_, _], _ => rfl⟩
  · unfold spAmong at h
    split at h
    · rfl
    · exact h.elim
  · unfold spAmong at h
    split at h
    case h_2 => exact h.elim
    rename_i t s0
    obtain ⟨ht, q⟩ := h
    have sl := sl
    (try simp only [tSeq, tNext, tIfS, tFor_eq, cBl, tOp, tC, cI, cIc, cAdd, cVar, hEq, hNe, hIn, hNotIn, hLen, hSl, tM1, tBM, cT1, cT1f, cFind3, cSplit, cPart, rNewStrs, hIsS, hTru, tAsg, gName, gSub, tRet, tRetN, tCons, tNil, tTup, tLst, tCB, tNot, tAnd, tNotV, tAndV, tOrV, tOr, V.bl.injEq, V.int.injEq, V.str.injEq, exists_eq_left', exists_eq_left, exists_eq', true_and, and_true, cIsN, L2.start, gTup, gCons, gNil, nox_K, cx_K, tCallF, tSl, tPart, tNoPart, iEnum, RZ.iZipA, iRng1, iRng2, cAbs, List.map_cons, List.map_nil, List.length_cons, List.length_nil, List.replicate, List.cons_append, List.nil_append, List.getElem?_cons_zero, List.getElem?_cons_succ, List.getElem?_nil, List.set_cons_zero, List.set_cons_succ, Nat.reduceAdd, Nat.reduceSub, Nat.zero_add, if_true, if_false, reduceIte, reduceCtorEq, Bool.false_eq_true, decide_eq_true_eq, tDrop, cMin2, cJoin, iList, tDNewK, tLc_eq, iStr, wipe])
    refine ⟨rfl, by omega, fun p hp => ⟨p, _, rfl, .inl (Rd.of upd_self), ?_⟩⟩
    have hsp := split_cut t 94 (by decide)
    rw [← hat_one] at hsp
    generalize hys : Txt.split t (Str.ofString "^") = ys at *
    rw [← hsp] at q
    have hlen : ∀ y ∈ ys, y.length ≤ (100000 : Nat) := fun y hy => by
      have := cut_len 94 (tl t) (tl y) (by rw [← hsp]; exact List.mem_map.mpr ⟨y, hy, rfl⟩)
      rw [TL.len_tl] at ht ⊢
      omega
    refine lp_enum (xs := ys.map V.str) (fun k σ H' => ∃ (st : Nat) (u3 u4 u5 : Option V), σ = [some (.str t), some (.str s0), some (.int (st : Nat)), u3, u4, u5] ∧ (0 < k → 1 ≤ st) ∧ Ext (upd H p (.lst (ys.map V.str))) H' ∧ wAm (tl s0) 0 0 (ys.map tl) = wAm (tl s0) k st ((ys.drop k).map tl)) ⟨0, _, _, _, rfl, fun h => absurd h (Nat.lt_irrefl 0), Ext.rf, rfl⟩ ?_ ?_ ?_
    · rintro k σ H' _ ⟨st, u3, u4, u5, _, _, he, _⟩
      exact .inl (Rd.of (he _ _ upd_self))
    · rintro k x σ H' T hx ⟨st, u3, u4, u5, rfl, h1, he, hw⟩ hT
      obtain ⟨y, hy, rfl⟩ : ∃ y, ys[k]? = some y ∧ V.str y = x := by
        rw [List.getElem?_map] at hx
        cases e : ys[k]? with
        | none => rw [e] at hx; cases hx
        | some y => rw [e] at hx; exact ⟨y, rfl, Option.some.inj hx⟩
      have hym := List.mem_of_getElem? hy
      have hd : ys.drop k = y :: ys.drop (k + 1) := by
        obtain ⟨hk, e⟩ := List.getElem?_eq_some_iff.mp hy
        rw [List.drop_eq_getElem_cons hk, e]
      rw [hd, List.map_cons, wAm_cons] at hw
      have hx0 := (Ext.rf.fresh hp).tr he |>.fresh (o := .tup [.int (k : Nat), .str y]) hT
      (try simp only [tNext, tFor_eq, cBl, tOp, tC, cI, cIc, cAdd, cVar, hEq, hNe, hIn, hNotIn, hLen, hSl, tM1, tBM, cT1, cT1f, cFind3, cSplit, cPart, rNewStrs, hIsS, hTru, tAsg, gName, gSub, tRet, tRetN, tCons, tNil, tTup, tLst, tCB, tNot, tAnd, tNotV, tAndV, tOrV, tOr, V.bl.injEq, V.int.injEq, V.str.injEq, exists_eq_left', exists_eq_left, exists_eq', true_and, and_true, cIsN, L2.start, gTup, gCons, gNil, nox_K, cx_K, tCallF, tSl, tPart, tNoPart, iEnum, RZ.iZipA, iRng1, iRng2, cAbs, List.map_cons, List.map_nil, List.length_cons, List.length_nil, List.replicate, List.cons_append, List.nil_append, List.getElem?_cons_zero, List.getElem?_cons_succ, List.getElem?_nil, List.set_cons_zero, List.set_cons_succ, Nat.reduceAdd, Nat.reduceSub, Nat.zero_add, if_true, if_false, reduceIte, reduceCtorEq, Bool.false_eq_true, decide_eq_true_eq, tDrop, cMin2, cJoin, iList, tDNewK, tLc_eq, iStr, wipe])
      refine ⟨_, _, rfl, .inl (Rd.of upd_self), rfl, _, _, rfl, _, _, rfl, rfl, ?_⟩
      (try simp only [tNext, tFor_eq, cBl, tOp, tC, cI, cIc, cAdd, cVar, hEq, hNe, hIn, hNotIn, hLen, hSl, tM1, tBM, cT1, cT1f, cFind3, cSplit, cPart, rNewStrs, hIsS, hTru, tAsg, gName, gSub, tRet, tRetN, tCons, tNil, tTup, tLst, tCB, tNot, tAnd, tNotV, tAndV, tOrV, tOr, V.bl.injEq, V.int.injEq, V.str.injEq, exists_eq_left', exists_eq_left, exists_eq', true_and, and_true, cIsN, L2.start, gTup, gCons, gNil, nox_K, cx_K, tCallF, tSl, tPart, tNoPart, iEnum, RZ.iZipA, iRng1, iRng2, cAbs, List.map_cons, List.map_nil, List.length_cons, List.length_nil, List.replicate, List.cons_append, List.nil_append, List.getElem?_cons_zero, List.getElem?_cons_succ, List.getElem?_nil, List.set_cons_zero, List.set_cons_succ, Nat.reduceAdd, Nat.reduceSub, Nat.zero_add, if_true, if_false, reduceIte, reduceCtorEq, Bool.false_eq_true, decide_eq_true_eq, tDrop, cMin2, cJoin, iList, tDNewK, tLc_eq, iStr, wipe])
      have hyl := hlen y hym
      have hyt := TL.len_tl y
      refine seqCps (fun σ H2 => σ = [some (.str t), some (.str s0), some (.int (st : Nat)), some (.int (k : Nat)), some (.str y), u5] ∧ H2 = upd H' T (.tup [.int (k : Nat), .str y]) ∧ ¬ (0 < k ∧ hex2 (tl y) = false)) (fun Nx hN => ?_) ?_
      · (try simp only [tSeq, tNext, tIfS, tFor_eq, cBl, tOp, tC, cI, cIc, cAdd, cVar, hEq, hNe, hIn, hNotIn, hLen, hSl, tM1, tBM, cT1, cT1f, cFind3, cSplit, cPart, rNewStrs, hIsS, hTru, tAsg, gName, gSub, tRet, tRetN, tCons, tNil, tTup, tLst, tCB, tNot, tAnd, tNotV, tAndV, tOrV, tOr, V.bl.injEq, V.int.injEq, V.str.injEq, exists_eq_left', exists_eq_left, exists_eq', true_and, and_true, cIsN, L2.start, gTup, gCons, gNil, nox_K, cx_K, tCallF, tSl, tPart, tNoPart, iEnum, RZ.iZipA, iRng1, iRng2, cAbs, List.map_cons, List.map_nil, List.length_cons, List.length_nil, List.replicate, List.cons_append, List.nil_append, List.getElem?_cons_zero, List.getElem?_cons_succ, List.getElem?_nil, List.set_cons_zero, List.set_cons_succ, Nat.reduceAdd, Nat.reduceSub, Nat.zero_add, if_true, if_false, reduceIte, reduceCtorEq, Bool.false_eq_true, decide_eq_true_eq, tDrop, cMin2, cJoin, iList, tDNewK, tLc_eq, iStr, wipe])
        by_cases hk : 0 < k
        · rw [if_pos (by omega)]
          refine ⟨hyl, ?_⟩
          cases hx2 : hex2 (tl y) with
          | true =>
            exact hN _ _ ⟨rfl, rfl, fun z => by rw [hx2] at z; exact Bool.false_ne_true z.2.symm⟩
          | false =>
            refine ⟨by omega, fun r hr => q _ _ (hx0.fresh hr) ?_⟩
            rw [hw, if_pos ⟨hk, hx2⟩]
            have h1 := h1 hk
            have e : ((st : Nat) : Int) - 1 = ((st - 1 : Nat) : Int) := by omega
            rw [e]
            exact ⟨r, rfl, upd_self⟩
        · rw [if_neg (by omega)]
          exact hN _ _ ⟨rfl, rfl, fun z => hk z.1⟩
      · rintro σ H2 ⟨rfl, rfl, hn⟩
        rw [if_neg hn] at hw
        (try simp only [tSeq, tNext, tIfS, tFor_eq, cBl, tOp, tC, cI, cIc, cAdd, cVar, hEq, hNe, hIn, hNotIn, hLen, hSl, tM1, tBM, cT1, cT1f, cFind3, cSplit, cPart, rNewStrs, hIsS, hTru, tAsg, gName, gSub, tRet, tRetN, tCons, tNil, tTup, tLst, tCB, tNot, tAnd, tNotV, tAndV, tOrV, tOr, V.bl.injEq, V.int.injEq, V.str.injEq, exists_eq_left', exists_eq_left, exists_eq', true_and, and_true, cIsN, L2.start, gTup, gCons, gNil, nox_K, cx_K, tCallF, tSl, tPart, tNoPart, iEnum, RZ.iZipA, iRng1, iRng2, cAbs, List.map_cons, List.map_nil, List.length_cons, List.length_nil, List.replicate, List.cons_append, List.nil_append, List.getElem?_cons_zero, List.getElem?_cons_succ, List.getElem?_nil, List.set_cons_zero, List.set_cons_succ, Nat.reduceAdd, Nat.reduceSub, Nat.zero_add, if_true, if_false, reduceIte, reduceCtorEq, Bool.false_eq_true, decide_eq_true_eq, tDrop, cMin2, cJoin, iList, tDNewK, tLc_eq, iStr, wipe])
        refine ⟨hyl, by omega, ?_⟩
        (try simp only [tSeq, tNext, tIfS, tFor_eq, cBl, tOp, tC, cI, cIc, cAdd, cVar, hEq, hNe, hIn, hNotIn, hLen, hSl, tM1, tBM, cT1, cT1f, cFind3, cSplit, cPart, rNewStrs, hIsS, hTru, tAsg, gName, gSub, tRet, tRetN, tCons, tNil, tTup, tLst, tCB, tNot, tAnd, tNotV, tAndV, tOrV, tOr, V.bl.injEq, V.int.injEq, V.str.injEq, exists_eq_left', exists_eq_left, exists_eq', true_and, and_true, cIsN, L2.start, gTup, gCons, gNil, nox_K, cx_K, tCallF, tSl, tPart, tNoPart, iEnum, RZ.iZipA, iRng1, iRng2, cAbs, List.map_cons, List.map_nil, List.length_cons, List.length_nil, List.replicate, List.cons_append, List.nil_append, List.getElem?_cons_zero, List.getElem?_cons_succ, List.getElem?_nil, List.set_cons_zero, List.set_cons_succ, Nat.reduceAdd, Nat.reduceSub, Nat.zero_add, if_true, if_false, reduceIte, reduceCtorEq, Bool.false_eq_true, decide_eq_true_eq, tDrop, cMin2, cJoin, iList, tDNewK, tLc_eq, iStr, wipe])
        rw [hyt]
        by_cases hf : fo (tl y) (tl s0) < (tl y).length
        · rw [if_pos (by omega)]
          refine ⟨by omega, fun r hr => q _ _ (hx0.fresh hr) ?_⟩
          rw [hw, if_pos hf]
          exact ⟨r, rfl, upd_self⟩
        · rw [if_neg (by omega)]
          refine ⟨by omega, st + (tl y).length + 1, _, _, _, rfl, fun _ => by omega, he.fresh hT, ?_⟩
          rw [hw, if_neg hf]
    · rintro σ H' ⟨st, u3, u4, u5, rfl, h1, he, hw⟩
      (try simp only [tSeq, tNext, tIfS, tFor_eq, cBl, tOp, tC, cI, cIc, cAdd, cVar, hEq, hNe, hIn, hNotIn, hLen, hSl, tM1, tBM, cT1, cT1f, cFind3, cSplit, cPart, rNewStrs, hIsS, hTru, tAsg, gName, gSub, tRet, tRetN, tCons, tNil, tTup, tLst, tCB, tNot, tAnd, tNotV, tAndV, tOrV, tOr, V.bl.injEq, V.int.injEq, V.str.injEq, exists_eq_left', exists_eq_left, exists_eq', true_and, and_true, cIsN, L2.start, gTup, gCons, gNil, nox_K, cx_K, tCallF, tSl, tPart, tNoPart, iEnum, RZ.iZipA, iRng1, iRng2, cAbs, List.map_cons, List.map_nil, List.length_cons, List.length_nil, List.replicate, List.cons_append, List.nil_append, List.getElem?_cons_zero, List.getElem?_cons_succ, List.getElem?_nil, List.set_cons_zero, List.set_cons_succ, Nat.reduceAdd, Nat.reduceSub, Nat.zero_add, if_true, if_false, reduceIte, reduceCtorEq, Bool.false_eq_true, decide_eq_true_eq, tDrop, cMin2, cJoin, iList, tDNewK, tLc_eq, iStr, wipe])
      refine q _ _ ((Ext.rf.fresh hp).tr he) ?_
      rw [hw, List.length_map, List.drop_length]
      rfl
end
end Da
set_option Elab.async false
set_option linter.all false
set_option maxRecDepth 100000
set_option maxHeartbeats 4000000
namespace Da
open PySem PySem.Spec PyProof.Rows L2 Hd Xs Fx Mi
open TL (tl)
theorem digt : DIGT = [48, 49, 50, 51, 52, 53, 54, 55, 56, 57] := by decide +kernel
theorem dig_iff {c : Nat} (h : DIGT.contains c = true) : 48 ≤ c ∧ c ≤ 57 := by
  rw [digt] at h
  simp only [List.contains_cons, List.contains_nil, Bool.or_false, Bool.or_eq_true, beq_iff_eq] at h
  omega
theorem fo_all {l S : T} (h : fo l S = l.length) : ∀ c ∈ l, S.contains c = true := by
  intro c hc
  obtain ⟨i, hi, e⟩ := List.mem_iff_getElem.mp hc
  obtain ⟨d, h1, h2⟩ := fo_before (l := l) (S := S) (i := i) (by omega)
  rw [List.getElem?_eq_getElem hi] at h1
  rw [← e, Option.some.inj h1]
  exact h2
theorem cut0 (z : Str) (n : Nat) : tl (cutS z none (some (n : Int))) = (tl z).take n := by
  show ((tl z).drop (HT.sIx z.length 0 none)).take _ = _
  rw [HT.sIx_nat, HT.sIx_none, List.drop_zero, Nat.sub_zero]
  rw [TL.len_tl]
  by_cases h : n ≤ (tl z).length
  · rw [Nat.min_eq_left h]
  · rw [Nat.min_eq_right (by omega), List.take_of_length_le (Nat.le_refl _), List.take_of_length_le (by omega)]
theorem cutN (z : Str) (n : Nat) : tl (cutS z (some (n : Int)) none) = (tl z).drop n := by
  show ((tl z).drop (HT.sIx z.length 0 (some (n : Int)))).take _ = _
  rw [HT.sIx_nat, HT.sIx_none, TL.len_tl]
  rw [List.take_of_length_le (by rw [List.length_drop]; exact Nat.le_refl _)]
  by_cases h : n ≤ (tl z).length
  · rw [Nat.min_eq_left h]
  · rw [Nat.min_eq_right (by omega), List.drop_length, List.drop_of_length_le (by omega)]
theorem cutMN (z : Str) (m n : Nat) : tl (cutS z (some (m : Int)) (some (n : Int))) = ((tl z).drop m).take (n - m) := by
  show ((tl z).drop (HT.sIx z.length 0 (some (m : Int)))).take _ = _
  rw [HT.sIx_nat, HT.sIx_nat, TL.len_tl]
  by_cases h : m ≤ (tl z).length
  · rw [Nat.min_eq_left h]
    by_cases h2 : n ≤ (tl z).length
    · rw [Nat.min_eq_left h2]
    · rw [Nat.min_eq_right (by omega)]
      rw [List.take_of_length_le (by rw [List.length_drop]; exact Nat.le_refl _), List.take_of_length_le (by rw [List.length_drop]; omega)]
  · have e : ∀ k : Nat, (List.drop (min m (tl z).length) (tl z)).take k = [] := fun k => by
      rw [show min m (tl z).length = (tl z).length by omega, List.drop_length, List.take_nil]
    rw [e, List.drop_of_length_le (by omega), List.take_nil]
section
variable {P : Program} {w : World} {K : PySem.W.Frag} {mg : Str → Option Value} {base : Heap}
theorem ok__wrong_in_port (c : Ct w K mg) : OkF P w K mg base CX0 2 (He.ga K "_wrong_in_port") ["text"] (spWrong wPort) := by
  obtain ⟨fd, F⟩ := F__wrong_in_port c
  refine ⟨fd, F.ok sc__wrong_in_port (fun vs H Q E h => ?_) (fun cdv A outer s H vs Q E hr h => ⟨_, PSs.nox ((pss_cons (ps_set (i := 1) (sc__wrong_in_port).nd rfl (Or.inl rfl) (pf (ok__first_other c) (hr.mono (by decide)) (g__first_other c) (k__first_other c) pass0 (pa_cons (pe_slice hs_any (cv 0) po_none (po_some (pe_glob rfl (c_PORT_DIGITS c).choose_spec.1 (c_PORT_DIGITS c).choose_spec.2))) (pa_cons (pe_glob rfl (c_DIGITS c).choose_spec.1 (c_DIGITS c).choose_spec.2) pa_nil)))) (pss_cons (ps_if (PW.pt (pw_and (ctc (ho_eq (hu64 hr)) (cv 1) (pe_glob rfl (c_PORT_DIGITS c).choose_spec.1 (c_PORT_DIGITS c).choose_spec.2) (by rfl)) (pw_and1 (ctc co_gt (pe_callTy call_int_str (by rfl) (b_int c) (by decide +kernel) (pa_cons (pe_slice hs_any (cv 0) po_none (po_some (pe_glob rfl (c_PORT_DIGITS c).choose_spec.1 (c_PORT_DIGITS c).choose_spec.2))) pa_nil)) (pe_glob rfl (c_GREATEST_PORT c).choose_spec.1 (c_GREATEST_PORT c).choose_spec.2) (by rfl))))) (pss_one (ps_ret (pe_tup (pa_cons pe_str (pa_cons pe_int pa_nil))))) pss_nil) (pss_one (ps_ret (pe_ifExp (ctc co_lt (cv 1) (pe_callB hc_len (by rfl) (b_len c) (by decide +kernel) (pa_cons (cv 0) pa_nil)) (by rfl)) (pe_tup (pa_cons pe_str (pa_cons (cv 1) pa_nil))) pe_non)))))), ?_⟩), F.bindsN fun _ _ _ _ _ _ us hl => match us, hl with | [_], _ => rfl⟩
  · unfold spWrong at h
    split at h
    · rfl
    · exact h.elim
  · unfold spWrong at h
    split at h
    case h_2 => exact h.elim
    rename_i t
    obtain ⟨ht, q⟩ := h
    have sl := sl
    have c5 := cut0 t 5
    have c5l := cutS_len t none (some 5)
    have eD : tl (Str.ofString "0123456789") = DIGT := rfl
    have hl := TL.len_tl t
    unfold wPort at q
    (try simp only [tSeq, tNext, tIfS, tFor_eq, cBl, tOp, tC, cI, cIc, cAdd, cVar, hEq, hNe, hIn, hNotIn, hLen, hSl, tM1, tBM, cT1, cT1f, cFind3, cSplit, cPart, rNewStrs, hIsS, hTru, tAsg, gName, gSub, tRet, tRetN, tCons, tNil, tTup, tLst, tCB, tNot, tAnd, tNotV, tAndV, tOrV, tOr, V.bl.injEq, V.int.injEq, V.str.injEq, exists_eq_left', exists_eq_left, exists_eq', true_and, and_true, cIsN, L2.start, gTup, gCons, gNil, nox_K, cx_K, tCallF, tSl, tPart, tNoPart, iEnum, RZ.iZipA, iRng1, iRng2, cAbs, List.map_cons, List.map_nil, List.length_cons, List.length_nil, List.replicate, List.cons_append, List.nil_append, List.getElem?_cons_zero, List.getElem?_cons_succ, List.getElem?_nil, List.set_cons_zero, List.set_cons_succ, Nat.reduceAdd, Nat.reduceSub, Nat.zero_add, if_true, if_false, reduceIte, reduceCtorEq, Bool.false_eq_true, decide_eq_true_eq, tDrop, cMin2, cJoin, iList, tDNewK, tLc_eq, iStr, wipe])
    rw [show (some (5 : Int)) = some ((5 : Nat) : Int) from rfl] at *
    refine ⟨by omega, by omega, ?_⟩
    rw [c5, eD]
    (try simp only [tSeq, tNext, tIfS, tFor_eq, cBl, tOp, tC, cI, cIc, cAdd, cVar, hEq, hNe, hIn, hNotIn, hLen, hSl, tM1, tBM, cT1, cT1f, cFind3, cSplit, cPart, rNewStrs, hIsS, hTru, tAsg, gName, gSub, tRet, tRetN, tCons, tNil, tTup, tLst, tCB, tNot, tAnd, tNotV, tAndV, tOrV, tOr, V.bl.injEq, V.int.injEq, V.str.injEq, exists_eq_left', exists_eq_left, exists_eq', true_and, and_true, cIsN, L2.start, gTup, gCons, gNil, nox_K, cx_K, tCallF, tSl, tPart, tNoPart, iEnum, RZ.iZipA, iRng1, iRng2, cAbs, List.map_cons, List.map_nil, List.length_cons, List.length_nil, List.replicate, List.cons_append, List.nil_append, List.getElem?_cons_zero, List.getElem?_cons_succ, List.getElem?_nil, List.set_cons_zero, List.set_cons_succ, Nat.reduceAdd, Nat.reduceSub, Nat.zero_add, if_true, if_false, reduceIte, reduceCtorEq, Bool.false_eq_true, decide_eq_true_eq, tDrop, cMin2, cJoin, iList, tDNewK, tLc_eq, iStr, wipe])
    have fin : (∀ v H', Ext H H' → RW H' v (if fo (List.take 5 (tl t)) DIGT < (tl t).length then some (kP, fo (List.take 5 (tl t)) DIGT) else none) → Q v H') →
        tIf (cBl (tOp (cI fun i j => V.bl (decide (i < j))) (cVar 1) (tCB (hLen K) (tCons (cVar 0) tNil))))
          (tTup (tCons (tC (V.str (Str.ofString "port"))) (tCons (cVar 1) tNil))) (tC V.non)
          [some (V.str t), some (V.int (fo (List.take 5 (tl t)) DIGT : Nat))] H Q := fun q => by
      unfold tIf
      (try simp only [tSeq, tNext, tIfS, tFor_eq, cBl, tOp, tC, cI, cIc, cAdd, cVar, hEq, hNe, hIn, hNotIn, hLen, hSl, tM1, tBM, cT1, cT1f, cFind3, cSplit, cPart, rNewStrs, hIsS, hTru, tAsg, gName, gSub, tRet, tRetN, tCons, tNil, tTup, tLst, tCB, tNot, tAnd, tNotV, tAndV, tOrV, tOr, V.bl.injEq, V.int.injEq, V.str.injEq, exists_eq_left', exists_eq_left, exists_eq', true_and, and_true, cIsN, L2.start, gTup, gCons, gNil, nox_K, cx_K, tCallF, tSl, tPart, tNoPart, iEnum, RZ.iZipA, iRng1, iRng2, cAbs, List.map_cons, List.map_nil, List.length_cons, List.length_nil, List.replicate, List.cons_append, List.nil_append, List.getElem?_cons_zero, List.getElem?_cons_succ, List.getElem?_nil, List.set_cons_zero, List.set_cons_succ, Nat.reduceAdd, Nat.reduceSub, Nat.zero_add, if_true, if_false, reduceIte, reduceCtorEq, Bool.false_eq_true, decide_eq_true_eq, tDrop, cMin2, cJoin, iList, tDNewK, tLc_eq, iStr, wipe])
      refine ⟨by omega, ?_⟩
      rw [hl]
      by_cases hf : fo (List.take 5 (tl t)) DIGT < (tl t).length
      · rw [if_pos hf] at q
        rw [if_pos (by omega)]
        exact ⟨by omega, fun p hp => q _ _ (Ext.rf.fresh hp) ⟨p, rfl, upd_self⟩⟩
      · rw [if_neg hf] at q
        rw [if_neg (by omega)]
        exact q _ _ Ext.rf rfl
    by_cases h5 : fo (List.take 5 (tl t)) DIGT = 5
    · rw [if_pos (by omega)]
      have hle := fo_le (List.take 5 (tl t)) DIGT
      have hle2 : (List.take 5 (tl t)).length ≤ 5 := by rw [List.length_take]; omega
      have had := fo_all (l := List.take 5 (tl t)) (S := DIGT) (by omega)
      have hi := PySem.intText_digits (x := cutS t none (some ((5 : Nat) : Int))) (by rw [show (cutS t none (some ((5 : Nat) : Int))).cps.toList = List.take 5 (tl t) from c5]; exact fun d hd => dig_iff (had d hd))
        (by rw [show (cutS t none (some ((5 : Nat) : Int))).cps.toList = List.take 5 (tl t) from c5]; intro z; rw [z] at h5; exact absurd h5 (by decide)) (by rw [TL.len_tl, c5]; omega)
      rw [show (cutS t none (some ((5 : Nat) : Int))).cps.toList = List.take 5 (tl t) from c5] at hi
      refine ⟨by omega, _, _, rfl, hi, by rw [TL.len_tl, c5]; omega, ?_⟩
      have ev : NumText.digitsVal (List.take 5 (tl t)) = val5 (List.take 5 (tl t)) := rfl
      rw [ev]
      by_cases hv : 65535 < val5 (List.take 5 (tl t))
      · rw [if_pos ⟨h5, hv⟩] at q
        rw [if_pos (by omega)]
        exact ⟨by omega, fun p hp => q _ _ (Ext.rf.fresh hp) ⟨p, rfl, upd_self⟩⟩
      · rw [if_neg (fun z => hv z.2)] at q
        rw [if_neg (by omega)]
        exact fin q
    · rw [if_neg (by omega)]
      rw [if_neg (fun z => h5 z.1)] at q
      exact fin q
theorem ok__wrong_in_brackets (c : Ct w K mg) : OkF P w K mg base CX0 2 (He.ga K "_wrong_in_brackets") ["host"] (spWrong wBr) := by
  obtain ⟨fd, F⟩ := F__wrong_in_brackets c
  refine ⟨fd, F.ok sc__wrong_in_brackets (fun vs H Q E h => ?_) (fun cdv A outer s H vs Q E hr h => ⟨_, PSs.nox ((pss_cons (ps_set (i := 1) (sc__wrong_in_brackets).nd rfl (Or.inl rfl) (pe_op co_add pe_int (pf (ok__first_other c) (hr.mono (by decide)) (g__first_other c) (k__first_other c) pass0 (pa_cons (pe_slice hs_any (cv 0) (po_some pe_int) po_none) (pa_cons (pe_op co_add (pe_glob rfl (c_HEXADECIMAL c).choose_spec.1 (c_HEXADECIMAL c).choose_spec.2) pe_str) pa_nil))))) (pss_cons (ps_if (PW.pt (pw_or (ctc (ho_eq (hu64 hr)) (cv 1) pe_int (by rfl)) (pw_or1 (ctc (ho_ne (hu64 hr)) (pe_slice hs_any (cv 0) (po_some (cv 1)) (po_some (pe_op co_add (cv 1) pe_int))) pe_str (by rfl))))) (pss_one (ps_ret (pe_tup (pa_cons pe_str (pa_cons (cv 1) pa_nil))))) pss_nil) (pss_one (ps_ret (pe_ifExp (ctc co_lt (pe_op co_add (cv 1) pe_int) (pe_callB hc_len (by rfl) (b_len c) (by decide +kernel) (pa_cons (cv 0) pa_nil)) (by rfl)) (pe_tup (pa_cons pe_str (pa_cons (pe_op co_add (cv 1) pe_int) pa_nil))) pe_non)))))), ?_⟩), F.bindsN fun _ _ _ _ _ _ us hl => match us, hl with | [_], _ => rfl⟩
  · unfold spWrong at h
    split at h
    · rfl
    · exact h.elim
  · unfold spWrong at h
    split at h
    case h_2 => exact h.elim
    rename_i t
    obtain ⟨ht, q⟩ := h
    have sl := sl
    have hl := TL.len_tl t
    unfold wBr at q
    (try simp only [tSeq, tNext, tIfS, tFor_eq, cBl, tOp, tC, cI, cIc, cAdd, cVar, hEq, hNe, hIn, hNotIn, hLen, hSl, tM1, tBM, cT1, cT1f, cFind3, cSplit, cPart, rNewStrs, hIsS, hTru, tAsg, gName, gSub, tRet, tRetN, tCons, tNil, tTup, tLst, tCB, tNot, tAnd, tNotV, tAndV, tOrV, tOr, V.bl.injEq, V.int.injEq, V.str.injEq, exists_eq_left', exists_eq_left, exists_eq', true_and, and_true, cIsN, L2.start, gTup, gCons, gNil, nox_K, cx_K, tCallF, tSl, tPart, tNoPart, iEnum, RZ.iZipA, iRng1, iRng2, cAbs, List.map_cons, List.map_nil, List.length_cons, List.length_nil, List.replicate, List.cons_append, List.nil_append, List.getElem?_cons_zero, List.getElem?_cons_succ, List.getElem?_nil, List.set_cons_zero, List.set_cons_succ, Nat.reduceAdd, Nat.reduceSub, Nat.zero_add, if_true, if_false, reduceIte, reduceCtorEq, Bool.false_eq_true, decide_eq_true_eq, tDrop, cMin2, cJoin, iList, tDNewK, tLc_eq, iStr, wipe])
    have c1 := cutN t 1
    have c1l := cutS_len t (some 1) none
    rw [show (some (1 : Int)) = some ((1 : Nat) : Int) from rfl] at *
    have eB : tl (Str.ofString "0123456789ABCDEFabcdef" ++ Str.ofString ":.") = BRKT := by rw [TL.tl_append]; rfl
    have eR : tl (Str.ofString "]") = [93] := by decide +kernel
    refine ⟨by omega, Nat.le_trans (by decide) sl, by omega, ?_⟩
    rw [c1, eB]
    (try simp only [tSeq, tNext, tIfS, tFor_eq, cBl, tOp, tC, cI, cIc, cAdd, cVar, hEq, hNe, hIn, hNotIn, hLen, hSl, tM1, tBM, cT1, cT1f, cFind3, cSplit, cPart, rNewStrs, hIsS, hTru, tAsg, gName, gSub, tRet, tRetN, tCons, tNil, tTup, tLst, tCB, tNot, tAnd, tNotV, tAndV, tOrV, tOr, V.bl.injEq, V.int.injEq, V.str.injEq, exists_eq_left', exists_eq_left, exists_eq', true_and, and_true, cIsN, L2.start, gTup, gCons, gNil, nox_K, cx_K, tCallF, tSl, tPart, tNoPart, iEnum, RZ.iZipA, iRng1, iRng2, cAbs, List.map_cons, List.map_nil, List.length_cons, List.length_nil, List.replicate, List.cons_append, List.nil_append, List.getElem?_cons_zero, List.getElem?_cons_succ, List.getElem?_nil, List.set_cons_zero, List.set_cons_succ, Nat.reduceAdd, Nat.reduceSub, Nat.zero_add, if_true, if_false, reduceIte, reduceCtorEq, Bool.false_eq_true, decide_eq_true_eq, tDrop, cMin2, cJoin, iList, tDNewK, tLc_eq, iStr, wipe])
    generalize fo (List.drop 1 (tl t)) BRKT = n at *
    have e1 : (1 : Int) + (n : Nat) = ((1 + n : Nat) : Int) := by omega
    have e2 : (1 : Int) + (n : Nat) + 1 = ((1 + n + 1 : Nat) : Int) := by omega
    rw [e2, e1]
    by_cases hn : n = 0
    · rw [if_pos (.inl hn)] at q
      rw [if_pos (by omega)]
      exact ⟨by omega, fun p hp => q _ _ (Ext.rf.fresh hp) ⟨p, rfl, upd_self⟩⟩
    · rw [if_neg (by omega)]
      refine ⟨by omega, ?_⟩
      have c2 := cutMN t (1 + n) (1 + n + 1)
      rw [show 1 + n + 1 - (1 + n) = 1 by omega] at c2
      by_cases hb : List.take 1 (List.drop (1 + n) (tl t)) = [93]
      · rw [if_neg (fun z => z.elim hn (fun z => z hb))] at q
        rw [if_neg (fun z => z (TL.ext_tl (by rw [c2, hb, eR])))]
        unfold tIf
        (try simp only [tSeq, tNext, tIfS, tFor_eq, cBl, tOp, tC, cI, cIc, cAdd, cVar, hEq, hNe, hIn, hNotIn, hLen, hSl, tM1, tBM, cT1, cT1f, cFind3, cSplit, cPart, rNewStrs, hIsS, hTru, tAsg, gName, gSub, tRet, tRetN, tCons, tNil, tTup, tLst, tCB, tNot, tAnd, tNotV, tAndV, tOrV, tOr, V.bl.injEq, V.int.injEq, V.str.injEq, exists_eq_left', exists_eq_left, exists_eq', true_and, and_true, cIsN, L2.start, gTup, gCons, gNil, nox_K, cx_K, tCallF, tSl, tPart, tNoPart, iEnum, RZ.iZipA, iRng1, iRng2, cAbs, List.map_cons, List.map_nil, List.length_cons, List.length_nil, List.replicate, List.cons_append, List.nil_append, List.getElem?_cons_zero, List.getElem?_cons_succ, List.getElem?_nil, List.set_cons_zero, List.set_cons_succ, Nat.reduceAdd, Nat.reduceSub, Nat.zero_add, if_true, if_false, reduceIte, reduceCtorEq, Bool.false_eq_true, decide_eq_true_eq, tDrop, cMin2, cJoin, iList, tDNewK, tLc_eq, iStr, wipe])
        refine ⟨by omega, ?_⟩
        rw [hl]
        by_cases hf : 1 + n + 1 < (tl t).length
        · rw [if_pos hf] at q
          rw [if_pos (by omega)]
          exact ⟨by omega, fun p hp => q _ _ (Ext.rf.fresh hp) ⟨p, rfl, upd_self⟩⟩
        · rw [if_neg hf] at q
          rw [if_neg (by omega)]
          exact q _ _ Ext.rf rfl
      · rw [if_pos (.inr hb)] at q
        rw [if_pos (fun z => hb (by rw [← c2, z, eR]))]
        exact ⟨by omega, fun p hp => q _ _ (Ext.rf.fresh hp) ⟨p, rfl, upd_self⟩⟩
end
end Da
set_option Elab.async false
set_option linter.all false
set_option maxRecDepth 100000
set_option maxHeartbeats 4000000
namespace Da
open PySem PySem.Spec PyProof.Rows L2 Hd Xs Fx Mi
open TL (tl)
def NM : List Str := ["scheme", "user", "host", "port", "path", "query", "fragment"]
def moreL : Nat → Str
  | 1 => ":"
  | 2 => ""
  | 4 => ":@/"
  | 5 => ":@/?"
  | 6 => ":@/?"
  | _ => ""
def SI (i : Nat) : T := PLNT ++ INNT ++ tl (moreL i)
/-- the wrong place of a part -/
def wP (i : Nat) (l : T) : KP := if i = 0 then wSch l else if i = 3 then wPort l else if i = 2 ∧ l.take 1 = [91] then wBr l else wAm (SI i) 0 0 (cut 94 l)
def spPlace : Sp := fun vs H Q _ => match vs with
  | [.str n, .str t] => ∃ i, i < 7 ∧ NM[i]? = some n ∧ t.length ≤ (100000 : Nat) ∧ ∀ v H', Ext H H' → RW H' v (wP i (tl t)) → Q v H'
  | _ => False
def spSigns : Sp := fun vs H Q _ => match vs with
  | [.str n] => ∃ i, (i = 1 ∨ i = 2 ∨ i = 4 ∨ i = 5 ∨ i = 6) ∧ NM[i]? = some n ∧ ∀ S : Str, tl S = SI i → Q (.str S) H
  | _ => False
theorem sw_lit {x y : Str} {S : T} (h : tl y = S) (hS : S ≠ []) : Txt.startswith x y = decide ((tl x).take S.length = S) := by
  rw [sw_pre x y (by rw [h]; exact hS), h]
  show ((tl x).take S.length == S) = _
  exact Bool.eq_iff_iff.mpr (by simp)
theorem tl_tab (i : Nat) (h : i = 1 ∨ i = 2 ∨ i = 4 ∨ i = 5 ∨ i = 6) {n : Str} (hn : NM[i]? = some n) : (n, He.Dv.str (moreL i)) ∈ kv_MORE := by
  rcases h with rfl | rfl | rfl | rfl | rfl <;> cases hn
  · exact .head _
  · exact .tail _ (.head _)
  · exact .tail _ (.tail _ (.head _))
  · exact .tail _ (.tail _ (.tail _ (.head _)))
  · exact .tail _ (.tail _ (.tail _ (.tail _ (.head _))))
section
variable {P : Program} {w : World} {K : PySem.W.Frag} {mg : Str → Option Value} {base : Heap}
theorem ok_signs_of (c : Ct w K mg) : OkF P w K mg base CX0 1 (He.ga K "signs_of") ["name"] (spSigns) := by
  obtain ⟨fd, F⟩ := F_signs_of c
  refine ⟨fd, F.ok sc_signs_of (fun vs H Q E h => ?_) (fun cdv A outer s H vs Q E hr h => ⟨_, PSs.nox ((pss_one (ps_ret (pe_op co_add (pe_op co_add (pe_glob rfl (c_PLAIN c).choose_spec.1 (c_PLAIN c).choose_spec.2) (pe_glob rfl (c_INNER c).choose_spec.1 (c_INNER c).choose_spec.2)) (pe_ix ix_kdict (pe_glob (v := .ref (He.ga K "MORE")) rfl (g_MORE c) rfl) (cv 0) (by exact fun _ _ => rfl)))))), ?_⟩), F.bindsN fun _ _ _ _ _ _ us hl => match us, hl with | [_], _ => rfl⟩
  · unfold spSigns at h
    split at h
    · rfl
    · exact h.elim
  · unfold spSigns at h
    split at h
    case h_2 => exact h.elim
    rename_i n
    obtain ⟨i, hc, hn, q⟩ := h
    have sl := sl
    (try simp only [tSeq, tNext, tIfS, tFor_eq, cBl, tOp, tC, cI, cIc, cAdd, cVar, hEq, hNe, hIn, hNotIn, hLen, hSl, tM1, tBM, cT1, cT1f, cFind3, cSplit, cPart, rNewStrs, hIsS, hTru, tAsg, gName, gSub, tRet, tRetN, tCons, tNil, tTup, tLst, tCB, tNot, tAnd, tNotV, tAndV, tOrV, tOr, V.bl.injEq, V.int.injEq, V.str.injEq, exists_eq_left', exists_eq_left, exists_eq', true_and, and_true, cIsN, L2.start, gTup, gCons, gNil, nox_K, cx_K, tCallF, tSl, tPart, tNoPart, iEnum, RZ.iZipA, iRng1, iRng2, cAbs, List.map_cons, List.map_nil, List.length_cons, List.length_nil, List.replicate, List.cons_append, List.nil_append, List.getElem?_cons_zero, List.getElem?_cons_succ, List.getElem?_nil, List.set_cons_zero, List.set_cons_succ, Nat.reduceAdd, Nat.reduceSub, Nat.zero_add, if_true, if_false, reduceIte, reduceCtorEq, Bool.false_eq_true, decide_eq_true_eq, tDrop, cMin2, cJoin, iList, tDNewK, tLc_eq, iStr, wipe])
    have kd := kd_MORE c (tl_tab i hc hn)
    refine ⟨Nat.le_trans (by decide) sl, _, _, .str (moreL i), rfl, rfl, kd, ?_⟩
    (try simp only [tSeq, tNext, tIfS, tFor_eq, cBl, tOp, tC, cI, cIc, cAdd, cVar, hEq, hNe, hIn, hNotIn, hLen, hSl, tM1, tBM, cT1, cT1f, cFind3, cSplit, cPart, rNewStrs, hIsS, hTru, tAsg, gName, gSub, tRet, tRetN, tCons, tNil, tTup, tLst, tCB, tNot, tAnd, tNotV, tAndV, tOrV, tOr, V.bl.injEq, V.int.injEq, V.str.injEq, exists_eq_left', exists_eq_left, exists_eq', true_and, and_true, cIsN, L2.start, gTup, gCons, gNil, nox_K, cx_K, tCallF, tSl, tPart, tNoPart, iEnum, RZ.iZipA, iRng1, iRng2, cAbs, List.map_cons, List.map_nil, List.length_cons, List.length_nil, List.replicate, List.cons_append, List.nil_append, List.getElem?_cons_zero, List.getElem?_cons_succ, List.getElem?_nil, List.set_cons_zero, List.set_cons_succ, Nat.reduceAdd, Nat.reduceSub, Nat.zero_add, if_true, if_false, reduceIte, reduceCtorEq, Bool.false_eq_true, decide_eq_true_eq, tDrop, cMin2, cJoin, iList, tDNewK, tLc_eq, iStr, wipe])
    have hm : (moreL i).length ≤ 10 := by rcases hc with rfl | rfl | rfl | rfl | rfl <;> decide
    refine ⟨by rw [la]; exact Nat.le_trans (Nat.add_le_add_left hm _) (Nat.le_trans (by decide) sl), q _ ?_⟩
    rw [TL.tl_append, TL.tl_append]
    rfl
theorem ok_wrong_place (c : Ct w K mg) : OkF P w K mg base CX0 3 (He.ga K "wrong_place") ["name", "text"] (spPlace) := by
  obtain ⟨fd, F⟩ := F_wrong_place c
  refine ⟨fd, F.ok sc_wrong_place (fun vs H Q E h => ?_) (fun cdv A outer s H vs Q E hr h => ⟨_, PSs.nox ((pss_cons (ps_if (ctc (ho_eq (hu64 hr)) (cv 0) pe_str (by rfl)) (pss_one (ps_ret (pf (ok__wrong_in_scheme c) (hr.mono (by decide)) (g__wrong_in_scheme c) (k__wrong_in_scheme c) pass0 (pa_cons (cv 1) pa_nil)))) pss_nil) (pss_cons (ps_if (ctc (ho_eq (hu64 hr)) (cv 0) pe_str (by rfl)) (pss_one (ps_ret (pf (ok__wrong_in_port c) (hr.mono (by decide)) (g__wrong_in_port c) (k__wrong_in_port c) pass0 (pa_cons (cv 1) pa_nil)))) pss_nil) (pss_cons (ps_if (PW.pt (pw_and (ctc (ho_eq (hu64 hr)) (cv 0) pe_str (by rfl)) (pw_and1 (ct (pe_m1 PySem.F.slot_str_startswith PySem.F.type_str_startswith cm_startswith (cv 1) pe_str))))) (pss_one (ps_ret (pf (ok__wrong_in_brackets c) (hr.mono (by decide)) (g__wrong_in_brackets c) (k__wrong_in_brackets c) pass0 (pa_cons (cv 1) pa_nil)))) pss_nil) (pss_one (ps_ret (pf (ok__wrong_among c) (hr.mono (by decide)) (g__wrong_among c) (k__wrong_among c) pass0 (pa_cons (cv 1) (pa_cons (pf (ok_signs_of c) (hr.mono (by decide)) (g_signs_of c) (k_signs_of c) pass0 (pa_cons (cv 0) pa_nil)) pa_nil))))))))), ?_⟩), F.bindsN fun _ _ _ _ _ _ us hl => match us, hl with | [_, _], _ => rfl⟩
  · unfold spPlace at h
    split at h
    · rfl
    · exact h.elim
  · unfold spPlace at h
    split at h
    case h_2 => exact h.elim
    rename_i n t
    obtain ⟨i, hi, hn, ht, q⟩ := h
    have sl := sl
    (try simp only [tSeq, tNext, tIfS, tFor_eq, cBl, tOp, tC, cI, cIc, cAdd, cVar, hEq, hNe, hIn, hNotIn, hLen, hSl, tM1, tBM, cT1, cT1f, cFind3, cSplit, cPart, rNewStrs, hIsS, hTru, tAsg, gName, gSub, tRet, tRetN, tCons, tNil, tTup, tLst, tCB, tNot, tAnd, tNotV, tAndV, tOrV, tOr, V.bl.injEq, V.int.injEq, V.str.injEq, exists_eq_left', exists_eq_left, exists_eq', true_and, and_true, cIsN, L2.start, gTup, gCons, gNil, nox_K, cx_K, tCallF, tSl, tPart, tNoPart, iEnum, RZ.iZipA, iRng1, iRng2, cAbs, List.map_cons, List.map_nil, List.length_cons, List.length_nil, List.replicate, List.cons_append, List.nil_append, List.getElem?_cons_zero, List.getElem?_cons_succ, List.getElem?_nil, List.set_cons_zero, List.set_cons_succ, Nat.reduceAdd, Nat.reduceSub, Nat.zero_add, if_true, if_false, reduceIte, reduceCtorEq, Bool.false_eq_true, decide_eq_true_eq, tDrop, cMin2, cJoin, iList, tDNewK, tLc_eq, iStr, wipe])
    have e0 : tl (Str.ofString "[") = [91] := by decide +kernel
    by_cases h0 : i = 0
    · subst h0
      cases hn
      rw [if_pos rfl]
      exact ⟨ht, q⟩
    by_cases h3 : i = 3
    · subst h3
      cases hn
      rw [if_neg (by decide +kernel), if_pos rfl]
      exact ⟨ht, q⟩
    have hc : i = 1 ∨ i = 2 ∨ i = 4 ∨ i = 5 ∨ i = 6 := by omega
    have n0 : ¬ n = Str.ofString "scheme" := by
      rcases hc with rfl | rfl | rfl | rfl | rfl <;> (cases hn; decide +kernel)
    have n3 : ¬ n = Str.ofString "port" := by
      rcases hc with rfl | rfl | rfl | rfl | rfl <;> (cases hn; decide +kernel)
    have n2 : n = Str.ofString "host" ↔ i = 2 := by
      rcases hc with rfl | rfl | rfl | rfl | rfl <;> (cases hn; decide +kernel)
    rw [if_neg n0, if_neg n3]
    unfold wP at q
    rw [if_neg h0, if_neg h3] at q
    have esw := sw_lit (x := t) e0 (by decide)
    by_cases hbr : i = 2 ∧ (tl t).take 1 = [91]
    · rw [if_pos hbr] at q
      rw [if_pos (n2.mpr hbr.1), if_pos (by rw [esw]; exact decide_eq_true hbr.2)]
      exact ⟨ht, q⟩
    · rw [if_neg hbr] at q
      have key : ∀ A B : Prop, B → (if n = Str.ofString "host" then (if Txt.startswith t (Str.ofString "[") = true then A else B) else B) := by
        intro A B hB
        by_cases hh : n = Str.ofString "host"
        · rw [if_pos hh, if_neg (by rw [esw]; exact fun z => hbr ⟨n2.mp hh, of_decide_eq_true z⟩)]
          exact hB
        · rw [if_neg hh]
          exact hB
      refine key _ _ ?_
      refine ⟨i, hc, hn, fun S eS => ⟨ht, ?_⟩⟩
      rw [eS]
      exact q
end
end Da
set_option Elab.async false
set_option linter.all false
set_option maxRecDepth 100000
set_option maxHeartbeats 4000000
namespace Da
open PySem PySem.Spec PyProof.Rows L2 Hd Xs Fx Mi
open TL (tl)
/-- any value that stands for a part here -/
def AV (H : Hp) (v : V) : Prop := match v with
  | .str t => t.length ≤ (100000 : Nat)
  | .non => True
  | .bl _ => True
  | .int _ => True
  | .ref p => ∃ xs, H p = some (.lst xs) ∨ H p = some (.tup xs)
  | _ => False
theorem AV.ext {H H' : Hp} {v : V} (h : AV H v) (e : Ext H H') : AV H' v := by
  cases v with
  | ref p =>
    obtain ⟨xs, h | h⟩ := h
    · exact ⟨xs, .inl (e _ _ h)⟩
    · exact ⟨xs, .inr (e _ _ h)⟩
  | _ => exact h
/-- is the value a text of the signs of part i, or None where that may be -/
def isP (i : Nat) (v : V) : Bool := match v with
  | .non => decide (i ≠ 4)
  | .str t => (wP i (tl t)).isNone
  | _ => false
def spIsPart : Sp := fun vs H Q _ => match vs with
  | [.str n, v] => ∃ i, i < 7 ∧ NM[i]? = some n ∧ AV H v ∧ ∀ H', Ext H H' → Q (.bl (isP i v)) H'
  | _ => False
theorem RW.isN {H : Hp} {v : V} {o : KP} (h : RW H v o) : decide (v = .non) = o.isNone := by
  unfold RW at h
  cases o with
  | none => rw [h]; rfl
  | some r =>
    obtain ⟨q, rfl, _⟩ := h
    rfl
/-- can the path stand beside the other parts -/
def poss (sN hN : Bool) (l : T) : Bool := if hN = false then (l.isEmpty || decide (l.take 1 = [47])) else if l.take 2 = [47, 47] then false else (!sN || !(bef 47 l).contains 58)
def isNo (v : V) : Bool := decide (v = .non)
def NT (v : V) : Prop := v = .non ∨ ∃ t, v = .str t
def spPoss : Sp := fun vs H Q _ => match vs with
  | [s, h, .str p] => NT s ∧ NT h ∧ p.length ≤ (100000 : Nat) ∧ ∀ H', Ext H H' → Q (.bl (poss (isNo s) (isNo h) (tl p))) H'
  | _ => False
theorem colon_one : Str.ofString ":" = ⟨#[58]⟩ := TL.ext_tl (by decide +kernel)
theorem slash_one : Str.ofString "/" = ⟨#[47]⟩ := TL.ext_tl (by decide +kernel)
theorem tl_emp (t : Str) : decide (t = Str.ofString "") = (tl t).isEmpty := by
  cases e : tl t with
  | nil => rw [tl_nil e]; decide +kernel
  | cons c r =>
    have : ¬ t = Str.ofString "" := fun z => by rw [z] at e; exact nomatch e
    rw [decide_eq_false this]; rfl
section
variable {P : Program} {w : World} {K : PySem.W.Frag} {mg : Str → Option Value} {base : Heap}
theorem ok__is_part (c : Ct w K mg) : OkF P w K mg base CX0 4 (He.ga K "_is_part") ["name", "value"] (spIsPart) := by
  obtain ⟨fd, F⟩ := F__is_part c
  refine ⟨fd, F.ok sc__is_part (fun vs H Q E h => ?_) (fun cdv A outer s H vs Q E hr h => ⟨_, PSs.nox ((pss_cons (ps_if (ctc co_isN (cv 1) pe_non (by rfl)) (pss_one (ps_ret (pe_cmpR (ho_ne (hu64 hr)) (cv 0) pe_str (by rfl)))) pss_nil) (pss_one (ps_ret (pe_and (pe_callB hc_isS (by rfl) (b_isinstance c) (by decide +kernel) (pa_cons (cv 1) (pa_cons (pe_bltn (v := .ty "str") (by rfl) (b_str c) (by decide +kernel) rfl) pa_nil))) (pe_one (pe_cmpR co_isN (pf (ok_wrong_place c) (hr.mono (by decide)) (g_wrong_place c) (k_wrong_place c) pass0 (pa_cons (cv 0) (pa_cons (cv 1) pa_nil))) pe_non (by rfl)))))))), ?_⟩), F.bindsN fun _ _ _ _ _ _ us hl => match us, hl with | [_, _], _ => rfl⟩
  · unfold spIsPart at h
    split at h
    · rfl
    · exact h.elim
  · unfold spIsPart at h
    split at h
    case h_2 => exact h.elim
    rename_i n v
    obtain ⟨i, hi, hn, ha, q⟩ := h
    have sl := sl
    unfold AV at ha
    unfold isP at q
    have n4 : n = Str.ofString "path" ↔ i = 4 := by
      have : i = 0 ∨ i = 1 ∨ i = 2 ∨ i = 3 ∨ i = 4 ∨ i = 5 ∨ i = 6 := by omega
      rcases this with rfl | rfl | rfl | rfl | rfl | rfl | rfl <;> (cases hn; decide +kernel)
    cases v with
    | non =>
      (try simp only [tSeq, tNext, tIfS, tFor_eq, cBl, tOp, tC, cI, cIc, cAdd, cVar, hEq, hNe, hIn, hNotIn, hLen, hSl, tM1, tBM, cT1, cT1f, cFind3, cSplit, cPart, rNewStrs, hIsS, hTru, tAsg, gName, gSub, tRet, tRetN, tCons, tNil, tTup, tLst, tCB, tNot, tAnd, tNotV, tAndV, tOrV, tOr, V.bl.injEq, V.int.injEq, V.str.injEq, exists_eq_left', exists_eq_left, exists_eq', true_and, and_true, cIsN, L2.start, gTup, gCons, gNil, nox_K, cx_K, tCallF, tSl, tPart, tNoPart, iEnum, RZ.iZipA, iRng1, iRng2, cAbs, List.map_cons, List.map_nil, List.length_cons, List.length_nil, List.replicate, List.cons_append, List.nil_append, List.getElem?_cons_zero, List.getElem?_cons_succ, List.getElem?_nil, List.set_cons_zero, List.set_cons_succ, Nat.reduceAdd, Nat.reduceSub, Nat.zero_add, if_true, if_false, reduceIte, reduceCtorEq, Bool.false_eq_true, decide_eq_true_eq, tDrop, cMin2, cJoin, iList, tDNewK, tLc_eq, iStr, wipe])
      have e : decide (¬ n = Str.ofString "path") = decide (i ≠ 4) := by simp only [n4, ne_eq]
      rw [e]
      exact q _ Ext.rf
    | str t =>
      (try simp only [tSeq, tNext, tIfS, tFor_eq, cBl, tOp, tC, cI, cIc, cAdd, cVar, hEq, hNe, hIn, hNotIn, hLen, hSl, tM1, tBM, cT1, cT1f, cFind3, cSplit, cPart, rNewStrs, hIsS, hTru, tAsg, gName, gSub, tRet, tRetN, tCons, tNil, tTup, tLst, tCB, tNot, tAnd, tNotV, tAndV, tOrV, tOr, V.bl.injEq, V.int.injEq, V.str.injEq, exists_eq_left', exists_eq_left, exists_eq', true_and, and_true, cIsN, L2.start, gTup, gCons, gNil, nox_K, cx_K, tCallF, tSl, tPart, tNoPart, iEnum, RZ.iZipA, iRng1, iRng2, cAbs, List.map_cons, List.map_nil, List.length_cons, List.length_nil, List.replicate, List.cons_append, List.nil_append, List.getElem?_cons_zero, List.getElem?_cons_succ, List.getElem?_nil, List.set_cons_zero, List.set_cons_succ, Nat.reduceAdd, Nat.reduceSub, Nat.zero_add, if_true, if_false, reduceIte, reduceCtorEq, Bool.false_eq_true, decide_eq_true_eq, tDrop, cMin2, cJoin, iList, tDNewK, tLc_eq, iStr, wipe])
      exact ⟨i, hi, hn, ha, fun v H' he hr => by
        dsimp only
        rw [RW.isN hr]
        exact q _ he⟩
    | bl b =>
      (try simp only [tSeq, tNext, tIfS, tFor_eq, cBl, tOp, tC, cI, cIc, cAdd, cVar, hEq, hNe, hIn, hNotIn, hLen, hSl, tM1, tBM, cT1, cT1f, cFind3, cSplit, cPart, rNewStrs, hIsS, hTru, tAsg, gName, gSub, tRet, tRetN, tCons, tNil, tTup, tLst, tCB, tNot, tAnd, tNotV, tAndV, tOrV, tOr, V.bl.injEq, V.int.injEq, V.str.injEq, exists_eq_left', exists_eq_left, exists_eq', true_and, and_true, cIsN, L2.start, gTup, gCons, gNil, nox_K, cx_K, tCallF, tSl, tPart, tNoPart, iEnum, RZ.iZipA, iRng1, iRng2, cAbs, List.map_cons, List.map_nil, List.length_cons, List.length_nil, List.replicate, List.cons_append, List.nil_append, List.getElem?_cons_zero, List.getElem?_cons_succ, List.getElem?_nil, List.set_cons_zero, List.set_cons_succ, Nat.reduceAdd, Nat.reduceSub, Nat.zero_add, if_true, if_false, reduceIte, reduceCtorEq, Bool.false_eq_true, decide_eq_true_eq, tDrop, cMin2, cJoin, iList, tDNewK, tLc_eq, iStr, wipe])
      exact q _ Ext.rf
    | int j =>
      (try simp only [tSeq, tNext, tIfS, tFor_eq, cBl, tOp, tC, cI, cIc, cAdd, cVar, hEq, hNe, hIn, hNotIn, hLen, hSl, tM1, tBM, cT1, cT1f, cFind3, cSplit, cPart, rNewStrs, hIsS, hTru, tAsg, gName, gSub, tRet, tRetN, tCons, tNil, tTup, tLst, tCB, tNot, tAnd, tNotV, tAndV, tOrV, tOr, V.bl.injEq, V.int.injEq, V.str.injEq, exists_eq_left', exists_eq_left, exists_eq', true_and, and_true, cIsN, L2.start, gTup, gCons, gNil, nox_K, cx_K, tCallF, tSl, tPart, tNoPart, iEnum, RZ.iZipA, iRng1, iRng2, cAbs, List.map_cons, List.map_nil, List.length_cons, List.length_nil, List.replicate, List.cons_append, List.nil_append, List.getElem?_cons_zero, List.getElem?_cons_succ, List.getElem?_nil, List.set_cons_zero, List.set_cons_succ, Nat.reduceAdd, Nat.reduceSub, Nat.zero_add, if_true, if_false, reduceIte, reduceCtorEq, Bool.false_eq_true, decide_eq_true_eq, tDrop, cMin2, cJoin, iList, tDNewK, tLc_eq, iStr, wipe])
      exact q _ Ext.rf
    | ref p =>
      obtain ⟨xs, ha | ha⟩ := ha
      · (try simp only [tSeq, tNext, tIfS, tFor_eq, cBl, tOp, tC, cI, cIc, cAdd, cVar, hEq, hNe, hIn, hNotIn, hLen, hSl, tM1, tBM, cT1, cT1f, cFind3, cSplit, cPart, rNewStrs, hIsS, hTru, tAsg, gName, gSub, tRet, tRetN, tCons, tNil, tTup, tLst, tCB, tNot, tAnd, tNotV, tAndV, tOrV, tOr, V.bl.injEq, V.int.injEq, V.str.injEq, exists_eq_left', exists_eq_left, exists_eq', true_and, and_true, cIsN, L2.start, gTup, gCons, gNil, nox_K, cx_K, tCallF, tSl, tPart, tNoPart, iEnum, RZ.iZipA, iRng1, iRng2, cAbs, List.map_cons, List.map_nil, List.length_cons, List.length_nil, List.replicate, List.cons_append, List.nil_append, List.getElem?_cons_zero, List.getElem?_cons_succ, List.getElem?_nil, List.set_cons_zero, List.set_cons_succ, Nat.reduceAdd, Nat.reduceSub, Nat.zero_add, if_true, if_false, reduceIte, reduceCtorEq, Bool.false_eq_true, decide_eq_true_eq, tDrop, cMin2, cJoin, iList, tDNewK, tLc_eq, iStr, wipe])
        simp only [ha]
        (try simp only [tSeq, tNext, tIfS, tFor_eq, cBl, tOp, tC, cI, cIc, cAdd, cVar, hEq, hNe, hIn, hNotIn, hLen, hSl, tM1, tBM, cT1, cT1f, cFind3, cSplit, cPart, rNewStrs, hIsS, hTru, tAsg, gName, gSub, tRet, tRetN, tCons, tNil, tTup, tLst, tCB, tNot, tAnd, tNotV, tAndV, tOrV, tOr, V.bl.injEq, V.int.injEq, V.str.injEq, exists_eq_left', exists_eq_left, exists_eq', true_and, and_true, cIsN, L2.start, gTup, gCons, gNil, nox_K, cx_K, tCallF, tSl, tPart, tNoPart, iEnum, RZ.iZipA, iRng1, iRng2, cAbs, List.map_cons, List.map_nil, List.length_cons, List.length_nil, List.replicate, List.cons_append, List.nil_append, List.getElem?_cons_zero, List.getElem?_cons_succ, List.getElem?_nil, List.set_cons_zero, List.set_cons_succ, Nat.reduceAdd, Nat.reduceSub, Nat.zero_add, if_true, if_false, reduceIte, reduceCtorEq, Bool.false_eq_true, decide_eq_true_eq, tDrop, cMin2, cJoin, iList, tDNewK, tLc_eq, iStr, wipe])
        exact q _ Ext.rf
      · (try simp only [tSeq, tNext, tIfS, tFor_eq, cBl, tOp, tC, cI, cIc, cAdd, cVar, hEq, hNe, hIn, hNotIn, hLen, hSl, tM1, tBM, cT1, cT1f, cFind3, cSplit, cPart, rNewStrs, hIsS, hTru, tAsg, gName, gSub, tRet, tRetN, tCons, tNil, tTup, tLst, tCB, tNot, tAnd, tNotV, tAndV, tOrV, tOr, V.bl.injEq, V.int.injEq, V.str.injEq, exists_eq_left', exists_eq_left, exists_eq', true_and, and_true, cIsN, L2.start, gTup, gCons, gNil, nox_K, cx_K, tCallF, tSl, tPart, tNoPart, iEnum, RZ.iZipA, iRng1, iRng2, cAbs, List.map_cons, List.map_nil, List.length_cons, List.length_nil, List.replicate, List.cons_append, List.nil_append, List.getElem?_cons_zero, List.getElem?_cons_succ, List.getElem?_nil, List.set_cons_zero, List.set_cons_succ, Nat.reduceAdd, Nat.reduceSub, Nat.zero_add, if_true, if_false, reduceIte, reduceCtorEq, Bool.false_eq_true, decide_eq_true_eq, tDrop, cMin2, cJoin, iList, tDNewK, tLc_eq, iStr, wipe])
        simp only [ha]
        (try simp only [tSeq, tNext, tIfS, tFor_eq, cBl, tOp, tC, cI, cIc, cAdd, cVar, hEq, hNe, hIn, hNotIn, hLen, hSl, tM1, tBM, cT1, cT1f, cFind3, cSplit, cPart, rNewStrs, hIsS, hTru, tAsg, gName, gSub, tRet, tRetN, tCons, tNil, tTup, tLst, tCB, tNot, tAnd, tNotV, tAndV, tOrV, tOr, V.bl.injEq, V.int.injEq, V.str.injEq, exists_eq_left', exists_eq_left, exists_eq', true_and, and_true, cIsN, L2.start, gTup, gCons, gNil, nox_K, cx_K, tCallF, tSl, tPart, tNoPart, iEnum, RZ.iZipA, iRng1, iRng2, cAbs, List.map_cons, List.map_nil, List.length_cons, List.length_nil, List.replicate, List.cons_append, List.nil_append, List.getElem?_cons_zero, List.getElem?_cons_succ, List.getElem?_nil, List.set_cons_zero, List.set_cons_succ, Nat.reduceAdd, Nat.reduceSub, Nat.zero_add, if_true, if_false, reduceIte, reduceCtorEq, Bool.false_eq_true, decide_eq_true_eq, tDrop, cMin2, cJoin, iList, tDNewK, tLc_eq, iStr, wipe])
        exact q _ Ext.rf
    | _ => exact ha.elim
theorem ok__is_possible (c : Ct w K mg) : OkF P w K mg base CX0 1 (He.ga K "_is_possible") ["scheme", "host", "path"] (spPoss) := by
  obtain ⟨fd, F⟩ := F__is_possible c
  refine ⟨fd, F.ok sc__is_possible (fun vs H Q E h => ?_) (fun cdv A outer s H vs Q E hr h => ⟨_, PSs.nox ((pss_cons (ps_if (ctc co_notN (cv 1) pe_non (by rfl)) (pss_one (ps_ret (pe_or (pe_cmpR (ho_eq (hu64 hr)) (cv 2) pe_str (by rfl)) (pe_one (pe_m1 PySem.F.slot_str_startswith PySem.F.type_str_startswith cm_startswith (cv 2) pe_str))))) pss_nil) (pss_cons (ps_if (ct (pe_m1 PySem.F.slot_str_startswith PySem.F.type_str_startswith cm_startswith (cv 2) pe_str)) (pss_one (ps_ret pe_bl)) pss_nil) (pss_one (ps_ret (pe_or (pe_cmpR co_notN (cv 0) pe_non (by rfl)) (pe_one (pe_cmpR ho_notIn pe_str (hix (pe_m1 PySem.F.slot_str_partition PySem.F.type_str_partition cm_partition (cv 2) pe_str) pe_int) (by rfl))))))))), ?_⟩), F.bindsN fun _ _ _ _ _ _ us hl => match us, hl with | [_, _, _], _ => rfl⟩
  · unfold spPoss at h
    split at h
    · rfl
    · exact h.elim
  · unfold spPoss at h
    split at h
    case h_2 => exact h.elim
    rename_i s0 h p
    obtain ⟨hs, hh, hp, q⟩ := h
    have sl := sl
    have w1 := sw_lit (x := p) (y := Str.ofString "/") (S := [47]) (by decide +kernel) (by decide)
    have w2 := sw_lit (x := p) (y := Str.ofString "//") (S := [47, 47]) (by decide +kernel) (by decide)
    have ee := tl_emp p
    simp only [List.length_cons, List.length_nil, Nat.zero_add, Nat.reduceAdd] at w1 w2
    (try simp only [tSeq, tNext, tIfS, tFor_eq, cBl, tOp, tC, cI, cIc, cAdd, cVar, hEq, hNe, hIn, hNotIn, hLen, hSl, tM1, tBM, cT1, cT1f, cFind3, cSplit, cPart, rNewStrs, hIsS, hTru, tAsg, gName, gSub, tRet, tRetN, tCons, tNil, tTup, tLst, tCB, tNot, tAnd, tNotV, tAndV, tOrV, tOr, V.bl.injEq, V.int.injEq, V.str.injEq, exists_eq_left', exists_eq_left, exists_eq', true_and, and_true, cIsN, L2.start, gTup, gCons, gNil, nox_K, cx_K, tCallF, tSl, tPart, tNoPart, iEnum, RZ.iZipA, iRng1, iRng2, cAbs, List.map_cons, List.map_nil, List.length_cons, List.length_nil, List.replicate, List.cons_append, List.nil_append, List.getElem?_cons_zero, List.getElem?_cons_succ, List.getElem?_nil, List.set_cons_zero, List.set_cons_succ, Nat.reduceAdd, Nat.reduceSub, Nat.zero_add, if_true, if_false, reduceIte, reduceCtorEq, Bool.false_eq_true, decide_eq_true_eq, tDrop, cMin2, cJoin, iList, tDNewK, tLc_eq, iStr, wipe])
    unfold poss at q
    rw [w1, w2]
    cases eh : isNo h with
    | false =>
      have eh' : decide (h = V.non) = false := eh
      rw [if_pos (by rw [eh']; rfl)]
      rw [eh, if_pos rfl, ← ee] at q
      by_cases he : p = Str.ofString ""
      · rw [if_pos he]
        rw [decide_eq_true he] at q
        exact q _ Ext.rf
      · rw [if_neg he]
        rw [decide_eq_false he, Bool.false_or] at q
        exact q _ Ext.rf
    | true =>
      have eh' : decide (h = V.non) = true := eh
      rw [if_neg (by rw [eh']; decide)]
      rw [eh, if_neg (by decide)] at q
      by_cases hd : List.take 2 (tl p) = [47, 47]
      · rw [if_pos (decide_eq_true hd)]
        rw [if_pos hd] at q
        exact q _ Ext.rf
      · rw [if_neg (fun z => hd (of_decide_eq_true z))]
        rw [if_neg hd] at q
        cases es : isNo s0 with
        | false =>
          have es' : decide (s0 = V.non) = false := es
          rw [if_pos (by rw [es']; rfl)]
          rw [es] at q
          exact q _ Ext.rf
        | true =>
          have es' : decide (s0 = V.non) = true := es
          rw [if_neg (by rw [es']; decide)]
          rw [es] at q
          refine ⟨by decide, by omega, fun r hr => ?_⟩
          refine hIx_tup upd_self (atI_zero _ _) ?_
          dsimp only
          have hc := (part_cut p 47).1
          rw [slash_one] at *
          rw [colon_one, isIn_one, hc]
          exact q _ (Ext.rf.fresh hr)
end
end Da
set_option Elab.async false
set_option linter.all false
set_option maxRecDepth 100000
set_option maxHeartbeats 4000000
namespace Da
open PySem PySem.Spec PyProof.Rows L2 Hd Xs Fx Mi ClX Xr
open TL (tl)
section
variable {P : Program} {w : World} {K : PySem.W.Frag} {mg : Str → Option Value} {base : Heap}
/-! ### the error -/
def spEI (f : Str) (C : Addr) : Sp := fun vs H Q _ => match vs with
  | [.ref a, y] => H a = some (exo a C none) ∧ ∀ dx, H dx = none → dx ≠ a → Q .non (upd (upd H dx (exd dx [(f, y)])) a (exo a C (some dx)))
  | _ => False
theorem ok_BadPart___init__ (c : Ct w K mg) : OkF P w K mg base CX0 1 (He.ma K (He.ga K "BadPart") "__init__") ["self", "name"] (spEI "name" (He.ga K "BadPart")) := by
  obtain ⟨fd, F⟩ := F_BadPart___init__ c
  refine ⟨fd, F.ok sc_BadPart___init__ (fun vs H Q E h => ?_) (fun cdv A outer s H vs Q E hr h => ⟨_, PSs.nox (pss_one (ps_ost (cv 0) (cv 1))), ?_⟩), F.bindsN fun _ _ _ _ _ _ us hl => match us, hl with | [_, _], _ => rfl⟩
  · unfold spEI at h
    split at h
    · rfl
    · exact h.elim
  · unfold spEI at h
    split at h
    case h_2 => exact h.elim
    rename_i a y
    obtain ⟨ha, q⟩ := h
    unfold tOst
    (try simp only [tSeq, tNext, tIfS, tFor_eq, cBl, tOp, tC, cI, cIc, cAdd, cVar, hEq, hNe, hIn, hNotIn, hLen, hSl, tM1, tBM, cT1, cT1f, cFind3, cSplit, cPart, rNewStrs, hIsS, hTru, tAsg, gName, gSub, tRet, tRetN, tCons, tNil, tTup, tLst, tCB, tNot, tAnd, tNotV, tAndV, tOrV, tOr, V.bl.injEq, V.int.injEq, V.str.injEq, exists_eq_left', exists_eq_left, exists_eq', true_and, and_true, cIsN, L2.start, gTup, gCons, gNil, nox_K, cx_K, tCallF, tSl, tPart, tNoPart, iEnum, RZ.iZipA, iRng1, iRng2, cAbs, List.map_cons, List.map_nil, List.length_cons, List.length_nil, List.replicate, List.cons_append, List.nil_append, List.getElem?_cons_zero, List.getElem?_cons_succ, List.getElem?_nil, List.set_cons_zero, List.set_cons_succ, Nat.reduceAdd, Nat.reduceSub, Nat.zero_add, if_true, if_false, reduceIte, reduceCtorEq, Bool.false_eq_true, decide_eq_true_eq, tDrop, cMin2, cJoin, iList, tDNewK, tLc_eq, iStr, wipe])
    exact ⟨a, He.ga K "BadPart", rfl, oex_BadPart c, noat_BadPart_name c, .inl ⟨ha, q⟩⟩
/-! ### the instance -/
def spInit : Sp := fun vs H Q _ => match vs with
  | [.ref a, y] => ∃ dx, H a = some (.ins (He.ga K "Url") dx []) ∧ Q .non (upd H a (.ins (He.ga K "Url") dx [("_parts", y)]))
  | _ => False
theorem ok_Url___init__ (c : Ct w K mg) : OkF P w K mg base CX0 1 (He.ma K (He.ga K "Url") "__init__") ["self", "parts"] (spInit (K := K)) := by
  obtain ⟨fd, F⟩ := F_Url___init__ c
  refine ⟨fd, F.ok sc_Url___init__ (fun vs H Q E h => ?_) (fun cdv A outer s H vs Q E hr h => ⟨_, PSs.nox ((pss_one (ps_fld (cv 0) (cv 1) (by rfl)))), ?_⟩), F.bindsN fun _ _ _ _ _ _ us hl => match us, hl with | [_, _], _ => rfl⟩
  · unfold spInit at h
    split at h
    · rfl
    · exact h.elim
  · unfold spInit at h
    split at h
    case h_2 => exact h.elim
    rename_i a y
    obtain ⟨dx, ha, q⟩ := h
    unfold sFld
    (try simp only [tSeq, tNext, tIfS, tFor_eq, cBl, tOp, tC, cI, cIc, cAdd, cVar, hEq, hNe, hIn, hNotIn, hLen, hSl, tM1, tBM, cT1, cT1f, cFind3, cSplit, cPart, rNewStrs, hIsS, hTru, tAsg, gName, gSub, tRet, tRetN, tCons, tNil, tTup, tLst, tCB, tNot, tAnd, tNotV, tAndV, tOrV, tOr, V.bl.injEq, V.int.injEq, V.str.injEq, exists_eq_left', exists_eq_left, exists_eq', true_and, and_true, cIsN, L2.start, gTup, gCons, gNil, nox_K, cx_K, tCallF, tSl, tPart, tNoPart, iEnum, RZ.iZipA, iRng1, iRng2, cAbs, List.map_cons, List.map_nil, List.length_cons, List.length_nil, List.replicate, List.cons_append, List.nil_append, List.getElem?_cons_zero, List.getElem?_cons_succ, List.getElem?_nil, List.set_cons_zero, List.set_cons_succ, Nat.reduceAdd, Nat.reduceSub, Nat.zero_add, if_true, if_false, reduceIte, reduceCtorEq, Bool.false_eq_true, decide_eq_true_eq, tDrop, cMin2, cJoin, iList, tDNewK, tLc_eq, iStr, wipe])
    exact ⟨a, _, dx, [], rfl, ha, cls_Url c, noat_Url__parts c, by decide, q⟩
end
end Da
set_option Elab.async false
set_option linter.all false
set_option maxRecDepth 100000
set_option maxHeartbeats 4000000
namespace Da
open PySem PySem.Spec PyProof.Rows L2 Hd Xs Fx Mi ClX Xr
open TL (tl)
abbrev uC (K : PySem.W.Frag) : Addr := He.ga K "Url"
/-- the first part that is none -/
def dueF : Nat → List V → Option Str
  | _, [] => none
  | i, v :: r => if isP i v = true then dueF (i + 1) r else NM[i]?
def due2 (vs : List V) : Option Str := match vs with
  | [s, u, h, p, .str l, _, _] => if isNo h = true ∧ isNo u = false then some "user" else if isNo h = true ∧ isNo p = false then some "port" else if poss (isNo s) (isNo h) (tl l) = false then some "path" else none
  | _ => none
def dueV (vs : List V) : Option Str := match dueF 0 vs with
  | some n => some n
  | none => due2 vs
/-- a URL with these parts, at a -/
def UrlAt (K : PySem.W.Frag) (H : Hp) (a : Addr) (vs : List V) : Prop := ∃ dx T, H a = some (.ins (uC K) dx [("_parts", .ref T)]) ∧ H T = some (.tup vs)
def spOf (K : PySem.W.Frag) : Sp := fun vs H Q E => match vs with
  | [.ref cl, a0, a1, a2, a3, a4, a5, a6] => cl = uC K ∧ (∀ v ∈ [a0, a1, a2, a3, a4, a5, a6], AV H v) ∧
    (match dueV [a0, a1, a2, a3, a4, a5, a6] with
    | none => ∀ a H', Ext H H' → UrlAt K H' a [a0, a1, a2, a3, a4, a5, a6] → H a = none → Q (.ref a) H'
    | some n => ∀ d H', Ext H H' → H' d = some (.xd [("name", .str n)]) → E (.ref (He.ga K "BadPart")) (some d) H')
  | _ => False
def ofDfl : List (Str × V) := [("scheme", .non), ("user", .non), ("host", .non), ("port", .non), ("path", .str ""), ("query", .non), ("fragment", .non)]
def OkKw (P : Program) (w : World) (K : PySem.W.Frag) (mg : Str → Option Value) (base : Heap) (CX : CXT) (k : Nat) (f : Addr) (c : Str) (dfl : List (Str × V)) (sp : Sp) : Prop := ∃ fd, FnOk P w K mg base CX k f fd (c :: dfl.map (·.1)) sp ∧ KwB K fd c dfl
theorem ei_ok {C : Addr} {f : Str} {y : V} {H : Hp} {Q E' : XK} (q : ∀ d H', Ext H H' → H' d = some (.xd [(f, y)]) → Q (.ref C) (some d) H') (a : Addr) (ha : H a = none) :
    spEI f C [.ref a, y] (upd H a (exo a C none)) (fun v H2 => v = .non ∧ ∃ (d : Addr) (fs : List (Str × V)), H2 a = some (exo a C (some d)) ∧ H2 d = some (exd d fs) ∧ H d = none ∧ Q (.ref C) (some d) (upd (del H2 a) d (.xd fs))) E' := by
  refine ⟨upd_self, fun dx hdx hne => ⟨rfl, dx, [(f, y)], upd_self, ?_, ?_, q dx _ ?_ upd_self⟩⟩
  · rw [upd_ne hne]; exact upd_self
  · rw [upd_ne hne] at hdx; exact hdx
  · intro p o hp
    rw [upd_ne hne] at hdx
    have n1 : p ≠ a := fun e => by subst e; rw [ha] at hp; cases hp
    have n2 : p ≠ dx := fun e => by subst e; rw [hdx] at hp; cases hp
    rw [upd_ne n2, del_ne n1, upd_ne n1, upd_ne n2, upd_ne n1]
    exact hp
theorem mk_ok {K : PySem.W.Frag} {y : V} {H : Hp} {Q : VK} {E : XK} (q : ∀ x dx H', Ext H H' → H' x = some (.ins (uC K) dx [("_parts", y)]) → H x = none → Q (.ref x) H') (x dx : Addr) (hx : H x = none) (hdx : H dx = none) (hne : dx ≠ x) :
    spInit (K := K) [.ref x, y] (upd (upd H dx (.own x)) x (.ins (uC K) dx [])) (fun v H2 => v = .non ∧ Q (.ref x) H2) E := by
  refine ⟨dx, upd_self, rfl, q x dx _ ?_ upd_self hx⟩
  intro p o hp
  have n1 : p ≠ x := fun e => by subst e; rw [hx] at hp; cases hp
  have n2 : p ≠ dx := fun e => by subst e; rw [hdx] at hp; cases hp
  rw [upd_ne n1, upd_ne n1, upd_ne n2]
  exact hp
theorem dueF_none : ∀ (l : List V) (i : Nat), i + l.length ≤ 7 → dueF i l = none → ∀ (j : Nat) (v : V), l[j]? = some v → isP (i + j) v = true
  | [], _, _, _, j, v, h => by simp at h
  | x :: r, i, hl, hd, j, v, h => by
    have hd' : (if isP i x = true then dueF (i + 1) r else NM[i]?) = none := hd
    simp only [List.length_cons] at hl
    cases hp : isP i x with
    | false =>
      rw [hp, if_neg (by decide)] at hd'
      have : i < NM.length := by show i < 7; omega
      rw [List.getElem?_eq_getElem this] at hd'
      cases hd'
    | true =>
      rw [hp, if_pos rfl] at hd'
      cases j with
      | zero => cases h; exact hp
      | succ j =>
        have := dueF_none r (i + 1) (by omega) hd' j v (by simpa using h)
        rw [show i + 1 + j = i + (j + 1) by omega] at this
        exact this
theorem isP_NT {i : Nat} {v : V} (h : isP i v = true) : NT v := by
  unfold isP at h
  split at h
  · exact .inl rfl
  · exact .inr ⟨_, rfl⟩
  · cases h
theorem isP_path {v : V} (h : isP 4 v = true) : ∃ t, v = .str t := by
  unfold isP at h
  split at h
  · cases h
  · exact ⟨_, rfl⟩
  · cases h
theorem dueF_cons (i : Nat) (v : V) (r : List V) : dueF i (v :: r) = if isP i v = true then dueF (i + 1) r else NM[i]? := rfl
section
variable {P : Program} {w : World} {K : PySem.W.Frag} {mg : Str → Option Value} {base : Heap}
theorem ok_Url_of (c : Ct w K mg) : OkKw P w K mg base (L2.CX P w) 6 (He5.wf K (uC K) "classmethod" "of") "cls" ofDfl (spOf K) := by
  obtain ⟨fd, F⟩ := F_Url_of c
  refine ⟨fd, F.ok sc_Url_of (fun vs H Q E h => ?_) (fun cdv A outer s H vs Q E hr h => ⟨_, ((pss_cons (ps_set (i := 8) (sc_Url_of).nd rfl (Or.inl rfl) (pe_tup (pa_cons (cv 1) (pa_cons (cv 2) (pa_cons (cv 3) (pa_cons (cv 4) (pa_cons (cv 5) (pa_cons (cv 6) (pa_cons (cv 7) pa_nil))))))))) (pss_cons (ps_for (passes_of rfl) rfl (RZ.pi_zipA rfl (b_zip c) (pa_cons (pe_cval (cv 0)) (pa_cons (cv 8) pa_nil))) (pg_tup (n := 2) rfl (pgs_cons (pg_name (i := 9) (sc_Url_of).nd rfl (Or.inl rfl)) (pgs_cons (pg_name (i := 10) (sc_Url_of).nd rfl (Or.inl rfl)) pgs_nil))) (pss_one (ps_if (pt_not (ct (pf (ok__is_part c) (hr.mono (by decide)) (g__is_part c) (k__is_part c) pass0 (pa_cons (cv 9) (pa_cons (cv 10) pa_nil))))) (pss_one (ps_raise rfl (takes_of rfl rfl rfl rfl) (pmk_oex (oex_BadPart c) (ini_BadPart c).1 (ini_BadPart c).2 (ok_BadPart___init__ c).choose_spec.1 (hr.mono (by decide)) (ok_BadPart___init__ c).choose_spec.2 .nil pass0 rfl (g_BadPart c) (pa_cons (cv 9) pa_nil)))) pss_nil))) (pss_cons (ps_if (PW.pt (pw_and (ctc co_isN (cv 3) pe_non (by rfl)) (pw_and1 (ctc co_notN (cv 2) pe_non (by rfl))))) (pss_one (ps_raise rfl (takes_of rfl rfl rfl rfl) (pmk_oex (oex_BadPart c) (ini_BadPart c).1 (ini_BadPart c).2 (ok_BadPart___init__ c).choose_spec.1 (hr.mono (by decide)) (ok_BadPart___init__ c).choose_spec.2 .nil pass0 rfl (g_BadPart c) (pa_cons pe_str pa_nil)))) pss_nil) (pss_cons (ps_if (PW.pt (pw_and (ctc co_isN (cv 3) pe_non (by rfl)) (pw_and1 (ctc co_notN (cv 4) pe_non (by rfl))))) (pss_one (ps_raise rfl (takes_of rfl rfl rfl rfl) (pmk_oex (oex_BadPart c) (ini_BadPart c).1 (ini_BadPart c).2 (ok_BadPart___init__ c).choose_spec.1 (hr.mono (by decide)) (ok_BadPart___init__ c).choose_spec.2 .nil pass0 rfl (g_BadPart c) (pa_cons pe_str pa_nil)))) pss_nil) (pss_cons (ps_if (pt_not (ct (pf (ok__is_possible c) (hr.mono (by decide)) (g__is_possible c) (k__is_possible c) pass0 (pa_cons (cv 1) (pa_cons (cv 3) (pa_cons (cv 5) pa_nil)))))) (pss_one (ps_raise rfl (takes_of rfl rfl rfl rfl) (pmk_oex (oex_BadPart c) (ini_BadPart c).1 (ini_BadPart c).2 (ok_BadPart___init__ c).choose_spec.1 (hr.mono (by decide)) (ok_BadPart___init__ c).choose_spec.2 .nil pass0 rfl (g_BadPart c) (pa_cons pe_str pa_nil)))) pss_nil) (pss_one (ps_ret (pe_makeV (i := 0) (mkr_Url c) (ok_Url___init__ c).r (hr.mono (by decide)) pass0 (pa_cons (cv 8) pa_nil)))))))))), ?_⟩), kwB_of F (by decide) (by rfl) (by rfl) (by rfl) (by rfl) (by rfl) (by decide) (by decide)⟩
  · unfold spOf at h
    split at h
    · rfl
    · exact h.elim
  · unfold spOf at h
    split at h
    case h_2 => exact h.elim
    rename_i cl a0 a1 a2 a3 a4 a5 a6
    obtain ⟨rfl, ha, q⟩ := h
    have sl := sl
    refine seqStep ?_
    (try simp only [tNext, tFor_eq, cBl, tOp, tC, cI, cIc, cAdd, cVar, hEq, hNe, hIn, hNotIn, hLen, hSl, tM1, tBM, cT1, cT1f, cFind3, cSplit, cPart, rNewStrs, hIsS, hTru, tAsg, gName, gSub, tRet, tRetN, tCons, tNil, tTup, tLst, tCB, tNot, tAnd, tNotV, tAndV, tOrV, tOr, V.bl.injEq, V.int.injEq, V.str.injEq, exists_eq_left', exists_eq_left, exists_eq', true_and, and_true, cIsN, L2.start, gTup, gCons, gNil, nox_K, cx_K, tCallF, tSl, tPart, tNoPart, iEnum, RZ.iZipA, iRng1, iRng2, cAbs, List.map_cons, List.map_nil, List.length_cons, List.length_nil, List.replicate, List.cons_append, List.nil_append, List.getElem?_cons_zero, List.getElem?_cons_succ, List.getElem?_nil, List.set_cons_zero, List.set_cons_succ, Nat.reduceAdd, Nat.reduceSub, Nat.zero_add, if_true, if_false, reduceIte, reduceCtorEq, Bool.false_eq_true, decide_eq_true_eq, tDrop, cMin2, cJoin, iList, tDNewK, tLc_eq, iStr, wipe])
    refine ⟨by omega, fun T hT => ?_⟩
    have ha' : ∀ v ∈ [a0, a1, a2, a3, a4, a5, a6], ∀ {H'}, Ext H H' → AV H' v := fun v hv _ e => (ha v hv).ext e
    generalize hvs : [a0, a1, a2, a3, a4, a5, a6] = vs at *
    have hlen : vs.length = 7 := by rw [← hvs]; rfl
    have ext0 : Ext H (upd H T (.tup vs)) := Ext.rf.fresh hT
    refine seqCps (fun σ H' => ∃ u9 u10, σ = [some (.ref (uC K)), some a0, some a1, some a2, some a3, some a4, some a5, some a6, some (.ref T), u9, u10] ∧ Ext (upd H T (.tup vs)) H' ∧ dueF 0 vs = none) (fun Nx hN => ?_) ?_
    · (try simp only [tNext, tFor_eq, cBl, tOp, tC, cI, cIc, cAdd, cVar, hEq, hNe, hIn, hNotIn, hLen, hSl, tM1, tBM, cT1, cT1f, cFind3, cSplit, cPart, rNewStrs, hIsS, hTru, tAsg, gName, gSub, tRet, tRetN, tCons, tNil, tTup, tLst, tCB, tNot, tAnd, tNotV, tAndV, tOrV, tOr, V.bl.injEq, V.int.injEq, V.str.injEq, exists_eq_left', exists_eq_left, exists_eq', true_and, and_true, cIsN, L2.start, gTup, gCons, gNil, nox_K, cx_K, tCallF, tSl, tPart, tNoPart, iEnum, RZ.iZipA, iRng1, iRng2, cAbs, List.map_cons, List.map_nil, List.length_cons, List.length_nil, List.replicate, List.cons_append, List.nil_append, List.getElem?_cons_zero, List.getElem?_cons_succ, List.getElem?_nil, List.set_cons_zero, List.set_cons_succ, Nat.reduceAdd, Nat.reduceSub, Nat.zero_add, if_true, if_false, reduceIte, reduceCtorEq, Bool.false_eq_true, decide_eq_true_eq, tDrop, cMin2, cJoin, iList, tDNewK, tLc_eq, iStr, wipe])
      simp only [tCVal]
      (try simp only [tNext, tFor_eq, cBl, tOp, tC, cI, cIc, cAdd, cVar, hEq, hNe, hIn, hNotIn, hLen, hSl, tM1, tBM, cT1, cT1f, cFind3, cSplit, cPart, rNewStrs, hIsS, hTru, tAsg, gName, gSub, tRet, tRetN, tCons, tNil, tTup, tLst, tCB, tNot, tAnd, tNotV, tAndV, tOrV, tOr, V.bl.injEq, V.int.injEq, V.str.injEq, exists_eq_left', exists_eq_left, exists_eq', true_and, and_true, cIsN, L2.start, gTup, gCons, gNil, nox_K, cx_K, tCallF, tSl, tPart, tNoPart, iEnum, RZ.iZipA, iRng1, iRng2, cAbs, List.map_cons, List.map_nil, List.length_cons, List.length_nil, List.replicate, List.cons_append, List.nil_append, List.getElem?_cons_zero, List.getElem?_cons_succ, List.getElem?_nil, List.set_cons_zero, List.set_cons_succ, Nat.reduceAdd, Nat.reduceSub, Nat.zero_add, if_true, if_false, reduceIte, reduceCtorEq, Bool.false_eq_true, decide_eq_true_eq, tDrop, cMin2, cJoin, iList, tDNewK, tLc_eq, iStr, wipe])
      refine ⟨uC K, .type "type", _, _, rfl, read_Url c, cval_Url_PARTS c, _, _, _, vs, rfl, .inr ⟨tups_Url_PARTS c _, .inl (Rd.of upd_self), ?_⟩⟩
      refine lp_zipT (xs := NM.map V.str) (ys := vs) (by rw [List.length_map, hlen]; rfl) (fun k σ H' => ∃ u9 u10, σ = [some (.ref (uC K)), some a0, some a1, some a2, some a3, some a4, some a5, some a6, some (.ref T), u9, u10] ∧ Ext (upd H T (.tup vs)) H' ∧ dueF 0 vs = dueF k (vs.drop k)) ⟨_, _, rfl, Ext.rf, rfl⟩ ?_ ?_ ?_
      · rintro k σ H' ⟨u9, u10, _, he, _⟩
        exact ⟨tups_Url_PARTS c _, .inl (Rd.of (he _ _ upd_self))⟩
      · rintro k x y S σ H' hx hy ⟨u9, u10, rfl, he, hd⟩ hS
        have hk : k < 7 := by
          have := (List.getElem?_eq_some_iff.mp hy).1
          omega
        obtain ⟨n, hn, rfl⟩ : ∃ n, NM[k]? = some n ∧ V.str n = x := by
          have hx' : (NM.map V.str)[k]? = some x := hx
          rw [List.getElem?_map] at hx'
          cases e : NM[k]? with
          | none => rw [e] at hx'; cases hx'
          | some n => rw [e] at hx'; exact ⟨n, rfl, Option.some.inj hx'⟩
        have hdr : vs.drop k = y :: vs.drop (k + 1) := by
          obtain ⟨hk, e⟩ := List.getElem?_eq_some_iff.mp hy
          rw [List.drop_eq_getElem_cons hk, e]
        rw [hdr, dueF_cons] at hd
        (try simp only [tNext, tFor_eq, cBl, tOp, tC, cI, cIc, cAdd, cVar, hEq, hNe, hIn, hNotIn, hLen, hSl, tM1, tBM, cT1, cT1f, cFind3, cSplit, cPart, rNewStrs, hIsS, hTru, tAsg, gName, gSub, tRet, tRetN, tCons, tNil, tTup, tLst, tCB, tNot, tAnd, tNotV, tAndV, tOrV, tOr, V.bl.injEq, V.int.injEq, V.str.injEq, exists_eq_left', exists_eq_left, exists_eq', true_and, and_true, cIsN, L2.start, gTup, gCons, gNil, nox_K, cx_K, tCallF, tSl, tPart, tNoPart, iEnum, RZ.iZipA, iRng1, iRng2, cAbs, List.map_cons, List.map_nil, List.length_cons, List.length_nil, List.replicate, List.cons_append, List.nil_append, List.getElem?_cons_zero, List.getElem?_cons_succ, List.getElem?_nil, List.set_cons_zero, List.set_cons_succ, Nat.reduceAdd, Nat.reduceSub, Nat.zero_add, if_true, if_false, reduceIte, reduceCtorEq, Bool.false_eq_true, decide_eq_true_eq, tDrop, cMin2, cJoin, iList, tDNewK, tLc_eq, iStr, wipe])
        refine ⟨_, _, rfl, .inl (Rd.of upd_self), rfl, _, _, rfl, _, _, rfl, rfl, ?_⟩
        unfold tIfS
        (try simp only [tNext, tFor_eq, cBl, tOp, tC, cI, cIc, cAdd, cVar, hEq, hNe, hIn, hNotIn, hLen, hSl, tM1, tBM, cT1, cT1f, cFind3, cSplit, cPart, rNewStrs, hIsS, hTru, tAsg, gName, gSub, tRet, tRetN, tCons, tNil, tTup, tLst, tCB, tNot, tAnd, tNotV, tAndV, tOrV, tOr, V.bl.injEq, V.int.injEq, V.str.injEq, exists_eq_left', exists_eq_left, exists_eq', true_and, and_true, cIsN, L2.start, gTup, gCons, gNil, nox_K, cx_K, tCallF, tSl, tPart, tNoPart, iEnum, RZ.iZipA, iRng1, iRng2, cAbs, List.map_cons, List.map_nil, List.length_cons, List.length_nil, List.replicate, List.cons_append, List.nil_append, List.getElem?_cons_zero, List.getElem?_cons_succ, List.getElem?_nil, List.set_cons_zero, List.set_cons_succ, Nat.reduceAdd, Nat.reduceSub, Nat.zero_add, if_true, if_false, reduceIte, reduceCtorEq, Bool.false_eq_true, decide_eq_true_eq, tDrop, cMin2, cJoin, iList, tDNewK, tLc_eq, iStr, wipe])
        have he' := ext0.tr (he.fresh (o := .tup [.str n, y]) hS)
        refine ⟨k, hk, hn, ha' y (List.mem_of_getElem? hy) he', fun H2 he2 => ?_⟩
        (try simp only [tNext, tFor_eq, cBl, tOp, tC, cI, cIc, cAdd, cVar, hEq, hNe, hIn, hNotIn, hLen, hSl, tM1, tBM, cT1, cT1f, cFind3, cSplit, cPart, rNewStrs, hIsS, hTru, tAsg, gName, gSub, tRet, tRetN, tCons, tNil, tTup, tLst, tCB, tNot, tAnd, tNotV, tAndV, tOrV, tOr, V.bl.injEq, V.int.injEq, V.str.injEq, exists_eq_left', exists_eq_left, exists_eq', true_and, and_true, cIsN, L2.start, gTup, gCons, gNil, nox_K, cx_K, tCallF, tSl, tPart, tNoPart, iEnum, RZ.iZipA, iRng1, iRng2, cAbs, List.map_cons, List.map_nil, List.length_cons, List.length_nil, List.replicate, List.cons_append, List.nil_append, List.getElem?_cons_zero, List.getElem?_cons_succ, List.getElem?_nil, List.set_cons_zero, List.set_cons_succ, Nat.reduceAdd, Nat.reduceSub, Nat.zero_add, if_true, if_false, reduceIte, reduceCtorEq, Bool.false_eq_true, decide_eq_true_eq, tDrop, cMin2, cJoin, iList, tDNewK, tLc_eq, iStr, wipe])
        cases hp : isP k y with
        | true =>
          rw [hp, if_pos rfl] at hd
          rw [if_neg (by decide)]
          exact ⟨_, _, rfl, he.fresh hS |>.tr he2, hd⟩
        | false =>
          rw [hp, if_neg (by decide), hn] at hd
          rw [if_pos (show (!false) = true from rfl)]
          have hv : dueV vs = some n := by unfold dueV; rw [hd]
          rw [hv] at q
          unfold tMkO
          (try simp only [tNext, tFor_eq, cBl, tOp, tC, cI, cIc, cAdd, cVar, hEq, hNe, hIn, hNotIn, hLen, hSl, tM1, tBM, cT1, cT1f, cFind3, cSplit, cPart, rNewStrs, hIsS, hTru, tAsg, gName, gSub, tRet, tRetN, tCons, tNil, tTup, tLst, tCB, tNot, tAnd, tNotV, tAndV, tOrV, tOr, V.bl.injEq, V.int.injEq, V.str.injEq, exists_eq_left', exists_eq_left, exists_eq', true_and, and_true, cIsN, L2.start, gTup, gCons, gNil, nox_K, cx_K, tCallF, tSl, tPart, tNoPart, iEnum, RZ.iZipA, iRng1, iRng2, cAbs, List.map_cons, List.map_nil, List.length_cons, List.length_nil, List.replicate, List.cons_append, List.nil_append, List.getElem?_cons_zero, List.getElem?_cons_succ, List.getElem?_nil, List.set_cons_zero, List.set_cons_succ, Nat.reduceAdd, Nat.reduceSub, Nat.zero_add, if_true, if_false, reduceIte, reduceCtorEq, Bool.false_eq_true, decide_eq_true_eq, tDrop, cMin2, cJoin, iList, tDNewK, tLc_eq, iStr, wipe])
          exact ⟨by decide, ei_ok fun d H3 he3 hd3 => q d H3 ((he'.tr he2).tr he3) hd3⟩
      · rintro σ H' ⟨u9, u10, rfl, he, hd⟩
        refine hN _ _ ⟨_, _, rfl, he, ?_⟩
        rw [hd, List.length_map, List.drop_of_length_le (by rw [hlen]; decide)]
        rfl
    · rintro σ H1 ⟨u9, u10, rfl, he, hd⟩
      have heT := he _ _ upd_self
      have he := ext0.tr he
      have hv : dueV vs = due2 vs := by unfold dueV; rw [hd]
      rw [hv] at q
      have hal := dueF_none vs 0 (by rw [hlen]; decide) hd
      have h0 := hal 0 a0 (by rw [← hvs]; rfl)
      have h1 := hal 1 a1 (by rw [← hvs]; rfl)
      have h2 := hal 2 a2 (by rw [← hvs]; rfl)
      have h3 := hal 3 a3 (by rw [← hvs]; rfl)
      obtain ⟨l, rfl⟩ := isP_path (hal 4 a4 (by rw [← hvs]; rfl))
      have hl : l.length ≤ (100000 : Nat) := ha (.str l) (by rw [← hvs]; exact .tail _ (.tail _ (.tail _ (.tail _ (.head _)))))
      have n0 := isP_NT h0
      have n2 := isP_NT h2
      have e2 : due2 vs = (if isNo a2 = true ∧ isNo a1 = false then some ("user" : Str) else if isNo a2 = true ∧ isNo a3 = false then some ("port" : Str) else if poss (isNo a0) (isNo a2) (tl l) = false then some ("path" : Str) else none) := by rw [← hvs]; rfl
      rw [e2] at q
      refine seqCps (fun σ H' => σ = [some (.ref (uC K)), some a0, some a1, some a2, some a3, some (.str l), some a5, some a6, some (.ref T), u9, u10] ∧ H' = H1 ∧ ¬ (isNo a2 = true ∧ isNo a1 = false)) (fun Nx hN => ?_) ?_
      · (try simp only [tSeq, tNext, tIfS, tFor_eq, cBl, tOp, tC, cI, cIc, cAdd, cVar, hEq, hNe, hIn, hNotIn, hLen, hSl, tM1, tBM, cT1, cT1f, cFind3, cSplit, cPart, rNewStrs, hIsS, hTru, tAsg, gName, gSub, tRet, tRetN, tCons, tNil, tTup, tLst, tCB, tNot, tAnd, tNotV, tAndV, tOrV, tOr, V.bl.injEq, V.int.injEq, V.str.injEq, exists_eq_left', exists_eq_left, exists_eq', true_and, and_true, cIsN, L2.start, gTup, gCons, gNil, nox_K, cx_K, tCallF, tSl, tPart, tNoPart, iEnum, RZ.iZipA, iRng1, iRng2, cAbs, List.map_cons, List.map_nil, List.length_cons, List.length_nil, List.replicate, List.cons_append, List.nil_append, List.getElem?_cons_zero, List.getElem?_cons_succ, List.getElem?_nil, List.set_cons_zero, List.set_cons_succ, Nat.reduceAdd, Nat.reduceSub, Nat.zero_add, if_true, if_false, reduceIte, reduceCtorEq, Bool.false_eq_true, decide_eq_true_eq, tDrop, cMin2, cJoin, iList, tDNewK, tLc_eq, iStr, wipe])
        by_cases hc : isNo a2 = true ∧ isNo a1 = false
        · have hc1 : a2 = V.non := of_decide_eq_true hc.1
          have hc2 : ¬ a1 = V.non := of_decide_eq_false hc.2
          rw [if_pos hc] at q
          rw [if_pos hc1, if_pos (by rw [decide_eq_false hc2]; rfl)]
          unfold tMkO
          (try simp only [tNext, tFor_eq, cBl, tOp, tC, cI, cIc, cAdd, cVar, hEq, hNe, hIn, hNotIn, hLen, hSl, tM1, tBM, cT1, cT1f, cFind3, cSplit, cPart, rNewStrs, hIsS, hTru, tAsg, gName, gSub, tRet, tRetN, tCons, tNil, tTup, tLst, tCB, tNot, tAnd, tNotV, tAndV, tOrV, tOr, V.bl.injEq, V.int.injEq, V.str.injEq, exists_eq_left', exists_eq_left, exists_eq', true_and, and_true, cIsN, L2.start, gTup, gCons, gNil, nox_K, cx_K, tCallF, tSl, tPart, tNoPart, iEnum, RZ.iZipA, iRng1, iRng2, cAbs, List.map_cons, List.map_nil, List.length_cons, List.length_nil, List.replicate, List.cons_append, List.nil_append, List.getElem?_cons_zero, List.getElem?_cons_succ, List.getElem?_nil, List.set_cons_zero, List.set_cons_succ, Nat.reduceAdd, Nat.reduceSub, Nat.zero_add, if_true, if_false, reduceIte, reduceCtorEq, Bool.false_eq_true, decide_eq_true_eq, tDrop, cMin2, cJoin, iList, tDNewK, tLc_eq, iStr, wipe])
          exact ⟨by decide, ei_ok fun d H3 he3 hd3 => q d H3 (he.tr he3) hd3⟩
        · have := hN _ _ ⟨rfl, rfl, hc⟩
          by_cases hc1 : a2 = V.non
          · rw [if_pos hc1]
            by_cases hc2 : a1 = V.non
            · rw [if_neg (by rw [decide_eq_true hc2]; decide)]
              exact this
            · exact absurd ⟨decide_eq_true hc1, decide_eq_false hc2⟩ hc
          · rw [if_neg hc1]
            exact this
      rintro σ H2 ⟨rfl, rfl, hn1⟩
      rw [if_neg hn1] at q
      refine seqCps (fun σ H' => σ = [some (.ref (uC K)), some a0, some a1, some a2, some a3, some (.str l), some a5, some a6, some (.ref T), u9, u10] ∧ H' = H2 ∧ ¬ (isNo a2 = true ∧ isNo a3 = false)) (fun Nx hN => ?_) ?_
      · (try simp only [tSeq, tNext, tIfS, tFor_eq, cBl, tOp, tC, cI, cIc, cAdd, cVar, hEq, hNe, hIn, hNotIn, hLen, hSl, tM1, tBM, cT1, cT1f, cFind3, cSplit, cPart, rNewStrs, hIsS, hTru, tAsg, gName, gSub, tRet, tRetN, tCons, tNil, tTup, tLst, tCB, tNot, tAnd, tNotV, tAndV, tOrV, tOr, V.bl.injEq, V.int.injEq, V.str.injEq, exists_eq_left', exists_eq_left, exists_eq', true_and, and_true, cIsN, L2.start, gTup, gCons, gNil, nox_K, cx_K, tCallF, tSl, tPart, tNoPart, iEnum, RZ.iZipA, iRng1, iRng2, cAbs, List.map_cons, List.map_nil, List.length_cons, List.length_nil, List.replicate, List.cons_append, List.nil_append, List.getElem?_cons_zero, List.getElem?_cons_succ, List.getElem?_nil, List.set_cons_zero, List.set_cons_succ, Nat.reduceAdd, Nat.reduceSub, Nat.zero_add, if_true, if_false, reduceIte, reduceCtorEq, Bool.false_eq_true, decide_eq_true_eq, tDrop, cMin2, cJoin, iList, tDNewK, tLc_eq, iStr, wipe])
        by_cases hc : isNo a2 = true ∧ isNo a3 = false
        · have hc1 : a2 = V.non := of_decide_eq_true hc.1
          have hc2 : ¬ a3 = V.non := of_decide_eq_false hc.2
          rw [if_pos hc] at q
          rw [if_pos hc1, if_pos (by rw [decide_eq_false hc2]; rfl)]
          unfold tMkO
          (try simp only [tNext, tFor_eq, cBl, tOp, tC, cI, cIc, cAdd, cVar, hEq, hNe, hIn, hNotIn, hLen, hSl, tM1, tBM, cT1, cT1f, cFind3, cSplit, cPart, rNewStrs, hIsS, hTru, tAsg, gName, gSub, tRet, tRetN, tCons, tNil, tTup, tLst, tCB, tNot, tAnd, tNotV, tAndV, tOrV, tOr, V.bl.injEq, V.int.injEq, V.str.injEq, exists_eq_left', exists_eq_left, exists_eq', true_and, and_true, cIsN, L2.start, gTup, gCons, gNil, nox_K, cx_K, tCallF, tSl, tPart, tNoPart, iEnum, RZ.iZipA, iRng1, iRng2, cAbs, List.map_cons, List.map_nil, List.length_cons, List.length_nil, List.replicate, List.cons_append, List.nil_append, List.getElem?_cons_zero, List.getElem?_cons_succ, List.getElem?_nil, List.set_cons_zero, List.set_cons_succ, Nat.reduceAdd, Nat.reduceSub, Nat.zero_add, if_true, if_false, reduceIte, reduceCtorEq, Bool.false_eq_true, decide_eq_true_eq, tDrop, cMin2, cJoin, iList, tDNewK, tLc_eq, iStr, wipe])
          exact ⟨by decide, ei_ok fun d H3 he3 hd3 => q d H3 (he.tr he3) hd3⟩
        · have := hN _ _ ⟨rfl, rfl, hc⟩
          by_cases hc1 : a2 = V.non
          · rw [if_pos hc1]
            by_cases hc2 : a3 = V.non
            · rw [if_neg (by rw [decide_eq_true hc2]; decide)]
              exact this
            · exact absurd ⟨decide_eq_true hc1, decide_eq_false hc2⟩ hc
          · rw [if_neg hc1]
            exact this
      rintro σ H3 ⟨rfl, rfl, hn2⟩
      rw [if_neg hn2] at q
      refine seqCps (fun σ H' => σ = [some (.ref (uC K)), some a0, some a1, some a2, some a3, some (.str l), some a5, some a6, some (.ref T), u9, u10] ∧ Ext H3 H' ∧ poss (isNo a0) (isNo a2) (tl l) = true) (fun Nx hN => ?_) ?_
      · unfold tIfS
        (try simp only [tNext, tFor_eq, cBl, tOp, tC, cI, cIc, cAdd, cVar, hEq, hNe, hIn, hNotIn, hLen, hSl, tM1, tBM, cT1, cT1f, cFind3, cSplit, cPart, rNewStrs, hIsS, hTru, tAsg, gName, gSub, tRet, tRetN, tCons, tNil, tTup, tLst, tCB, tNot, tAnd, tNotV, tAndV, tOrV, tOr, V.bl.injEq, V.int.injEq, V.str.injEq, exists_eq_left', exists_eq_left, exists_eq', true_and, and_true, cIsN, L2.start, gTup, gCons, gNil, nox_K, cx_K, tCallF, tSl, tPart, tNoPart, iEnum, RZ.iZipA, iRng1, iRng2, cAbs, List.map_cons, List.map_nil, List.length_cons, List.length_nil, List.replicate, List.cons_append, List.nil_append, List.getElem?_cons_zero, List.getElem?_cons_succ, List.getElem?_nil, List.set_cons_zero, List.set_cons_succ, Nat.reduceAdd, Nat.reduceSub, Nat.zero_add, if_true, if_false, reduceIte, reduceCtorEq, Bool.false_eq_true, decide_eq_true_eq, tDrop, cMin2, cJoin, iList, tDNewK, tLc_eq, iStr, wipe])
        refine ⟨n0, n2, hl, fun H4 he4 => ?_⟩
        (try simp only [tNext, tFor_eq, cBl, tOp, tC, cI, cIc, cAdd, cVar, hEq, hNe, hIn, hNotIn, hLen, hSl, tM1, tBM, cT1, cT1f, cFind3, cSplit, cPart, rNewStrs, hIsS, hTru, tAsg, gName, gSub, tRet, tRetN, tCons, tNil, tTup, tLst, tCB, tNot, tAnd, tNotV, tAndV, tOrV, tOr, V.bl.injEq, V.int.injEq, V.str.injEq, exists_eq_left', exists_eq_left, exists_eq', true_and, and_true, cIsN, L2.start, gTup, gCons, gNil, nox_K, cx_K, tCallF, tSl, tPart, tNoPart, iEnum, RZ.iZipA, iRng1, iRng2, cAbs, List.map_cons, List.map_nil, List.length_cons, List.length_nil, List.replicate, List.cons_append, List.nil_append, List.getElem?_cons_zero, List.getElem?_cons_succ, List.getElem?_nil, List.set_cons_zero, List.set_cons_succ, Nat.reduceAdd, Nat.reduceSub, Nat.zero_add, if_true, if_false, reduceIte, reduceCtorEq, Bool.false_eq_true, decide_eq_true_eq, tDrop, cMin2, cJoin, iList, tDNewK, tLc_eq, iStr, wipe])
        cases hp : poss (isNo a0) (isNo a2) (tl l) with
        | true =>
          rw [if_neg (by decide)]
          exact hN _ _ ⟨rfl, he4, hp⟩
        | false =>
          rw [hp, if_pos rfl] at q
          rw [if_pos (show (!false) = true from rfl)]
          unfold tMkO
          (try simp only [tNext, tFor_eq, cBl, tOp, tC, cI, cIc, cAdd, cVar, hEq, hNe, hIn, hNotIn, hLen, hSl, tM1, tBM, cT1, cT1f, cFind3, cSplit, cPart, rNewStrs, hIsS, hTru, tAsg, gName, gSub, tRet, tRetN, tCons, tNil, tTup, tLst, tCB, tNot, tAnd, tNotV, tAndV, tOrV, tOr, V.bl.injEq, V.int.injEq, V.str.injEq, exists_eq_left', exists_eq_left, exists_eq', true_and, and_true, cIsN, L2.start, gTup, gCons, gNil, nox_K, cx_K, tCallF, tSl, tPart, tNoPart, iEnum, RZ.iZipA, iRng1, iRng2, cAbs, List.map_cons, List.map_nil, List.length_cons, List.length_nil, List.replicate, List.cons_append, List.nil_append, List.getElem?_cons_zero, List.getElem?_cons_succ, List.getElem?_nil, List.set_cons_zero, List.set_cons_succ, Nat.reduceAdd, Nat.reduceSub, Nat.zero_add, if_true, if_false, reduceIte, reduceCtorEq, Bool.false_eq_true, decide_eq_true_eq, tDrop, cMin2, cJoin, iList, tDNewK, tLc_eq, iStr, wipe])
          exact ⟨by decide, ei_ok fun d H5 he5 hd5 => q d H5 ((he.tr he4).tr he5) hd5⟩
      rintro σ H4 ⟨rfl, he4, hp⟩
      rw [hp, if_neg (by decide)] at q
      (try simp only [tNext, tFor_eq, cBl, tOp, tC, cI, cIc, cAdd, cVar, hEq, hNe, hIn, hNotIn, hLen, hSl, tM1, tBM, cT1, cT1f, cFind3, cSplit, cPart, rNewStrs, hIsS, hTru, tAsg, gName, gSub, tRet, tRetN, tCons, tNil, tTup, tLst, tCB, tNot, tAnd, tNotV, tAndV, tOrV, tOr, V.bl.injEq, V.int.injEq, V.str.injEq, exists_eq_left', exists_eq_left, exists_eq', true_and, and_true, cIsN, L2.start, gTup, gCons, gNil, nox_K, cx_K, tCallF, tSl, tPart, tNoPart, iEnum, RZ.iZipA, iRng1, iRng2, cAbs, List.map_cons, List.map_nil, List.length_cons, List.length_nil, List.replicate, List.cons_append, List.nil_append, List.getElem?_cons_zero, List.getElem?_cons_succ, List.getElem?_nil, List.set_cons_zero, List.set_cons_succ, Nat.reduceAdd, Nat.reduceSub, Nat.zero_add, if_true, if_false, reduceIte, reduceCtorEq, Bool.false_eq_true, decide_eq_true_eq, tDrop, cMin2, cJoin, iList, tDNewK, tLc_eq, iStr, wipe])
      unfold tMakeV
      (try simp only [tNext, tFor_eq, cBl, tOp, tC, cI, cIc, cAdd, cVar, hEq, hNe, hIn, hNotIn, hLen, hSl, tM1, tBM, cT1, cT1f, cFind3, cSplit, cPart, rNewStrs, hIsS, hTru, tAsg, gName, gSub, tRet, tRetN, tCons, tNil, tTup, tLst, tCB, tNot, tAnd, tNotV, tAndV, tOrV, tOr, V.bl.injEq, V.int.injEq, V.str.injEq, exists_eq_left', exists_eq_left, exists_eq', true_and, and_true, cIsN, L2.start, gTup, gCons, gNil, nox_K, cx_K, tCallF, tSl, tPart, tNoPart, iEnum, RZ.iZipA, iRng1, iRng2, cAbs, List.map_cons, List.map_nil, List.length_cons, List.length_nil, List.replicate, List.cons_append, List.nil_append, List.getElem?_cons_zero, List.getElem?_cons_succ, List.getElem?_nil, List.set_cons_zero, List.set_cons_succ, Nat.reduceAdd, Nat.reduceSub, Nat.zero_add, if_true, if_false, reduceIte, reduceCtorEq, Bool.false_eq_true, decide_eq_true_eq, tDrop, cMin2, cJoin, iList, tDNewK, tLc_eq, iStr, wipe])
      refine mk_ok fun x dx H5 he5 hx hx0 => q x H5 ((he.tr he4).tr he5) ⟨dx, T, hx, ?_⟩ ?_
      · exact he5 _ _ (he4 _ _ heT)
      · cases z : H x with
        | none => rfl
        | some o => rw [he4 _ _ (he _ _ z)] at hx0; cases hx0
end
end Da
set_option Elab.async false
set_option linter.all false
set_option maxRecDepth 100000
set_option maxHeartbeats 4000000
namespace Da
open PySem PySem.Spec PyProof.Rows L2 Hd Xs Fx Mi ClX Xr
open TL (tl)
def spGet (K : PySem.W.Frag) (i : Nat) : Sp := fun vs H Q _ => match vs with
  | [.ref a] => ∃ xs v, UrlAt K H a xs ∧ xs[i]? = some v ∧ xs.length = 7 ∧ Q v H
  | _ => False
theorem atI_nat {α : Type} {xs : List α} {i : Nat} {v : α} (h : xs[i]? = some v) : atI xs (i : Int) = some v := by
  have hl := (List.getElem?_eq_some_iff.mp h).1
  unfold atI ixN
  rw [if_pos (by omega), if_pos (by omega)]
  exact h
section
variable {P : Program} {w : World} {K : PySem.W.Frag} {mg : Str → Option Value} {base : Heap}
theorem ok_Url_scheme (c : Ct w K mg) : OkF P w K mg base CX0 1 (He5.wf K (He.ga K "Url") "property" "scheme") ["self"] (spGet K 0) := by
  obtain ⟨fd, F⟩ := F_Url_scheme c
  refine ⟨fd, F.ok sc_Url_scheme (fun vs H Q E h => ?_) (fun cdv A outer s H vs Q E hr h => ⟨_, PSs.nox ((pss_one (ps_ret (hix (pe_fld (cv 0) (by rfl)) pe_int)))), ?_⟩), F.bindsN fun _ _ _ _ _ _ us hl => match us, hl with | [_], _ => rfl⟩
  · unfold spGet at h
    split at h
    · rfl
    · exact h.elim
  · unfold spGet at h
    split at h
    case h_2 => exact h.elim
    rename_i a
    obtain ⟨xs, v, ⟨dx, T, ha, hT⟩, hv, _, q⟩ := h
    unfold tFld
    (try simp only [tSeq, tNext, tIfS, tFor_eq, cBl, tOp, tC, cI, cIc, cAdd, cVar, hEq, hNe, hIn, hNotIn, hLen, hSl, tM1, tBM, cT1, cT1f, cFind3, cSplit, cPart, rNewStrs, hIsS, hTru, tAsg, gName, gSub, tRet, tRetN, tCons, tNil, tTup, tLst, tCB, tNot, tAnd, tNotV, tAndV, tOrV, tOr, V.bl.injEq, V.int.injEq, V.str.injEq, exists_eq_left', exists_eq_left, exists_eq', true_and, and_true, cIsN, L2.start, gTup, gCons, gNil, nox_K, cx_K, tCallF, tSl, tPart, tNoPart, iEnum, RZ.iZipA, iRng1, iRng2, cAbs, List.map_cons, List.map_nil, List.length_cons, List.length_nil, List.replicate, List.cons_append, List.nil_append, List.getElem?_cons_zero, List.getElem?_cons_succ, List.getElem?_nil, List.set_cons_zero, List.set_cons_succ, Nat.reduceAdd, Nat.reduceSub, Nat.zero_add, if_true, if_false, reduceIte, reduceCtorEq, Bool.false_eq_true, decide_eq_true_eq, tDrop, cMin2, cJoin, iList, tDNewK, tLc_eq, iStr, wipe])
    exact ⟨a, _, dx, _, _, rfl, ha, cls_Url c, noat_Url__parts c, rfl, hIx_tup hT (atI_nat hv) q⟩
theorem ok_Url_user (c : Ct w K mg) : OkF P w K mg base CX0 1 (He5.wf K (He.ga K "Url") "property" "user") ["self"] (spGet K 1) := by
  obtain ⟨fd, F⟩ := F_Url_user c
  refine ⟨fd, F.ok sc_Url_user (fun vs H Q E h => ?_) (fun cdv A outer s H vs Q E hr h => ⟨_, PSs.nox ((pss_one (ps_ret (hix (pe_fld (cv 0) (by rfl)) pe_int)))), ?_⟩), F.bindsN fun _ _ _ _ _ _ us hl => match us, hl with | [_], _ => rfl⟩
  · unfold spGet at h
    split at h
    · rfl
    · exact h.elim
  · unfold spGet at h
    split at h
    case h_2 => exact h.elim
    rename_i a
    obtain ⟨xs, v, ⟨dx, T, ha, hT⟩, hv, _, q⟩ := h
    unfold tFld
    (try simp only [tSeq, tNext, tIfS, tFor_eq, cBl, tOp, tC, cI, cIc, cAdd, cVar, hEq, hNe, hIn, hNotIn, hLen, hSl, tM1, tBM, cT1, cT1f, cFind3, cSplit, cPart, rNewStrs, hIsS, hTru, tAsg, gName, gSub, tRet, tRetN, tCons, tNil, tTup, tLst, tCB, tNot, tAnd, tNotV, tAndV, tOrV, tOr, V.bl.injEq, V.int.injEq, V.str.injEq, exists_eq_left', exists_eq_left, exists_eq', true_and, and_true, cIsN, L2.start, gTup, gCons, gNil, nox_K, cx_K, tCallF, tSl, tPart, tNoPart, iEnum, RZ.iZipA, iRng1, iRng2, cAbs, List.map_cons, List.map_nil, List.length_cons, List.length_nil, List.replicate, List.cons_append, List.nil_append, List.getElem?_cons_zero, List.getElem?_cons_succ, List.getElem?_nil, List.set_cons_zero, List.set_cons_succ, Nat.reduceAdd, Nat.reduceSub, Nat.zero_add, if_true, if_false, reduceIte, reduceCtorEq, Bool.false_eq_true, decide_eq_true_eq, tDrop, cMin2, cJoin, iList, tDNewK, tLc_eq, iStr, wipe])
    exact ⟨a, _, dx, _, _, rfl, ha, cls_Url c, noat_Url__parts c, rfl, hIx_tup hT (atI_nat hv) q⟩
theorem ok_Url_host (c : Ct w K mg) : OkF P w K mg base CX0 1 (He5.wf K (He.ga K "Url") "property" "host") ["self"] (spGet K 2) := by
  obtain ⟨fd, F⟩ := F_Url_host c
  refine ⟨fd, F.ok sc_Url_host (fun vs H Q E h => ?_) (fun cdv A outer s H vs Q E hr h => ⟨_, PSs.nox ((pss_one (ps_ret (hix (pe_fld (cv 0) (by rfl)) pe_int)))), ?_⟩), F.bindsN fun _ _ _ _ _ _ us hl => match us, hl with | [_], _ => rfl⟩
  · unfold spGet at h
    split at h
    · rfl
    · exact h.elim
  · unfold spGet at h
    split at h
    case h_2 => exact h.elim
    rename_i a
    obtain ⟨xs, v, ⟨dx, T, ha, hT⟩, hv, _, q⟩ := h
    unfold tFld
    (try simp only [tSeq, tNext, tIfS, tFor_eq, cBl, tOp, tC, cI, cIc, cAdd, cVar, hEq, hNe, hIn, hNotIn, hLen, hSl, tM1, tBM, cT1, cT1f, cFind3, cSplit, cPart, rNewStrs, hIsS, hTru, tAsg, gName, gSub, tRet, tRetN, tCons, tNil, tTup, tLst, tCB, tNot, tAnd, tNotV, tAndV, tOrV, tOr, V.bl.injEq, V.int.injEq, V.str.injEq, exists_eq_left', exists_eq_left, exists_eq', true_and, and_true, cIsN, L2.start, gTup, gCons, gNil, nox_K, cx_K, tCallF, tSl, tPart, tNoPart, iEnum, RZ.iZipA, iRng1, iRng2, cAbs, List.map_cons, List.map_nil, List.length_cons, List.length_nil, List.replicate, List.cons_append, List.nil_append, List.getElem?_cons_zero, List.getElem?_cons_succ, List.getElem?_nil, List.set_cons_zero, List.set_cons_succ, Nat.reduceAdd, Nat.reduceSub, Nat.zero_add, if_true, if_false, reduceIte, reduceCtorEq, Bool.false_eq_true, decide_eq_true_eq, tDrop, cMin2, cJoin, iList, tDNewK, tLc_eq, iStr, wipe])
    exact ⟨a, _, dx, _, _, rfl, ha, cls_Url c, noat_Url__parts c, rfl, hIx_tup hT (atI_nat hv) q⟩
theorem ok_Url_port (c : Ct w K mg) : OkF P w K mg base CX0 1 (He5.wf K (He.ga K "Url") "property" "port") ["self"] (spGet K 3) := by
  obtain ⟨fd, F⟩ := F_Url_port c
  refine ⟨fd, F.ok sc_Url_port (fun vs H Q E h => ?_) (fun cdv A outer s H vs Q E hr h => ⟨_, PSs.nox ((pss_one (ps_ret (hix (pe_fld (cv 0) (by rfl)) pe_int)))), ?_⟩), F.bindsN fun _ _ _ _ _ _ us hl => match us, hl with | [_], _ => rfl⟩
  · unfold spGet at h
    split at h
    · rfl
    · exact h.elim
  · unfold spGet at h
    split at h
    case h_2 => exact h.elim
    rename_i a
    obtain ⟨xs, v, ⟨dx, T, ha, hT⟩, hv, _, q⟩ := h
    unfold tFld
    (try simp only [tSeq, tNext, tIfS, tFor_eq, cBl, tOp, tC, cI, cIc, cAdd, cVar, hEq, hNe, hIn, hNotIn, hLen, hSl, tM1, tBM, cT1, cT1f, cFind3, cSplit, cPart, rNewStrs, hIsS, hTru, tAsg, gName, gSub, tRet, tRetN, tCons, tNil, tTup, tLst, tCB, tNot, tAnd, tNotV, tAndV, tOrV, tOr, V.bl.injEq, V.int.injEq, V.str.injEq, exists_eq_left', exists_eq_left, exists_eq', true_and, and_true, cIsN, L2.start, gTup, gCons, gNil, nox_K, cx_K, tCallF, tSl, tPart, tNoPart, iEnum, RZ.iZipA, iRng1, iRng2, cAbs, List.map_cons, List.map_nil, List.length_cons, List.length_nil, List.replicate, List.cons_append, List.nil_append, List.getElem?_cons_zero, List.getElem?_cons_succ, List.getElem?_nil, List.set_cons_zero, List.set_cons_succ, Nat.reduceAdd, Nat.reduceSub, Nat.zero_add, if_true, if_false, reduceIte, reduceCtorEq, Bool.false_eq_true, decide_eq_true_eq, tDrop, cMin2, cJoin, iList, tDNewK, tLc_eq, iStr, wipe])
    exact ⟨a, _, dx, _, _, rfl, ha, cls_Url c, noat_Url__parts c, rfl, hIx_tup hT (atI_nat hv) q⟩
theorem ok_Url_path (c : Ct w K mg) : OkF P w K mg base CX0 1 (He5.wf K (He.ga K "Url") "property" "path") ["self"] (spGet K 4) := by
  obtain ⟨fd, F⟩ := F_Url_path c
  refine ⟨fd, F.ok sc_Url_path (fun vs H Q E h => ?_) (fun cdv A outer s H vs Q E hr h => ⟨_, PSs.nox ((pss_one (ps_ret (hix (pe_fld (cv 0) (by rfl)) pe_int)))), ?_⟩), F.bindsN fun _ _ _ _ _ _ us hl => match us, hl with | [_], _ => rfl⟩
  · unfold spGet at h
    split at h
    · rfl
    · exact h.elim
  · unfold spGet at h
    split at h
    case h_2 => exact h.elim
    rename_i a
    obtain ⟨xs, v, ⟨dx, T, ha, hT⟩, hv, _, q⟩ := h
    unfold tFld
    (try simp only [tSeq, tNext, tIfS, tFor_eq, cBl, tOp, tC, cI, cIc, cAdd, cVar, hEq, hNe, hIn, hNotIn, hLen, hSl, tM1, tBM, cT1, cT1f, cFind3, cSplit, cPart, rNewStrs, hIsS, hTru, tAsg, gName, gSub, tRet, tRetN, tCons, tNil, tTup, tLst, tCB, tNot, tAnd, tNotV, tAndV, tOrV, tOr, V.bl.injEq, V.int.injEq, V.str.injEq, exists_eq_left', exists_eq_left, exists_eq', true_and, and_true, cIsN, L2.start, gTup, gCons, gNil, nox_K, cx_K, tCallF, tSl, tPart, tNoPart, iEnum, RZ.iZipA, iRng1, iRng2, cAbs, List.map_cons, List.map_nil, List.length_cons, List.length_nil, List.replicate, List.cons_append, List.nil_append, List.getElem?_cons_zero, List.getElem?_cons_succ, List.getElem?_nil, List.set_cons_zero, List.set_cons_succ, Nat.reduceAdd, Nat.reduceSub, Nat.zero_add, if_true, if_false, reduceIte, reduceCtorEq, Bool.false_eq_true, decide_eq_true_eq, tDrop, cMin2, cJoin, iList, tDNewK, tLc_eq, iStr, wipe])
    exact ⟨a, _, dx, _, _, rfl, ha, cls_Url c, noat_Url__parts c, rfl, hIx_tup hT (atI_nat hv) q⟩
theorem ok_Url_query (c : Ct w K mg) : OkF P w K mg base CX0 1 (He5.wf K (He.ga K "Url") "property" "query") ["self"] (spGet K 5) := by
  obtain ⟨fd, F⟩ := F_Url_query c
  refine ⟨fd, F.ok sc_Url_query (fun vs H Q E h => ?_) (fun cdv A outer s H vs Q E hr h => ⟨_, PSs.nox ((pss_one (ps_ret (hix (pe_fld (cv 0) (by rfl)) pe_int)))), ?_⟩), F.bindsN fun _ _ _ _ _ _ us hl => match us, hl with | [_], _ => rfl⟩
  · unfold spGet at h
    split at h
    · rfl
    · exact h.elim
  · unfold spGet at h
    split at h
    case h_2 => exact h.elim
    rename_i a
    obtain ⟨xs, v, ⟨dx, T, ha, hT⟩, hv, _, q⟩ := h
    unfold tFld
    (try simp only [tSeq, tNext, tIfS, tFor_eq, cBl, tOp, tC, cI, cIc, cAdd, cVar, hEq, hNe, hIn, hNotIn, hLen, hSl, tM1, tBM, cT1, cT1f, cFind3, cSplit, cPart, rNewStrs, hIsS, hTru, tAsg, gName, gSub, tRet, tRetN, tCons, tNil, tTup, tLst, tCB, tNot, tAnd, tNotV, tAndV, tOrV, tOr, V.bl.injEq, V.int.injEq, V.str.injEq, exists_eq_left', exists_eq_left, exists_eq', true_and, and_true, cIsN, L2.start, gTup, gCons, gNil, nox_K, cx_K, tCallF, tSl, tPart, tNoPart, iEnum, RZ.iZipA, iRng1, iRng2, cAbs, List.map_cons, List.map_nil, List.length_cons, List.length_nil, List.replicate, List.cons_append, List.nil_append, List.getElem?_cons_zero, List.getElem?_cons_succ, List.getElem?_nil, List.set_cons_zero, List.set_cons_succ, Nat.reduceAdd, Nat.reduceSub, Nat.zero_add, if_true, if_false, reduceIte, reduceCtorEq, Bool.false_eq_true, decide_eq_true_eq, tDrop, cMin2, cJoin, iList, tDNewK, tLc_eq, iStr, wipe])
    exact ⟨a, _, dx, _, _, rfl, ha, cls_Url c, noat_Url__parts c, rfl, hIx_tup hT (atI_nat hv) q⟩
theorem ok_Url_fragment (c : Ct w K mg) : OkF P w K mg base CX0 1 (He5.wf K (He.ga K "Url") "property" "fragment") ["self"] (spGet K 6) := by
  obtain ⟨fd, F⟩ := F_Url_fragment c
  refine ⟨fd, F.ok sc_Url_fragment (fun vs H Q E h => ?_) (fun cdv A outer s H vs Q E hr h => ⟨_, PSs.nox ((pss_one (ps_ret (hix (pe_fld (cv 0) (by rfl)) pe_int)))), ?_⟩), F.bindsN fun _ _ _ _ _ _ us hl => match us, hl with | [_], _ => rfl⟩
  · unfold spGet at h
    split at h
    · rfl
    · exact h.elim
  · unfold spGet at h
    split at h
    case h_2 => exact h.elim
    rename_i a
    obtain ⟨xs, v, ⟨dx, T, ha, hT⟩, hv, _, q⟩ := h
    unfold tFld
    (try simp only [tSeq, tNext, tIfS, tFor_eq, cBl, tOp, tC, cI, cIc, cAdd, cVar, hEq, hNe, hIn, hNotIn, hLen, hSl, tM1, tBM, cT1, cT1f, cFind3, cSplit, cPart, rNewStrs, hIsS, hTru, tAsg, gName, gSub, tRet, tRetN, tCons, tNil, tTup, tLst, tCB, tNot, tAnd, tNotV, tAndV, tOrV, tOr, V.bl.injEq, V.int.injEq, V.str.injEq, exists_eq_left', exists_eq_left, exists_eq', true_and, and_true, cIsN, L2.start, gTup, gCons, gNil, nox_K, cx_K, tCallF, tSl, tPart, tNoPart, iEnum, RZ.iZipA, iRng1, iRng2, cAbs, List.map_cons, List.map_nil, List.length_cons, List.length_nil, List.replicate, List.cons_append, List.nil_append, List.getElem?_cons_zero, List.getElem?_cons_succ, List.getElem?_nil, List.set_cons_zero, List.set_cons_succ, Nat.reduceAdd, Nat.reduceSub, Nat.zero_add, if_true, if_false, reduceIte, reduceCtorEq, Bool.false_eq_true, decide_eq_true_eq, tDrop, cMin2, cJoin, iList, tDNewK, tLc_eq, iStr, wipe])
    exact ⟨a, _, dx, _, _, rfl, ha, cls_Url c, noat_Url__parts c, rfl, hIx_tup hT (atI_nat hv) q⟩
/-- parts that may be written -/
def Good (v : V) : Prop := v = .non ∨ ∃ t : Str, v = .str t ∧ t.length ≤ (100000 : Nat)
def oT (v : V) : T := match v with
  | .str t => tl t
  | _ => []
def txtV (vs : List V) : T := match vs with
  | [s, u, h, p, l, q, f] => (if isNo s = true then [] else oT s ++ [58]) ++ ((if isNo h = true then [] else [47, 47]) ++ ((if isNo u = true then [] else oT u ++ [64]) ++ ((if isNo h = true then [] else oT h) ++ ((if isNo p = true then [] else [58] ++ oT p) ++ (oT l ++ ((if isNo q = true then [] else [63] ++ oT q) ++ (if isNo f = true then [] else [35] ++ oT f)))))))
  | _ => []
def spStr (K : PySem.W.Frag) : Sp := fun vs H Q _ => match vs with
  | [.ref a] => ∃ v0 v1 v2 v3 l v5 v6, UrlAt K H a [v0, v1, v2, v3, .str l, v5, v6] ∧ Good v0 ∧ Good v1 ∧ Good v2 ∧ Good v3 ∧ l.length ≤ (100000 : Nat) ∧ Good v5 ∧ Good v6 ∧ ∀ z H', Ext H H' → tl z = txtV [v0, v1, v2, v3, .str l, v5, v6] → Q (.str z) H'
  | _ => False
theorem UrlAt.ext {K : PySem.W.Frag} {H H' : Hp} {a : Addr} {vs : List V} (h : UrlAt K H a vs) (e : Ext H H') : UrlAt K H' a vs := by
  obtain ⟨dx, T, h1, h2⟩ := h
  exact ⟨dx, T, e _ _ h1, e _ _ h2⟩
theorem UrlAt.updL {K : PySem.W.Frag} {H : Hp} {a p : Addr} {vs xs : List V} {o : HO} (h : UrlAt K H a vs) (hp : H p = some (.lst xs)) : UrlAt K (upd H p o) a vs := by
  obtain ⟨dx, T, h1, h2⟩ := h
  refine ⟨dx, T, ?_, ?_⟩
  · rw [upd_ne]
    · exact h1
    · intro e; subst e; rw [hp] at h1; cases h1
  · rw [upd_ne]
    · exact h2
    · intro e; subst e; rw [hp] at h2; cases h2
/-- the pieces so far -/
def PcAt (H0 : Hp) (p : Addr) (pre : T) (n : Nat) (H : Hp) : Prop := ∃ ps : List Str, H p = some (.lst (ps.map V.str)) ∧ (ps.map tl).flatten = pre ∧ (∀ z ∈ ps, z.length ≤ 100010) ∧ ps.length ≤ n ∧ Ext H0 H
theorem PcAt.put {H0 H : Hp} {p : Addr} {pre : T} {n : Nat} {K : PySem.W.Frag} {Q : VK} {z : Str} {a : Addr} {xs : List V} (h : PcAt H0 p pre n H) (h0 : H0 p = none) (hz : z.length ≤ 100010) (hn : n ≤ 20) (hu : UrlAt K H a xs)
    (q : ∀ H', PcAt H0 p (pre ++ tl z) (n + 1) H' → UrlAt K H' a xs → Q .non H') : rAppend (.ref p) [.str z] H Q := by
  obtain ⟨ps, h1, h2, h3, h4, h5⟩ := h
  have sl := sl
  refine append_at h1 (by rw [List.length_map]; omega) (q _ ⟨ps ++ [z], ?_, ?_, ?_, ?_, h5.new h0⟩ (hu.updL h1))
  · rw [List.map_append]; exact upd_self
  · rw [List.map_append, List.flatten_append, h2]
    simp
  · intro y hy
    rcases List.mem_append.mp hy with hy | hy
    · exact h3 y hy
    · rw [List.mem_singleton.mp hy]; exact hz
  · rw [List.length_append]; simp only [List.length_cons, List.length_nil]; omega
theorem prop_ok {K : PySem.W.Frag} {H : Hp} {a : Addr} {i : Nat} {v : V} {xs : List V} {Q : VK} {E : XK} {σ : L2.St} (hσ : σ[0]? = some (some (.ref a))) (hu : UrlAt K H a xs) (hi : xs[i]? = some v) (hl : xs.length = 7) (q : Q v H) : tProp (He.ga K "Url") (spGet K i) [] E (cVar 0) σ H Q := by
  obtain ⟨dx, T, h1, h2⟩ := hu
  unfold tProp cVar
  rw [hσ]
  exact ⟨a, dx, _, rfl, h1, xs, v, ⟨dx, T, h1, h2⟩, hi, hl, q⟩
/-- if self.f is not None: pieces.append(te) -/
theorem str_step {K : PySem.W.Frag} {H0 H : Hp} {a p : Addr} {i n : Nat} {v : V} {xs : List V} {pre piece : T} {te : TE} {D : Ends} (h0 : H0 p = none) (hn : n ≤ 20) (hu : UrlAt K H a xs) (hi : xs[i]? = some v) (hl : xs.length = 7) (g : Good v) (hp : PcAt H0 p pre n H)
    (hte : ∀ t, v = .str t → t.length ≤ (100000 : Nat) → ∀ Q : VK, (∀ z : Str, tl z = piece → z.length ≤ 100010 → Q (.str z) H) → te [some (.ref a), some (.ref p)] H Q)
    (hD : ∀ H', PcAt H0 p (pre ++ (if isNo v = true then [] else piece)) (n + 1) H' → UrlAt K H' a xs → D.nx [some (.ref a), some (.ref p)] H') :
    tIfS (cBl (tOp (cIsN true) (tProp (He.ga K "Url") (spGet K i) [] E0 (cVar 0)) (tC V.non))) (tDrop (tBM K "list" rAppend (cVar 1) (tCons te tNil))) tNext D [some (.ref a), some (.ref p)] H := by
  unfold tIfS cBl tOp
  refine prop_ok rfl hu hi hl ?_
  (try simp only [tSeq, tNext, tIfS, tFor_eq, cBl, tOp, tC, cI, cIc, cAdd, cVar, hEq, hNe, hIn, hNotIn, hLen, hSl, tM1, tBM, cT1, cT1f, cFind3, cSplit, cPart, rNewStrs, hIsS, hTru, tAsg, gName, gSub, tRet, tRetN, tCons, tNil, tTup, tLst, tCB, tNot, tAnd, tNotV, tAndV, tOrV, tOr, V.bl.injEq, V.int.injEq, V.str.injEq, exists_eq_left', exists_eq_left, exists_eq', true_and, and_true, cIsN, L2.start, gTup, gCons, gNil, nox_K, cx_K, tCallF, tSl, tPart, tNoPart, iEnum, RZ.iZipA, iRng1, iRng2, cAbs, List.map_cons, List.map_nil, List.length_cons, List.length_nil, List.replicate, List.cons_append, List.nil_append, List.getElem?_cons_zero, List.getElem?_cons_succ, List.getElem?_nil, List.set_cons_zero, List.set_cons_succ, Nat.reduceAdd, Nat.reduceSub, Nat.zero_add, if_true, if_false, reduceIte, reduceCtorEq, Bool.false_eq_true, decide_eq_true_eq, tDrop, cMin2, cJoin, iList, tDNewK, tLc_eq, iStr, wipe])
  rcases g with rfl | ⟨t, rfl, ht⟩
  · have := hD H (by
      obtain ⟨ps, h1, h2, h3, h4, h5⟩ := hp
      rw [if_pos (show isNo V.non = true from rfl), List.append_nil]
      exact ⟨ps, h1, h2, h3, by omega, h5⟩) hu
    simp only [decide_true, Bool.not_true, Bool.false_eq_true, if_false]
    exact this
  · have e : decide (V.str t = V.non) = false := rfl
    rw [e, if_pos (by decide)]
    rw [if_neg (show ¬ isNo (V.str t) = true from Bool.false_ne_true)] at hD
    have hl := hp
    obtain ⟨ps, h1, h2, h3, h4, h5⟩ := hp
    refine ⟨tyL h1, hte t rfl ht _ fun z hz hzl => ?_⟩
    refine hl.put h0 hzl hn hu fun H' h' hu' => ?_
    rw [hz] at h'
    exact hD H' h' hu'
/-- f"{self.f}s", f"s{self.f}" -/
theorem fs_post {K : PySem.W.Frag} {H : Hp} {a p : Addr} {i : Nat} {xs : List V} {t s : Str} {Q : VK} {E : XK} (hu : UrlAt K H a xs) (hi : xs[i]? = some (.str t)) (hl : xs.length = 7) (ht : t.length ≤ (100000 : Nat)) (hs : s.length ≤ 2)
    (q : ∀ z : Str, tl z = tl t ++ tl s → z.length ≤ 100010 → Q (.str z) H) : tJs [tFmt (tProp (He.ga K "Url") (spGet K i) [] E (cVar 0)), tC (.str s)] Str.empty [some (.ref a), some (.ref p)] H fun out H1 => Q (.str out) H1 := by
  have sl := sl
  have e0 : Str.empty.length = 0 := rfl
  simp only [tJs, tFmt, tC]
  refine prop_ok rfl hu hi hl ?_
  refine .inl ⟨t, rfl, by omega, t, rfl, by rw [la]; omega, s, rfl, by rw [la, la]; omega, q _ ?_ (by rw [la, la]; omega)⟩
  rw [TL.tl_append, TL.tl_append]
  rfl
theorem fs_pre {K : PySem.W.Frag} {H : Hp} {a p : Addr} {i : Nat} {xs : List V} {t s : Str} {Q : VK} {E : XK} (hu : UrlAt K H a xs) (hi : xs[i]? = some (.str t)) (hl : xs.length = 7) (ht : t.length ≤ (100000 : Nat)) (hs : s.length ≤ 2)
    (q : ∀ z : Str, tl z = tl s ++ tl t → z.length ≤ 100010 → Q (.str z) H) : tJs [tC (.str s), tFmt (tProp (He.ga K "Url") (spGet K i) [] E (cVar 0))] Str.empty [some (.ref a), some (.ref p)] H fun out H1 => Q (.str out) H1 := by
  have sl := sl
  have e0 : Str.empty.length = 0 := rfl
  simp only [tJs, tFmt, tC]
  refine ⟨s, rfl, by rw [la]; omega, ?_⟩
  refine prop_ok rfl hu hi hl ?_
  refine .inl ⟨t, rfl, by omega, t, rfl, by rw [la, la]; omega, q _ ?_ (by rw [la, la]; omega)⟩
  rw [TL.tl_append, TL.tl_append]
  rfl
theorem oT_str (t : Str) : oT (.str t) = tl t := rfl
theorem joinL_nil : ∀ ps : List T, TL.joinL [] ps = ps.flatten
  | [] => rfl
  | [p] => by simp [TL.joinL]
  | p :: q :: r => by
    have := joinL_nil (q :: r)
    simp only [TL.joinL, List.nil_append, List.flatten_cons] at this ⊢
    rw [this]
theorem ok_Url___str__ (c : Ct w K mg) : OkF P w K mg base CX0 3 (He.ma K (He.ga K "Url") "__str__") ["self"] (spStr K) := by
  obtain ⟨fd, F⟩ := F_Url___str__ c
  refine ⟨fd, F.ok sc_Url___str__ (fun vs H Q E h => ?_) (fun cdv A outer s H vs Q E hr h => ⟨_, PSs.nox ((pss_cons (ps_set (i := 1) (sc_Url___str__).nd rfl (Or.inl rfl) (pe_lst pa_nil)) (pss_cons (ps_if (ctc co_notN (pe_prop (cv 0) (cls_Url c) (prop_Url_scheme c) (ok_Url_scheme c).choose_spec.1 (hr.mono (by decide)) (ok_Url_scheme c).choose_spec.2 .nil pass0 (by rfl)) pe_non (by rfl)) (pss_one (ps_expr (pe_bm PySem.F.plainAttrs_list PySem.F.slot_list_append PySem.F.type_list_append mt_append (cv 1) (pa_cons (pe_joined (.cons (pe_fmt (pe_prop (cv 0) (cls_Url c) (prop_Url_scheme c) (ok_Url_scheme c).choose_spec.1 (hr.mono (by decide)) (ok_Url_scheme c).choose_spec.2 .nil pass0 (by rfl))) (.cons pe_str .nil))) pa_nil)))) pss_nil) (pss_cons (ps_if (ctc co_notN (pe_prop (cv 0) (cls_Url c) (prop_Url_host c) (ok_Url_host c).choose_spec.1 (hr.mono (by decide)) (ok_Url_host c).choose_spec.2 .nil pass0 (by rfl)) pe_non (by rfl)) (pss_one (ps_expr (pe_bm PySem.F.plainAttrs_list PySem.F.slot_list_append PySem.F.type_list_append mt_append (cv 1) (pa_cons pe_str pa_nil)))) pss_nil) (pss_cons (ps_if (ctc co_notN (pe_prop (cv 0) (cls_Url c) (prop_Url_user c) (ok_Url_user c).choose_spec.1 (hr.mono (by decide)) (ok_Url_user c).choose_spec.2 .nil pass0 (by rfl)) pe_non (by rfl)) (pss_one (ps_expr (pe_bm PySem.F.plainAttrs_list PySem.F.slot_list_append PySem.F.type_list_append mt_append (cv 1) (pa_cons (pe_joined (.cons (pe_fmt (pe_prop (cv 0) (cls_Url c) (prop_Url_user c) (ok_Url_user c).choose_spec.1 (hr.mono (by decide)) (ok_Url_user c).choose_spec.2 .nil pass0 (by rfl))) (.cons pe_str .nil))) pa_nil)))) pss_nil) (pss_cons (ps_if (ctc co_notN (pe_prop (cv 0) (cls_Url c) (prop_Url_host c) (ok_Url_host c).choose_spec.1 (hr.mono (by decide)) (ok_Url_host c).choose_spec.2 .nil pass0 (by rfl)) pe_non (by rfl)) (pss_one (ps_expr (pe_bm PySem.F.plainAttrs_list PySem.F.slot_list_append PySem.F.type_list_append mt_append (cv 1) (pa_cons (pe_prop (cv 0) (cls_Url c) (prop_Url_host c) (ok_Url_host c).choose_spec.1 (hr.mono (by decide)) (ok_Url_host c).choose_spec.2 .nil pass0 (by rfl)) pa_nil)))) pss_nil) (pss_cons (ps_if (ctc co_notN (pe_prop (cv 0) (cls_Url c) (prop_Url_port c) (ok_Url_port c).choose_spec.1 (hr.mono (by decide)) (ok_Url_port c).choose_spec.2 .nil pass0 (by rfl)) pe_non (by rfl)) (pss_one (ps_expr (pe_bm PySem.F.plainAttrs_list PySem.F.slot_list_append PySem.F.type_list_append mt_append (cv 1) (pa_cons (pe_joined (.cons pe_str (.cons (pe_fmt (pe_prop (cv 0) (cls_Url c) (prop_Url_port c) (ok_Url_port c).choose_spec.1 (hr.mono (by decide)) (ok_Url_port c).choose_spec.2 .nil pass0 (by rfl))) .nil))) pa_nil)))) pss_nil) (pss_cons (ps_expr (pe_bm PySem.F.plainAttrs_list PySem.F.slot_list_append PySem.F.type_list_append mt_append (cv 1) (pa_cons (pe_prop (cv 0) (cls_Url c) (prop_Url_path c) (ok_Url_path c).choose_spec.1 (hr.mono (by decide)) (ok_Url_path c).choose_spec.2 .nil pass0 (by rfl)) pa_nil))) (pss_cons (ps_if (ctc co_notN (pe_prop (cv 0) (cls_Url c) (prop_Url_query c) (ok_Url_query c).choose_spec.1 (hr.mono (by decide)) (ok_Url_query c).choose_spec.2 .nil pass0 (by rfl)) pe_non (by rfl)) (pss_one (ps_expr (pe_bm PySem.F.plainAttrs_list PySem.F.slot_list_append PySem.F.type_list_append mt_append (cv 1) (pa_cons (pe_joined (.cons pe_str (.cons (pe_fmt (pe_prop (cv 0) (cls_Url c) (prop_Url_query c) (ok_Url_query c).choose_spec.1 (hr.mono (by decide)) (ok_Url_query c).choose_spec.2 .nil pass0 (by rfl))) .nil))) pa_nil)))) pss_nil) (pss_cons (ps_if (ctc co_notN (pe_prop (cv 0) (cls_Url c) (prop_Url_fragment c) (ok_Url_fragment c).choose_spec.1 (hr.mono (by decide)) (ok_Url_fragment c).choose_spec.2 .nil pass0 (by rfl)) pe_non (by rfl)) (pss_one (ps_expr (pe_bm PySem.F.plainAttrs_list PySem.F.slot_list_append PySem.F.type_list_append mt_append (cv 1) (pa_cons (pe_joined (.cons pe_str (.cons (pe_fmt (pe_prop (cv 0) (cls_Url c) (prop_Url_fragment c) (ok_Url_fragment c).choose_spec.1 (hr.mono (by decide)) (ok_Url_fragment c).choose_spec.2 .nil pass0 (by rfl))) .nil))) pa_nil)))) pss_nil) (pss_one (ps_ret (pe_m1 PySem.F.slot_str_join PySem.F.type_str_join hm_join pe_str (cv 1)))))))))))))), ?_⟩), F.bindsN fun _ _ _ _ _ _ us hl => match us, hl with | [_], _ => rfl⟩
  · unfold spStr at h
    split at h
    · rfl
    · exact h.elim
  · unfold spStr at h
    split at h
    case h_2 => exact h.elim
    rename_i a
    obtain ⟨v0, v1, v2, v3, l, v5, v6, hu, g0, g1, g2, g3, hl, g5, g6, q⟩ := h
    have sl := sl
    have hl7 : [v0, v1, v2, v3, V.str l, v5, v6].length = 7 := rfl
    refine seqStep ?_
    (try simp only [tNext, tFor_eq, cBl, tOp, tC, cI, cIc, cAdd, cVar, hEq, hNe, hIn, hNotIn, hLen, hSl, tM1, tBM, cT1, cT1f, cFind3, cSplit, cPart, rNewStrs, hIsS, hTru, tAsg, gName, gSub, tRet, tRetN, tCons, tNil, tTup, tLst, tCB, tNot, tAnd, tNotV, tAndV, tOrV, tOr, V.bl.injEq, V.int.injEq, V.str.injEq, exists_eq_left', exists_eq_left, exists_eq', true_and, and_true, cIsN, L2.start, gTup, gCons, gNil, nox_K, cx_K, tCallF, tSl, tPart, tNoPart, iEnum, RZ.iZipA, iRng1, iRng2, cAbs, List.map_cons, List.map_nil, List.length_cons, List.length_nil, List.replicate, List.cons_append, List.nil_append, List.getElem?_cons_zero, List.getElem?_cons_succ, List.getElem?_nil, List.set_cons_zero, List.set_cons_succ, Nat.reduceAdd, Nat.reduceSub, Nat.zero_add, if_true, if_false, reduceIte, reduceCtorEq, Bool.false_eq_true, decide_eq_true_eq, tDrop, cMin2, cJoin, iList, tDNewK, tLc_eq, iStr, wipe])
    refine ⟨by omega, fun p h0 => ?_⟩
    have hp0 : PcAt H p [] 0 (upd H p (.lst [])) := ⟨[], upd_self, rfl, fun _ h => (nomatch h), Nat.le_refl _, Ext.rf.fresh h0⟩
    have hu0 := hu.ext (Ext.rf.fresh (o := .lst []) h0)
    have e58 : tl (Str.ofString ":") = [58] := by decide +kernel
    have e64 : tl (Str.ofString "@") = [64] := by decide +kernel
    have e63 : tl (Str.ofString "?") = [63] := by decide +kernel
    have e35 : tl (Str.ofString "#") = [35] := by decide +kernel
    have e47 : tl (Str.ofString "//") = [47, 47] := by decide +kernel
    refine seqCps (fun σ H' => σ = [some (.ref a), some (.ref p)] ∧ PcAt H p ([] ++ (if isNo v0 = true then [] else (oT v0 ++ [58]))) 1 H' ∧ UrlAt K H' a [v0, v1, v2, v3, .str l, v5, v6]) (fun Nx hN => ?_) ?_
    · refine str_step (piece := (oT v0 ++ [58])) h0 (by decide) hu0 rfl rfl g0 hp0 (fun t e ht Q hQ => ?_) (fun H' h' hu' => hN _ _ ⟨rfl, h', hu'⟩)
      subst e; exact fs_post hu0 rfl rfl ht (by decide) fun z hz hzl => hQ z (by rw [hz, e58]; rfl) hzl
    rintro σ H1 ⟨rfl, hp1, hu1⟩
    refine seqCps (fun σ H' => σ = [some (.ref a), some (.ref p)] ∧ PcAt H p (([] ++ (if isNo v0 = true then [] else (oT v0 ++ [58]))) ++ (if isNo v2 = true then [] else [47, 47])) 2 H' ∧ UrlAt K H' a [v0, v1, v2, v3, .str l, v5, v6]) (fun Nx hN => ?_) ?_
    · refine str_step (piece := [47, 47]) h0 (by decide) hu1 rfl rfl g2 hp1 (fun t e ht Q hQ => ?_) (fun H' h' hu' => hN _ _ ⟨rfl, h', hu'⟩)
      subst e; exact hQ _ e47 (by decide)
    rintro σ H2 ⟨rfl, hp2, hu2⟩
    refine seqCps (fun σ H' => σ = [some (.ref a), some (.ref p)] ∧ PcAt H p ((([] ++ (if isNo v0 = true then [] else (oT v0 ++ [58]))) ++ (if isNo v2 = true then [] else [47, 47])) ++ (if isNo v1 = true then [] else (oT v1 ++ [64]))) 3 H' ∧ UrlAt K H' a [v0, v1, v2, v3, .str l, v5, v6]) (fun Nx hN => ?_) ?_
    · refine str_step (piece := (oT v1 ++ [64])) h0 (by decide) hu2 rfl rfl g1 hp2 (fun t e ht Q hQ => ?_) (fun H' h' hu' => hN _ _ ⟨rfl, h', hu'⟩)
      subst e; exact fs_post hu2 rfl rfl ht (by decide) fun z hz hzl => hQ z (by rw [hz, e64]; rfl) hzl
    rintro σ H3 ⟨rfl, hp3, hu3⟩
    refine seqCps (fun σ H' => σ = [some (.ref a), some (.ref p)] ∧ PcAt H p (((([] ++ (if isNo v0 = true then [] else (oT v0 ++ [58]))) ++ (if isNo v2 = true then [] else [47, 47])) ++ (if isNo v1 = true then [] else (oT v1 ++ [64]))) ++ (if isNo v2 = true then [] else (oT v2))) 4 H' ∧ UrlAt K H' a [v0, v1, v2, v3, .str l, v5, v6]) (fun Nx hN => ?_) ?_
    · refine str_step (piece := (oT v2)) h0 (by decide) hu3 rfl rfl g2 hp3 (fun t e ht Q hQ => ?_) (fun H' h' hu' => hN _ _ ⟨rfl, h', hu'⟩)
      subst e; exact prop_ok rfl hu3 rfl rfl (hQ _ rfl (by omega))
    rintro σ H4 ⟨rfl, hp4, hu4⟩
    refine seqCps (fun σ H' => σ = [some (.ref a), some (.ref p)] ∧ PcAt H p ((((([] ++ (if isNo v0 = true then [] else (oT v0 ++ [58]))) ++ (if isNo v2 = true then [] else [47, 47])) ++ (if isNo v1 = true then [] else (oT v1 ++ [64]))) ++ (if isNo v2 = true then [] else (oT v2))) ++ (if isNo v3 = true then [] else ([58] ++ oT v3))) 5 H' ∧ UrlAt K H' a [v0, v1, v2, v3, .str l, v5, v6]) (fun Nx hN => ?_) ?_
    · refine str_step (piece := ([58] ++ oT v3)) h0 (by decide) hu4 rfl rfl g3 hp4 (fun t e ht Q hQ => ?_) (fun H' h' hu' => hN _ _ ⟨rfl, h', hu'⟩)
      subst e; exact fs_pre hu4 rfl rfl ht (by decide) fun z hz hzl => hQ z (by rw [hz, e58]; rfl) hzl
    rintro σ H5 ⟨rfl, hp5, hu5⟩
    refine seqCps (fun σ H' => σ = [some (.ref a), some (.ref p)] ∧ PcAt H p (((((([] ++ (if isNo v0 = true then [] else (oT v0 ++ [58]))) ++ (if isNo v2 = true then [] else [47, 47])) ++ (if isNo v1 = true then [] else (oT v1 ++ [64]))) ++ (if isNo v2 = true then [] else (oT v2))) ++ (if isNo v3 = true then [] else ([58] ++ oT v3))) ++ tl l) 6 H' ∧ UrlAt K H' a [v0, v1, v2, v3, .str l, v5, v6]) (fun Nx hN => ?_) ?_
    · unfold tDrop tBM
      (try simp only [tSeq, tNext, tIfS, tFor_eq, cBl, tOp, tC, cI, cIc, cAdd, cVar, hEq, hNe, hIn, hNotIn, hLen, hSl, tM1, tBM, cT1, cT1f, cFind3, cSplit, cPart, rNewStrs, hIsS, hTru, tAsg, gName, gSub, tRet, tRetN, tCons, tNil, tTup, tLst, tCB, tNot, tAnd, tNotV, tAndV, tOrV, tOr, V.bl.injEq, V.int.injEq, V.str.injEq, exists_eq_left', exists_eq_left, exists_eq', true_and, and_true, cIsN, L2.start, gTup, gCons, gNil, nox_K, cx_K, tCallF, tSl, tPart, tNoPart, iEnum, RZ.iZipA, iRng1, iRng2, cAbs, List.map_cons, List.map_nil, List.length_cons, List.length_nil, List.replicate, List.cons_append, List.nil_append, List.getElem?_cons_zero, List.getElem?_cons_succ, List.getElem?_nil, List.set_cons_zero, List.set_cons_succ, Nat.reduceAdd, Nat.reduceSub, Nat.zero_add, if_true, if_false, reduceIte, reduceCtorEq, Bool.false_eq_true, decide_eq_true_eq, tDrop, cMin2, cJoin, iList, tDNewK, tLc_eq, iStr, wipe])
      obtain ⟨ps, h1, _⟩ := id hp5
      refine ⟨tyL h1, prop_ok rfl hu5 rfl rfl ?_⟩
      exact hp5.put h0 (by omega) (by decide) hu5 fun H' h' hu' => hN _ _ ⟨rfl, h', hu'⟩
    rintro σ H6 ⟨rfl, hp6, hu6⟩
    refine seqCps (fun σ H' => σ = [some (.ref a), some (.ref p)] ∧ PcAt H p ((((((([] ++ (if isNo v0 = true then [] else (oT v0 ++ [58]))) ++ (if isNo v2 = true then [] else [47, 47])) ++ (if isNo v1 = true then [] else (oT v1 ++ [64]))) ++ (if isNo v2 = true then [] else (oT v2))) ++ (if isNo v3 = true then [] else ([58] ++ oT v3))) ++ tl l) ++ (if isNo v5 = true then [] else ([63] ++ oT v5))) 7 H' ∧ UrlAt K H' a [v0, v1, v2, v3, .str l, v5, v6]) (fun Nx hN => ?_) ?_
    · refine str_step (piece := ([63] ++ oT v5)) h0 (by decide) hu6 rfl rfl g5 hp6 (fun t e ht Q hQ => ?_) (fun H' h' hu' => hN _ _ ⟨rfl, h', hu'⟩)
      subst e; exact fs_pre hu6 rfl rfl ht (by decide) fun z hz hzl => hQ z (by rw [hz, e63]; rfl) hzl
    rintro σ H7 ⟨rfl, hp7, hu7⟩
    refine seqCps (fun σ H' => σ = [some (.ref a), some (.ref p)] ∧ PcAt H p (((((((([] ++ (if isNo v0 = true then [] else (oT v0 ++ [58]))) ++ (if isNo v2 = true then [] else [47, 47])) ++ (if isNo v1 = true then [] else (oT v1 ++ [64]))) ++ (if isNo v2 = true then [] else (oT v2))) ++ (if isNo v3 = true then [] else ([58] ++ oT v3))) ++ tl l) ++ (if isNo v5 = true then [] else ([63] ++ oT v5))) ++ (if isNo v6 = true then [] else ([35] ++ oT v6))) 8 H' ∧ UrlAt K H' a [v0, v1, v2, v3, .str l, v5, v6]) (fun Nx hN => ?_) ?_
    · refine str_step (piece := ([35] ++ oT v6)) h0 (by decide) hu7 rfl rfl g6 hp7 (fun t e ht Q hQ => ?_) (fun H' h' hu' => hN _ _ ⟨rfl, h', hu'⟩)
      subst e; exact fs_pre hu7 rfl rfl ht (by decide) fun z hz hzl => hQ z (by rw [hz, e35]; rfl) hzl
    rintro σ H8 ⟨rfl, hp8, hu8⟩
    (try simp only [tSeq, tNext, tIfS, tFor_eq, cBl, tOp, tC, cI, cIc, cAdd, cVar, hEq, hNe, hIn, hNotIn, hLen, hSl, tM1, tBM, cT1, cT1f, cFind3, cSplit, cPart, rNewStrs, hIsS, hTru, tAsg, gName, gSub, tRet, tRetN, tCons, tNil, tTup, tLst, tCB, tNot, tAnd, tNotV, tAndV, tOrV, tOr, V.bl.injEq, V.int.injEq, V.str.injEq, exists_eq_left', exists_eq_left, exists_eq', true_and, and_true, cIsN, L2.start, gTup, gCons, gNil, nox_K, cx_K, tCallF, tSl, tPart, tNoPart, iEnum, RZ.iZipA, iRng1, iRng2, cAbs, List.map_cons, List.map_nil, List.length_cons, List.length_nil, List.replicate, List.cons_append, List.nil_append, List.getElem?_cons_zero, List.getElem?_cons_succ, List.getElem?_nil, List.set_cons_zero, List.set_cons_succ, Nat.reduceAdd, Nat.reduceSub, Nat.zero_add, if_true, if_false, reduceIte, reduceCtorEq, Bool.false_eq_true, decide_eq_true_eq, tDrop, cMin2, cJoin, iList, tDNewK, tLc_eq, iStr, wipe])
    obtain ⟨ps, h1, h2, h3, h4, h5⟩ := hp8
    have hs := sum_len h3
    have em : (Str.ofString "").length = 0 := rfl
    refine ⟨ps, .inl (.inl (Rd.of h1)), by rw [em]; have : ps.length * 100010 ≤ 8 * 100010 := Nat.mul_le_mul_right _ h4; omega, q _ _ h5 ?_⟩
    rw [TL.join_eq, TL.tl_join, show tl (Str.ofString "") = [] from rfl, joinL_nil, h2]
    simp only [txtV, List.nil_append, List.append_assoc, oT_str]
end
end Da
set_option Elab.async false
set_option linter.all false
set_option maxRecDepth 100000
set_option maxHeartbeats 4000000
namespace Da
open PySem PySem.Spec PyProof.Rows L2 Hd Xs Fx Mi ClX Xr
open TL (tl)
theorem PV.good {v : V} (h : PV v) : Good v := by
  rcases h with rfl | ⟨t, rfl, h, _⟩
  · exact .inl rfl
  · exact .inr ⟨t, rfl, by omega⟩
theorem PV.len {v : V} (h : PV v) : (oT v).length ≤ 3000 := by
  rcases h with rfl | ⟨t, rfl, h, _⟩
  · exact Nat.zero_le _
  · rw [TL.len_tl] at h; exact h
def toD : V → PyData
  | .str t => .str t
  | _ => .none
theorem PV.dp {K : PySem.W.Frag} {H : Hp} {v : V} (h : PV v) : Dp K H v (toD v) := by
  rcases h with rfl | ⟨t, rfl, h, _⟩
  · exact .non
  · exact .str t
theorem dpAllP {K : PySem.W.Frag} {H : Hp} : ∀ {vs : List V}, (∀ v ∈ vs, PV v) → DpAll K H vs (vs.map toD)
  | [], _ => .nil
  | v :: vs, h => .cons (h v (List.mem_cons_self ..)).dp (dpAllP fun x hx => h x (List.mem_cons_of_mem _ hx))
theorem canP : ∀ {vs : List V}, (∀ v ∈ vs, PV v) → PyData.canLayAll0 (vs.map toD) = true ∧ PyData.depthAll (vs.map toD) ≤ 1
  | [], _ => ⟨rfl, by simp [PyData.depthAll]⟩
  | v :: vs, h => by
    obtain ⟨h1, h2⟩ := canP (vs := vs) fun x hx => h x (List.mem_cons_of_mem _ hx)
    have hv := h v (List.mem_cons_self ..)
    have e1 : PyData.canLay0 (toD v) = true := by
      rcases hv with rfl | ⟨t, rfl, _, hs⟩
      · simp only [toD, PyData.canLay0]
      · simp only [toD, PyData.canLay0]; exact hs.ok
    have e2 : PyData.depth (toD v) ≤ 1 := by
      rcases hv with rfl | ⟨t, rfl, _, hs⟩ <;> simp only [toD, PyData.depth] <;> omega
    refine ⟨?_, ?_⟩
    · rw [List.map_cons]
      show (PyData.canLay0 (toD v) && PyData.canLayAll0 (vs.map toD)) = true
      rw [e1, h1]; rfl
    · simp only [List.map_cons, PyData.depthAll]
      omega
theorem shP {vs : List V} (h : ∀ v ∈ vs, PV v) : SeqAt.shaped (.list (vs.map toD)) = true := by
  obtain ⟨h1, h2⟩ := canP h
  unfold SeqAt.shaped
  rw [Bool.and_eq_true]
  refine ⟨by simp only [PyData.canLay0]; exact h1, decide_eq_true ?_⟩
  simp only [PyData.depth]
  omega
/-- two lists of the same parts are equal -/
theorem cEq_same {K : PySem.W.Frag} {H : Hp} {p q : Addr} {vs : List V} {Q : VK} {neg : Bool} (hp : H p = some (.lst vs)) (hq : H q = some (.lst vs)) (h : ∀ v ∈ vs, PV v) (k : Q (.bl (!neg)) H) : cEq K neg (.ref p) (.ref q) H Q := by
  refine ⟨_, _, .lst (.inl (Rd.of hp)) (dpAllP h), .lst (.inl (Rd.of hq)) (dpAllP h), shP h, shP h, ?_⟩
  have e : PyData.eqv (.list (vs.map toD)) (.list (vs.map toD)) = true := SeqAt.eqv_refl _ (by
    have := shP h
    unfold SeqAt.shaped at this
    rw [Bool.and_eq_true] at this
    exact this.1)
  rw [e]
  cases neg <;> exact k
theorem ite_le {b : Bool} {x : T} {n : Nat} (h : x.length ≤ n) : (if b = true then [] else x : T).length ≤ n := by
  cases b with
  | true => exact Nat.zero_le _
  | false => exact h
theorem txt_len {s u h p l q f : V} (h0 : PV s) (h1 : PV u) (h2 : PV h) (h3 : PV p) (h4 : PV l) (h5 : PV q) (h6 : PV f) : (txtV [s, u, h, p, l, q, f]).length ≤ 30000 := by
  have a0 := h0.len
  have a1 := h1.len
  have a2 := h2.len
  have a3 := h3.len
  have a4 := h4.len
  have a5 := h5.len
  have a6 := h6.len
  have b0 : (if isNo s = true then [] else oT s ++ [58] : T).length ≤ 3001 := ite_le (by simp only [List.length_append, List.length_cons, List.length_nil]; omega)
  have b1 : (if isNo h = true then [] else [47, 47] : T).length ≤ 2 := ite_le (by decide)
  have b2 : (if isNo u = true then [] else oT u ++ [64] : T).length ≤ 3001 := ite_le (by simp only [List.length_append, List.length_cons, List.length_nil]; omega)
  have b3 : (if isNo h = true then [] else oT h : T).length ≤ 3000 := ite_le a2
  have b4 : (if isNo p = true then [] else [58] ++ oT p : T).length ≤ 3001 := ite_le (by simp only [List.length_append, List.length_cons, List.length_nil]; omega)
  have b5 : (if isNo q = true then [] else [63] ++ oT q : T).length ≤ 3001 := ite_le (by simp only [List.length_append, List.length_cons, List.length_nil]; omega)
  have b6 : (if isNo f = true then [] else [35] ++ oT f : T).length ≤ 3001 := ite_le (by simp only [List.length_append, List.length_cons, List.length_nil]; omega)
  show ((if isNo s = true then [] else oT s ++ [58]) ++ _ : T).length ≤ _
  simp only [List.length_append] at b0 b1 b2 b3 b4 b5 b6 ⊢
  omega
theorem PV.av {H : Hp} {v : V} (h : PV v) : AV H v := by
  rcases h with rfl | ⟨t, rfl, h, _⟩
  · trivial
  · show t.length ≤ 100000
    omega
theorem hixK {X : Cx} (K : PySem.W.Frag) {a b : Expr} {ta tb : TE} {pos : Pos} (ha : PE X a ta) (hb : PE X b tb) (hK : X.K = K := by rfl) (hp : PlainIx b := by exact fun _ _ => rfl) : PE X (.Subscript a b pos) (tOp (hIx K) ta tb) := by
  subst hK
  exact hix ha hb hp
theorem ho_eqK {X : Cx} (K : PySem.W.Frag) (hu : X.A.units + 64 < cLine) (hK : X.K = K := by rfl) : OpR X (compareOp .Eq) (hEq K) := by
  subst hK
  exact ho_eq hu
end Da
set_option Elab.async false
set_option linter.all false
set_option maxRecDepth 100000
set_option maxHeartbeats 4000000
namespace Da
open PySem PySem.Spec PyProof.Rows L2 Hd Xs Fx Mi ClX Xr
open TL (tl)
theorem len_ok {l : Str} (h : PV (.str l)) : l.length ≤ (100000 : Nat) := by
  have := h.len
  rw [TL.len_tl]
  have e : oT (.str l) = tl l := rfl
  rw [e] at this
  omega
/-- a text of signs below 256, by its codes -/
def SgT (l : T) : Prop := ∀ c ∈ l, c < 256
theorem sg_ite {b : Bool} {x : T} (h : SgT x) : SgT (if b = true then [] else x) := by
  cases b with
  | true => exact fun c hc => nomatch hc
  | false => exact h
theorem sg_app {a b : T} (h : SgT a) (h' : SgT b) : SgT (a ++ b) := fun c hc => (List.mem_append.mp hc).elim (h c) (h' c)
theorem PV.sg {v : V} (h : PV v) : SgT (oT v) := by
  rcases h with rfl | ⟨t, rfl, _, h⟩
  · exact fun c hc => nomatch hc
  · exact h
theorem txt_sg {s u h p l q f : V} (h0 : PV s) (h1 : PV u) (h2 : PV h) (h3 : PV p) (h4 : PV l) (h5 : PV q) (h6 : PV f) : SgT (txtV [s, u, h, p, l, q, f]) := by
  have one : ∀ n, n < 256 → SgT [n] := fun n hn c hc => by rw [List.mem_singleton.mp hc]; exact hn
  have two : SgT [47, 47] := fun c hc => by
    simp only [List.mem_cons, List.not_mem_nil, or_false] at hc
    omega
  exact sg_app (sg_ite (sg_app h0.sg (one 58 (by decide)))) (sg_app (sg_ite two) (sg_app (sg_ite (sg_app h1.sg (one 64 (by decide)))) (sg_app (sg_ite h2.sg) (sg_app (sg_ite (sg_app (one 58 (by decide)) h3.sg)) (sg_app h4.sg (sg_app (sg_ite (sg_app (one 63 (by decide)) h5.sg)) (sg_ite (sg_app (one 35 (by decide)) h6.sg))))))))
/-! ### two URLs -/
theorem eqv_toD {a b : V} (ha : PV a) (hb : PV b) : PyData.eqv (toD a) (toD b) = decide (a = b) := by
  rcases ha with rfl | ⟨s, rfl, _, _⟩ <;> rcases hb with rfl | ⟨t, rfl, _, _⟩
  · simp only [toD, PyData.eqv]; rfl
  · simp only [toD, PyData.eqv]; rfl
  · simp only [toD, PyData.eqv]; rfl
  · simp only [toD, PyData.eqv]
    have : (V.str s = V.str t) ↔ s = t := ⟨fun z => V.str.inj z, fun z => by rw [z]⟩
    rw [decide_eq_decide.mpr this]
    rfl
theorem eqvAll_toD : ∀ {as bs : List V}, (∀ v ∈ as, PV v) → (∀ v ∈ bs, PV v) → PyData.eqvAll (as.map toD) (bs.map toD) = decide (as = bs)
  | [], [], _, _ => by simp only [List.map_nil, PyData.eqvAll]; rfl
  | [], b :: bs, _, _ => by simp only [List.map_nil, List.map_cons, PyData.eqvAll]; rfl
  | a :: as, [], _, _ => by simp only [List.map_nil, List.map_cons, PyData.eqvAll]; rfl
  | a :: as, b :: bs, ha, hb => by
    have ih := eqvAll_toD (as := as) (bs := bs) (fun v hv => ha v (List.mem_cons_of_mem _ hv)) (fun v hv => hb v (List.mem_cons_of_mem _ hv))
    simp only [List.map_cons, PyData.eqvAll]
    rw [ih, eqv_toD (ha a (List.mem_cons_self ..)) (hb b (List.mem_cons_self ..))]
    rw [Bool.eq_iff_iff]
    simp
theorem shPt {vs : List V} (h : ∀ v ∈ vs, PV v) : SeqAt.shaped (.tuple (vs.map toD)) = true := by
  obtain ⟨h1, h2⟩ := canP h
  unfold SeqAt.shaped
  rw [Bool.and_eq_true]
  refine ⟨by simp only [PyData.canLay0]; exact h1, decide_eq_true ?_⟩
  simp only [PyData.depth]
  omega
theorem cEq_tup {K : PySem.W.Frag} {H : Hp} {p q : Addr} {vs ws : List V} {Q : VK} (hp : H p = some (.tup vs)) (hq : H q = some (.tup ws)) (h : ∀ v ∈ vs, PV v) (h' : ∀ v ∈ ws, PV v) (k : Q (.bl (decide (vs = ws))) H) : cEq K false (.ref p) (.ref q) H Q := by
  refine ⟨_, _, .tup (.inl (Rd.of hp)) (dpAllP h), .tup (.inl (Rd.of hq)) (dpAllP h'), shPt h, shPt h', ?_⟩
  have e : PyData.eqv (.tuple (vs.map toD)) (.tuple (ws.map toD)) = decide (vs = ws) := by
    simp only [PyData.eqv]
    exact eqvAll_toD h h'
  rw [e]
  exact k
def spEqU (K : PySem.W.Frag) : Sp := fun vs H Q _ => match vs with
  | [.ref a, y] => ∃ xs, UrlAt K H a xs ∧ xs.length = 7 ∧ (∀ v ∈ xs, PV v) ∧
      ((∃ b ys, y = .ref b ∧ UrlAt K H b ys ∧ ys.length = 7 ∧ (∀ v ∈ ys, PV v) ∧ Q (.bl (decide (xs = ys))) H) ∨ (((∃ t, y = .str t) ∨ (∃ i, y = .int i) ∨ y = .non) ∧ Q (.bl false) H))
  | _ => False
/-! ### what kind of a URL -/
def hasA (h : V) : Bool := !decide (h = .non)
def opq (s h : V) (l : T) : Bool := !decide (s = .non) && (!hasA h && !decide (l.take 1 = [47]))
def spKind (K : PySem.W.Frag) (g : V → V → T → Bool) : Sp := fun vs H Q _ => match vs with
  | [.ref a] => ∃ v0 v1 v2 v3 l v5 v6, UrlAt K H a [v0, v1, v2, v3, .str l, v5, v6] ∧ l.length ≤ (100000 : Nat) ∧ Q (.bl (g v0 v2 (tl l))) H
  | _ => False
theorem kind_ok {K : PySem.W.Frag} {H : Hp} {a : Addr} {g : V → V → T → Bool} {v0 v1 v2 v3 v5 v6 : V} {l : Str} {Q : VK} {E : XK} {σ : L2.St} (hσ : σ[0]? = some (some (.ref a))) (hu : UrlAt K H a [v0, v1, v2, v3, .str l, v5, v6]) (hl : l.length ≤ (100000 : Nat)) (q : Q (.bl (g v0 v2 (tl l))) H) : tProp (He.ga K "Url") (spKind K g) [] E (cVar 0) σ H Q := by
  obtain ⟨dx, Ta, h1, h2⟩ := id hu
  unfold tProp cVar
  rw [hσ]
  exact ⟨a, dx, _, rfl, h1, v0, v1, v2, v3, l, v5, v6, hu, hl, q⟩
section
variable {P : Program} {w : World} {K : PySem.W.Frag} {mg : Str → Option Value} {base : Heap}
theorem ok_Url___eq__ (c : Ct w K mg) : OkF P w K mg base CX0 1 (He.ma K (He.ga K "Url") "__eq__") ["self", "other"] (spEqU K) := by
  obtain ⟨fd, F⟩ := F_Url___eq__ c
  refine ⟨fd, F.ok sc_Url___eq__ (fun vs H Q E h => ?_) (fun cdv A outer s H vs Q E hr h => ⟨_, PSs.nox ((pss_one (ps_ret (pe_and (pe_callB (call_isC9 (eqc_Url c) (cls_Url c)) (by rfl) (b_isinstance c) (by decide +kernel) (pa_cons (cv 1) (pa_cons (pe_glob (v := .ref (He.ga K "Url")) rfl (g_Url c) rfl) pa_nil))) (pe_one (pe_cmpR (ho_eq (hu64 hr)) (pe_fld (cv 0) (by rfl)) (pe_fld (cv 1) (by rfl)) (by rfl))))))), ?_⟩), F.bindsN fun _ _ _ _ _ _ us hl => match us, hl with | [_, _], _ => rfl⟩
  · unfold spEqU at h
    split at h
    · rfl
    · exact h.elim
  · unfold spEqU at h
    split at h
    case h_2 => exact h.elim
    rename_i a y
    obtain ⟨xs, ⟨dx, Ta, h1, h2⟩, hxl, hx, h⟩ := h
    rcases h with ⟨b, ys, rfl, ⟨dy, Tb, h3, h4⟩, hyl, hy, q⟩ | ⟨hy, q⟩
    · (try simp only [tSeq, tNext, tIfS, tFor_eq, cBl, tOp, tC, cI, cIc, cAdd, cVar, hEq, hNe, hIn, hNotIn, hLen, hSl, tM1, tBM, cT1, cT1f, cFind3, cSplit, cPart, rNewStrs, hIsS, hTru, tAsg, gName, gSub, tRet, tRetN, tCons, tNil, tTup, tLst, tCB, tNot, tAnd, tNotV, tAndV, tOrV, tOr, V.bl.injEq, V.int.injEq, V.str.injEq, exists_eq_left', exists_eq_left, exists_eq', true_and, and_true, cIsN, L2.start, gTup, gCons, gNil, nox_K, cx_K, tCallF, tSl, tPart, tNoPart, iEnum, RZ.iZipA, iRng1, iRng2, cAbs, List.map_cons, List.map_nil, List.length_cons, List.length_nil, List.replicate, List.cons_append, List.nil_append, List.getElem?_cons_zero, List.getElem?_cons_succ, List.getElem?_nil, List.set_cons_zero, List.set_cons_succ, Nat.reduceAdd, Nat.reduceSub, Nat.zero_add, if_true, if_false, reduceIte, reduceCtorEq, Bool.false_eq_true, decide_eq_true_eq, tDrop, cMin2, cJoin, iList, tDNewK, tLc_eq, iStr, wipe])
      refine ⟨_, rfl, .inl ⟨b, dy, _, rfl, h3, ?_⟩⟩
      unfold tFld
      (try simp only [tSeq, tNext, tIfS, tFor_eq, cBl, tOp, tC, cI, cIc, cAdd, cVar, hEq, hNe, hIn, hNotIn, hLen, hSl, tM1, tBM, cT1, cT1f, cFind3, cSplit, cPart, rNewStrs, hIsS, hTru, tAsg, gName, gSub, tRet, tRetN, tCons, tNil, tTup, tLst, tCB, tNot, tAnd, tNotV, tAndV, tOrV, tOr, V.bl.injEq, V.int.injEq, V.str.injEq, exists_eq_left', exists_eq_left, exists_eq', true_and, and_true, cIsN, L2.start, gTup, gCons, gNil, nox_K, cx_K, tCallF, tSl, tPart, tNoPart, iEnum, RZ.iZipA, iRng1, iRng2, cAbs, List.map_cons, List.map_nil, List.length_cons, List.length_nil, List.replicate, List.cons_append, List.nil_append, List.getElem?_cons_zero, List.getElem?_cons_succ, List.getElem?_nil, List.set_cons_zero, List.set_cons_succ, Nat.reduceAdd, Nat.reduceSub, Nat.zero_add, if_true, if_false, reduceIte, reduceCtorEq, Bool.false_eq_true, decide_eq_true_eq, tDrop, cMin2, cJoin, iList, tDNewK, tLc_eq, iStr, wipe])
      refine ⟨a, _, dx, _, _, rfl, h1, cls_Url c, noat_Url__parts c, rfl, b, _, dy, _, _, rfl, h3, cls_Url c, noat_Url__parts c, rfl, ?_⟩
      exact cEq_tup h2 h4 hx hy q
    · (try simp only [tSeq, tNext, tIfS, tFor_eq, cBl, tOp, tC, cI, cIc, cAdd, cVar, hEq, hNe, hIn, hNotIn, hLen, hSl, tM1, tBM, cT1, cT1f, cFind3, cSplit, cPart, rNewStrs, hIsS, hTru, tAsg, gName, gSub, tRet, tRetN, tCons, tNil, tTup, tLst, tCB, tNot, tAnd, tNotV, tAndV, tOrV, tOr, V.bl.injEq, V.int.injEq, V.str.injEq, exists_eq_left', exists_eq_left, exists_eq', true_and, and_true, cIsN, L2.start, gTup, gCons, gNil, nox_K, cx_K, tCallF, tSl, tPart, tNoPart, iEnum, RZ.iZipA, iRng1, iRng2, cAbs, List.map_cons, List.map_nil, List.length_cons, List.length_nil, List.replicate, List.cons_append, List.nil_append, List.getElem?_cons_zero, List.getElem?_cons_succ, List.getElem?_nil, List.set_cons_zero, List.set_cons_succ, Nat.reduceAdd, Nat.reduceSub, Nat.zero_add, if_true, if_false, reduceIte, reduceCtorEq, Bool.false_eq_true, decide_eq_true_eq, tDrop, cMin2, cJoin, iList, tDNewK, tLc_eq, iStr, wipe])
      refine ⟨_, rfl, .inr ⟨hy, ?_⟩⟩
      refine ⟨false, rfl, ?_⟩
      rw [if_neg (by decide)]
      exact q
theorem ok_Url_has_authority (c : Ct w K mg) : OkF P w K mg base CX0 3 (He5.wf K (He.ga K "Url") "property" "has_authority") ["self"] (spKind K fun _ h _ => hasA h) := by
  obtain ⟨fd, F⟩ := F_Url_has_authority c
  refine ⟨fd, F.ok sc_Url_has_authority (fun vs H Q E h => ?_) (fun cdv A outer s H vs Q E hr h => ⟨_, PSs.nox ((pss_one (ps_ret (pe_cmpR co_notN (pe_prop (cv 0) (cls_Url c) (prop_Url_host c) (ok_Url_host c).choose_spec.1 (hr.mono (by decide)) (ok_Url_host c).choose_spec.2 .nil pass0 (by rfl)) pe_non (by rfl))))), ?_⟩), F.bindsN fun _ _ _ _ _ _ us hl => match us, hl with | [_], _ => rfl⟩
  · unfold spKind at h
    split at h
    · rfl
    · exact h.elim
  · unfold spKind at h
    split at h
    case h_2 => exact h.elim
    rename_i a
    obtain ⟨v0, v1, v2, v3, l, v5, v6, hu, hl, q⟩ := h
    (try simp only [tSeq, tNext, tIfS, tFor_eq, cBl, tOp, tC, cI, cIc, cAdd, cVar, hEq, hNe, hIn, hNotIn, hLen, hSl, tM1, tBM, cT1, cT1f, cFind3, cSplit, cPart, rNewStrs, hIsS, hTru, tAsg, gName, gSub, tRet, tRetN, tCons, tNil, tTup, tLst, tCB, tNot, tAnd, tNotV, tAndV, tOrV, tOr, V.bl.injEq, V.int.injEq, V.str.injEq, exists_eq_left', exists_eq_left, exists_eq', true_and, and_true, cIsN, L2.start, gTup, gCons, gNil, nox_K, cx_K, tCallF, tSl, tPart, tNoPart, iEnum, RZ.iZipA, iRng1, iRng2, cAbs, List.map_cons, List.map_nil, List.length_cons, List.length_nil, List.replicate, List.cons_append, List.nil_append, List.getElem?_cons_zero, List.getElem?_cons_succ, List.getElem?_nil, List.set_cons_zero, List.set_cons_succ, Nat.reduceAdd, Nat.reduceSub, Nat.zero_add, if_true, if_false, reduceIte, reduceCtorEq, Bool.false_eq_true, decide_eq_true_eq, tDrop, cMin2, cJoin, iList, tDNewK, tLc_eq, iStr, wipe])
    refine prop_ok rfl hu rfl rfl ?_
    exact q
theorem ok_Url_is_opaque (c : Ct w K mg) : OkF P w K mg base CX0 5 (He5.wf K (He.ga K "Url") "property" "is_opaque") ["self"] (spKind K opq) := by
  obtain ⟨fd, F⟩ := F_Url_is_opaque c
  refine ⟨fd, F.ok sc_Url_is_opaque (fun vs H Q E h => ?_) (fun cdv A outer s H vs Q E hr h => ⟨_, PSs.nox ((pss_one (ps_ret (pe_and (pe_cmpR co_notN (pe_prop (cv 0) (cls_Url c) (prop_Url_scheme c) (ok_Url_scheme c).choose_spec.1 (hr.mono (by decide)) (ok_Url_scheme c).choose_spec.2 .nil pass0 (by rfl)) pe_non (by rfl)) (pe_and (pe_not (pe_prop (cv 0) (cls_Url c) (prop_Url_has_authority c) (ok_Url_has_authority c).choose_spec.1 (hr.mono (by decide)) (ok_Url_has_authority c).choose_spec.2 .nil pass0 (by rfl))) (pe_one (pe_not (pe_m1 PySem.F.slot_str_startswith PySem.F.type_str_startswith cm_startswith (pe_prop (cv 0) (cls_Url c) (prop_Url_path c) (ok_Url_path c).choose_spec.1 (hr.mono (by decide)) (ok_Url_path c).choose_spec.2 .nil pass0 (by rfl)) pe_str)))))))), ?_⟩), F.bindsN fun _ _ _ _ _ _ us hl => match us, hl with | [_], _ => rfl⟩
  · unfold spKind at h
    split at h
    · rfl
    · exact h.elim
  · unfold spKind at h
    split at h
    case h_2 => exact h.elim
    rename_i a
    obtain ⟨v0, v1, v2, v3, l, v5, v6, hu, hl, q⟩ := h
    have w1 := sw_lit (x := l) (y := Str.ofString "/") (S := [47]) (by decide +kernel) (by decide)
    simp only [List.length_cons, List.length_nil, Nat.zero_add] at w1
    unfold opq at q
    (try simp only [tSeq, tNext, tIfS, tFor_eq, cBl, tOp, tC, cI, cIc, cAdd, cVar, hEq, hNe, hIn, hNotIn, hLen, hSl, tM1, tBM, cT1, cT1f, cFind3, cSplit, cPart, rNewStrs, hIsS, hTru, tAsg, gName, gSub, tRet, tRetN, tCons, tNil, tTup, tLst, tCB, tNot, tAnd, tNotV, tAndV, tOrV, tOr, V.bl.injEq, V.int.injEq, V.str.injEq, exists_eq_left', exists_eq_left, exists_eq', true_and, and_true, cIsN, L2.start, gTup, gCons, gNil, nox_K, cx_K, tCallF, tSl, tPart, tNoPart, iEnum, RZ.iZipA, iRng1, iRng2, cAbs, List.map_cons, List.map_nil, List.length_cons, List.length_nil, List.replicate, List.cons_append, List.nil_append, List.getElem?_cons_zero, List.getElem?_cons_succ, List.getElem?_nil, List.set_cons_zero, List.set_cons_succ, Nat.reduceAdd, Nat.reduceSub, Nat.zero_add, if_true, if_false, reduceIte, reduceCtorEq, Bool.false_eq_true, decide_eq_true_eq, tDrop, cMin2, cJoin, iList, tDNewK, tLc_eq, iStr, wipe])
    refine prop_ok rfl hu rfl rfl ?_
    cases h0 : decide (v0 = V.non) with
    | true =>
      rw [h0] at q
      rw [if_neg (by decide)]
      exact q
    | false =>
      rw [h0] at q
      rw [if_pos (by decide)]
      refine kind_ok rfl hu hl ⟨_, rfl, ?_⟩
      cases h2 : hasA v2 with
      | true =>
        rw [h2] at q
        rw [if_neg (by decide)]
        exact q
      | false =>
        rw [h2] at q
        rw [if_pos (by decide)]
        refine prop_ok rfl hu rfl rfl ⟨⟨_, rfl⟩, ?_⟩
        dsimp only
        rw [w1]
        exact q
theorem ok_Url_is_base (c : Ct w K mg) : OkF P w K mg base CX0 7 (He5.wf K (He.ga K "Url") "property" "is_base") ["self"] (spKind K fun s h l => !decide (s = .non) && !opq s h l) := by
  obtain ⟨fd, F⟩ := F_Url_is_base c
  refine ⟨fd, F.ok sc_Url_is_base (fun vs H Q E h => ?_) (fun cdv A outer s H vs Q E hr h => ⟨_, PSs.nox ((pss_one (ps_ret (pe_and (pe_cmpR co_notN (pe_prop (cv 0) (cls_Url c) (prop_Url_scheme c) (ok_Url_scheme c).choose_spec.1 (hr.mono (by decide)) (ok_Url_scheme c).choose_spec.2 .nil pass0 (by rfl)) pe_non (by rfl)) (pe_one (pe_not (pe_prop (cv 0) (cls_Url c) (prop_Url_is_opaque c) (ok_Url_is_opaque c).choose_spec.1 (hr.mono (by decide)) (ok_Url_is_opaque c).choose_spec.2 .nil pass0 (by rfl)))))))), ?_⟩), F.bindsN fun _ _ _ _ _ _ us hl => match us, hl with | [_], _ => rfl⟩
  · unfold spKind at h
    split at h
    · rfl
    · exact h.elim
  · unfold spKind at h
    split at h
    case h_2 => exact h.elim
    rename_i a
    obtain ⟨v0, v1, v2, v3, l, v5, v6, hu, hl, q⟩ := h
    dsimp only at q
    (try simp only [tSeq, tNext, tIfS, tFor_eq, cBl, tOp, tC, cI, cIc, cAdd, cVar, hEq, hNe, hIn, hNotIn, hLen, hSl, tM1, tBM, cT1, cT1f, cFind3, cSplit, cPart, rNewStrs, hIsS, hTru, tAsg, gName, gSub, tRet, tRetN, tCons, tNil, tTup, tLst, tCB, tNot, tAnd, tNotV, tAndV, tOrV, tOr, V.bl.injEq, V.int.injEq, V.str.injEq, exists_eq_left', exists_eq_left, exists_eq', true_and, and_true, cIsN, L2.start, gTup, gCons, gNil, nox_K, cx_K, tCallF, tSl, tPart, tNoPart, iEnum, RZ.iZipA, iRng1, iRng2, cAbs, List.map_cons, List.map_nil, List.length_cons, List.length_nil, List.replicate, List.cons_append, List.nil_append, List.getElem?_cons_zero, List.getElem?_cons_succ, List.getElem?_nil, List.set_cons_zero, List.set_cons_succ, Nat.reduceAdd, Nat.reduceSub, Nat.zero_add, if_true, if_false, reduceIte, reduceCtorEq, Bool.false_eq_true, decide_eq_true_eq, tDrop, cMin2, cJoin, iList, tDNewK, tLc_eq, iStr, wipe])
    refine prop_ok rfl hu rfl rfl ?_
    cases h0 : decide (v0 = V.non) with
    | true =>
      rw [h0] at q
      rw [if_neg (by decide)]
      exact q
    | false =>
      rw [h0] at q
      rw [if_pos (by decide)]
      exact kind_ok rfl hu hl ⟨_, rfl, q⟩
end
end Da
set_option Elab.async false
set_option linter.all false
set_option maxRecDepth 100000
set_option maxHeartbeats 4000000
namespace Da
open PySem PySem.Spec PyProof.Rows L2 Hd Xs Fx Mi ClX Xr
open TL (tl)
/-! ### a URL with parts exchanged -/
def spRepl (K : PySem.W.Frag) : Sp := fun vs H Q E => match vs with
  | [.ref a, .ref p] => ∃ xs is, UrlAt K H a xs ∧ xs.length = 7 ∧ H p = some (.dK (kvI (kwOfI NM is))) ∧ is.length ≤ 7 ∧ (∀ iv ∈ is, iv.1 < 7) ∧ (∀ v ∈ setAll xs is, AV H v) ∧
    (match dueV (setAll xs is) with
    | none => ∀ u H', Ext H H' → UrlAt K H' u (setAll xs is) → H u = none → Q (.ref u) H'
    | some n => ∀ d H', Ext H H' → H' d = some (.xd [("name", .str n)]) → E (.ref (He.ga K "BadPart")) (some d) H')
  | _ => False
section
variable {P : Program} {w : World} {K : PySem.W.Frag} {mg : Str → Option Value} {base : Heap}
theorem ok_Url_replaced (c : Ct w K mg) : FnKw P w K mg base (L2.CX P w) 8 (He.ma K (He.ga K "Url") "replaced") "self" (spRepl K) := by
  obtain ⟨fd, F⟩ := F_Url_replaced c
  refine fn_kwargs F sc_Url_replaced StX.cxUp (by rfl) (by rfl) (by rfl) (by rfl) ⟨_, by rfl, by rfl⟩ (fun cdv A outer s H vs Q E hr h => ⟨_, (pss_cons (ps_set (i := 2) (sc_Url_replaced).nd rfl (Or.inl rfl) (pe_dictZip rfl (by rfl) (b_dict c) (by rfl) (b_zip c) (pa_cons (pe_cval (pe_glob (v := .ref (He.ga K "Url")) rfl (g_Url c) rfl)) (pa_cons (pe_fld (cv 0) (by rfl)) pa_nil))))
    (pss_cons (ps_set (i := 3) (sc_Url_replaced).nd rfl (Or.inl rfl) (pe_merge2 (cv 2) (cv 1)))
    (pss_one (ps_ret (pe_cmethKw (E := E) (pe_glob (v := .ref (He.ga K "Url")) rfl (g_Url c) rfl) (read_Url c) (cm_Url_of c) (ok_Url_of c).choose_spec.1 (ok_Url_of c).choose_spec.2 (hr.mono (by decide)) (passes_call (takes_of rfl rfl rfl rfl) (fun _ _ _ _ h => h)) (cv 3)))))), ?_⟩)
  unfold spRepl at h
  split at h
  case h_2 => exact h.elim
  rename_i a p
  obtain ⟨xs, is, ⟨dx, T, hu1, hu2⟩, hxl, hp, hil, hi, hA, q⟩ := h
  have sl := sl
  have hnd : NM.Nodup := by decide +kernel
  refine seqStep ?_
  unfold tAsg tDictZip
  (try simp only [tNext, tFor_eq, cBl, tOp, tC, cI, cIc, cAdd, cVar, hEq, hNe, hIn, hNotIn, hLen, hSl, tM1, tBM, cT1, cT1f, cFind3, cSplit, cPart, rNewStrs, hIsS, hTru, tAsg, gName, gSub, tRet, tRetN, tCons, tNil, tTup, tLst, tCB, tNot, tAnd, tNotV, tAndV, tOrV, tOr, V.bl.injEq, V.int.injEq, V.str.injEq, exists_eq_left', exists_eq_left, exists_eq', true_and, and_true, cIsN, L2.start, gTup, gCons, gNil, nox_K, cx_K, tCallF, tSl, tPart, tNoPart, iEnum, RZ.iZipA, iRng1, iRng2, cAbs, List.map_cons, List.map_nil, List.length_cons, List.length_nil, List.replicate, List.cons_append, List.nil_append, List.getElem?_cons_zero, List.getElem?_cons_succ, List.getElem?_nil, List.set_cons_zero, List.set_cons_succ, Nat.reduceAdd, Nat.reduceSub, Nat.zero_add, if_true, if_false, reduceIte, reduceCtorEq, Bool.false_eq_true, decide_eq_true_eq, tDrop, cMin2, cJoin, iList, tDNewK, tLc_eq, iStr, wipe])
  unfold tCVal tFld
  (try simp only [tNext, tFor_eq, cBl, tOp, tC, cI, cIc, cAdd, cVar, hEq, hNe, hIn, hNotIn, hLen, hSl, tM1, tBM, cT1, cT1f, cFind3, cSplit, cPart, rNewStrs, hIsS, hTru, tAsg, gName, gSub, tRet, tRetN, tCons, tNil, tTup, tLst, tCB, tNot, tAnd, tNotV, tAndV, tOrV, tOr, V.bl.injEq, V.int.injEq, V.str.injEq, exists_eq_left', exists_eq_left, exists_eq', true_and, and_true, cIsN, L2.start, gTup, gCons, gNil, nox_K, cx_K, tCallF, tSl, tPart, tNoPart, iEnum, RZ.iZipA, iRng1, iRng2, cAbs, List.map_cons, List.map_nil, List.length_cons, List.length_nil, List.replicate, List.cons_append, List.nil_append, List.getElem?_cons_zero, List.getElem?_cons_succ, List.getElem?_nil, List.set_cons_zero, List.set_cons_succ, Nat.reduceAdd, Nat.reduceSub, Nat.zero_add, if_true, if_false, reduceIte, reduceCtorEq, Bool.false_eq_true, decide_eq_true_eq, tDrop, cMin2, cJoin, iList, tDNewK, tLc_eq, iStr, wipe])
  refine ⟨uC K, .type "type", _, _, rfl, read_Url c, cval_Url_PARTS c, a, _, dx, _, _, rfl, hu1, cls_Url c, noat_Url__parts c, rfl, ?_⟩
  refine ⟨_, _, NM, xs, rfl, tups_Url_PARTS c _, .inl (Rd.of hu2), by rw [hxl]; rfl, fun d hd => ?_⟩
  rw [merge_self hnd (by rw [hxl]; rfl)]
  unfold tMerge2
  intro d2 hd2
  have e2 : (upd H d (.dK (kvI (NM.zip xs)))) d = some (.dK (kvI (NM.zip xs))) := upd_self
  have hdp : p ≠ d := fun e => by subst e; rw [hp] at hd; cases hd
  have hd2d : d ≠ d2 := fun e => by subst e; rw [e2] at hd2; cases hd2
  have hp1 : (upd H d (.dK (kvI (NM.zip xs)))) p = some (.dK (kvI (kwOfI NM is))) := upd_old hp hd
  have hd2p : p ≠ d2 := fun e => by subst e; rw [hp1] at hd2; cases hd2
  have hz : (kvI (NM.zip xs)).length ≤ 1000 := by
    unfold kvI
    rw [List.length_map, List.length_zip, hxl]
    decide
  have hk : (kvI (kwOfI NM is)).length ≤ 1000 := by
    unfold kvI kwOfI
    rw [List.length_map, List.length_map]
    omega
  simp only [cVar, List.getElem?_cons_zero, List.getElem?_cons_succ]
  refine ⟨upd_self, d, _, rfl, hd2d, by rw [upd_ne hd2d]; exact e2, hz, ?_⟩
  rw [merge_self hnd (by rw [hxl]; rfl)]
  refine ⟨upd_self, p, _, rfl, hd2p, by rw [upd_ne hd2p, upd_ne hd2p]; exact hp1, hk, ?_⟩
  rw [merge_set hnd is xs (by rw [hxl]; rfl) hi]
  have x4 : Ext H (upd (upd (upd (upd H d (.dK (kvI (NM.zip xs)))) d2 (.dK [])) d2 (.dK (kvI (NM.zip xs)))) d2 (.dK (kvI (NM.zip (setAll xs is))))) := by
    intro b o hb
    have n1 : b ≠ d := fun e => by subst e; rw [hd] at hb; cases hb
    have n2 : b ≠ d2 := fun e => by subst e; rw [upd_old hb hd] at hd2; cases hd2
    rw [upd_ne n2, upd_ne n2, upd_ne n2, upd_ne n1]
    exact hb
  have s4 : (upd (upd (upd (upd H d (.dK (kvI (NM.zip xs)))) d2 (.dK [])) d2 (.dK (kvI (NM.zip xs)))) d2 (.dK (kvI (NM.zip (setAll xs is))))) d2 = some (.dK (kvI (NM.zip (setAll xs is)))) := upd_self
  generalize (upd (upd (upd (upd H d (.dK (kvI (NM.zip xs)))) d2 (.dK [])) d2 (.dK (kvI (NM.zip xs)))) d2 (.dK (kvI (NM.zip (setAll xs is))))) = H4 at *
  have yl : (setAll xs is).length = 7 := (setAll_len is xs).trans hxl
  obtain ⟨y0, y1, y2, y3, y4, y5, y6, ey⟩ : ∃ y0 y1 y2 y3 y4 y5 y6, setAll xs is = [y0, y1, y2, y3, y4, y5, y6] := match setAll xs is, yl with
    | [y0, y1, y2, y3, y4, y5, y6], _ => ⟨y0, y1, y2, y3, y4, y5, y6, rfl⟩
  rw [ey] at s4 q hA
  unfold tRet tCMethKw
  (try simp only [tNext, tFor_eq, cBl, tOp, tC, cI, cIc, cAdd, cVar, hEq, hNe, hIn, hNotIn, hLen, hSl, tM1, tBM, cT1, cT1f, cFind3, cSplit, cPart, rNewStrs, hIsS, hTru, tAsg, gName, gSub, tRet, tRetN, tCons, tNil, tTup, tLst, tCB, tNot, tAnd, tNotV, tAndV, tOrV, tOr, V.bl.injEq, V.int.injEq, V.str.injEq, exists_eq_left', exists_eq_left, exists_eq', true_and, and_true, cIsN, L2.start, gTup, gCons, gNil, nox_K, cx_K, tCallF, tSl, tPart, tNoPart, iEnum, RZ.iZipA, iRng1, iRng2, cAbs, List.map_cons, List.map_nil, List.length_cons, List.length_nil, List.replicate, List.cons_append, List.nil_append, List.getElem?_cons_zero, List.getElem?_cons_succ, List.getElem?_nil, List.set_cons_zero, List.set_cons_succ, Nat.reduceAdd, Nat.reduceSub, Nat.zero_add, if_true, if_false, reduceIte, reduceCtorEq, Bool.false_eq_true, decide_eq_true_eq, tDrop, cMin2, cJoin, iList, tDNewK, tLc_eq, iStr, wipe])
  intro d5 hd5
  have hd25 : d2 ≠ d5 := fun e => by subst e; rw [s4] at hd5; cases hd5
  refine ⟨upd_self, d2, _, _, rfl, hd25, by rw [upd_ne hd25]; exact s4, kwV_kvI _, fun q hq => ?_, ?_⟩
  · have e := List.mem_map_of_mem (f := (·.1)) hq
    rw [zip_fst (by rfl)] at e
    exact e
  · have ekw : kwVals ofDfl (V.ref (He.ga K "Url")) (NM.zip [y0, y1, y2, y3, y4, y5, y6]) = [.ref (uC K), y0, y1, y2, y3, y4, y5, y6] := by rfl
    rw [ekw]
    have x6 : Ext H (upd (upd H4 d5 (.dK [])) d5 (.dK (kvI (NM.zip [y0, y1, y2, y3, y4, y5, y6])))) := by
      intro b o hb
      have h4 := x4 b o hb
      have n5 : b ≠ d5 := fun e => by subst e; rw [h4] at hd5; cases hd5
      rw [upd_ne n5, upd_ne n5]
      exact h4
    generalize (upd (upd H4 d5 (.dK [])) d5 (.dK (kvI (NM.zip [y0, y1, y2, y3, y4, y5, y6])))) = H6 at *
    refine ⟨rfl, fun v hv => (hA v hv).ext x6, ?_⟩
    cases hdv : dueV [y0, y1, y2, y3, y4, y5, y6] with
    | none =>
      rw [hdv] at q
      intro u H' he hu hu0
      refine q u H' (x6.tr he) hu ?_
      cases z : H u with
      | none => rfl
      | some o => rw [x6 _ _ z] at hu0; cases hu0
    | some n =>
      rw [hdv] at q
      exact fun d H' he hx => q d H' (x6.tr he) hx
end
end Da
set_option Elab.async false
set_option linter.all false
set_option maxRecDepth 100000
set_option maxHeartbeats 4000000
namespace Da
open PySem PySem.Spec PyProof.Rows L2 Hd Xs Fx Mi ClX Xr
open TL (tl)
theorem SI_94 {i : Nat} (h : i = 1 ∨ i = 2 ∨ i = 4 ∨ i = 5 ∨ i = 6) : (SI i).contains 94 = false := by
  rcases h with rfl | rfl | rfl | rfl | rfl <;> decide +kernel
theorem SI_hex {i : Nat} (h : i = 1 ∨ i = 2 ∨ i = 4 ∨ i = 5 ∨ i = 6) (c : Nat) (hc : HEXT.contains c = true) : (SI i).contains c = true := by
  have e : HEXT.all PLNT.contains = true := by decide +kernel
  have h1 := List.all_eq_true.mp e c (List.contains_iff_mem.mp hc)
  unfold SI
  rw [con_app, con_app, h1]; rfl
theorem wP_scan {i : Nat} (h : i = 1 ∨ i = 2 ∨ i = 4 ∨ i = 5 ∨ i = 6) {l : T} (hb : ¬ (i = 2 ∧ l.take 1 = [91])) : wP i l = Mi.scan (SI i) 0 l := by
  unfold wP
  rw [if_neg (by omega), if_neg (by omega), if_neg hb, wAm_scan (SI i) (SI_94 h) (SI_hex h) l.length l (Nat.le_refl _) 0 0, if_neg (fun z => Nat.lt_irrefl 0 z.1)]
def SG (i : Nat) : T := if i = 0 then SCHT else if i = 3 then DIGT else if i = 2 then [91, 93, 58] ++ SI 2 else SI i
theorem wP_all {i : Nat} {l : T} (hi : i < 7) (h : wP i l = none) : ∀ c ∈ l, c = 94 ∨ (SG i).contains c = true := by
  by_cases h0 : i = 0
  · subst h0
    exact wSch_all (l := l) h
  by_cases h3 : i = 3
  · subst h3
    exact wPort_all (l := l) h
  have hc : i = 1 ∨ i = 2 ∨ i = 4 ∨ i = 5 ∨ i = 6 := by omega
  by_cases hb : i = 2 ∧ l.take 1 = [91]
  · obtain ⟨rfl, h91⟩ := hb
    have hw : wP 2 l = wBr l := by
      unfold wP
      rw [if_neg (by decide), if_neg (by decide), if_pos ⟨rfl, h91⟩]
    rw [hw] at h
    obtain ⟨b, rfl, hb⟩ := wBr_form h91 h
    have eG : (SG 2) = [91, 93, 58] ++ SI 2 := rfl
    intro c hcm
    rcases List.mem_cons.mp hcm with e | hcm
    · rw [e]; exact .inr (by decide +kernel)
    rcases List.mem_append.mp hcm with hcm | hcm
    · rcases hb c hcm with e | e
      · exact .inl e
      · have e2 : BRKT.all (SG 2).contains = true := by decide +kernel
        exact .inr (List.all_eq_true.mp e2 c (List.contains_iff_mem.mp e))
    · rw [List.mem_singleton.mp hcm]; exact .inr (by decide +kernel)
  · rw [wP_scan hc hb] at h
    have := scan_all (SI i) (SI_hex hc) l.length l 0 (Nat.le_refl _) h
    intro c hcm
    rcases this c hcm with e | e
    · exact .inl e
    · refine .inr ?_
      unfold SG
      rw [if_neg h0, if_neg h3]
      by_cases h2 : i = 2
      · subst h2
        rw [if_pos rfl, con_app, e, Bool.or_true]
      · rw [if_neg h2]; exact e
end Da
set_option Elab.async false
set_option linter.all false
set_option maxRecDepth 100000
set_option maxHeartbeats 4000000
namespace Da
open PySem PySem.Spec PyProof.Rows L2 Hd Xs Fx Mi Ms Md Mq ClX Xr
open TL (tl joinL)
/-- None, or a text of at most n signs -/
def Lv (n : Nat) (v : V) : Prop := v = .non ∨ ∃ t : Str, v = .str t ∧ t.length ≤ n
theorem Lv.av {n : Nat} {v : V} {H : Hp} (h : Lv n v) (hn : n ≤ (100000 : Nat)) : AV H v := by
  rcases h with rfl | ⟨t, rfl, h⟩
  · trivial
  · show t.length ≤ (100000 : Nat)
    omega
theorem Lv.mono {n m : Nat} {v : V} (h : Lv n v) (hn : n ≤ m) : Lv m v := by
  rcases h with rfl | ⟨t, rfl, h⟩
  · exact .inl rfl
  · exact .inr ⟨t, rfl, by omega⟩
def mkT (l : T) : V := .str ⟨l.toArray⟩
theorem mkT_tl (z : Str) : V.str z = mkT (tl z) := by
  show V.str z = V.str ⟨(tl z).toArray⟩
  rw [TL.mk_tl]
theorem oT_mkT (l : T) : oT (mkT l) = l := by
  show (List.toArray l).toList = l
  simp
theorem mk_str {z : Str} {l : T} (h : tl z = l) : V.str z = mkT l := by rw [mkT_tl, h]
theorem len_mk (l : T) : (⟨l.toArray⟩ : Str).length = l.length := by
  show l.toArray.size = _
  simp
theorem Lv_mk {n : Nat} {l : T} (h : l.length ≤ n) : Lv n (mkT l) := .inr ⟨_, rfl, by rw [len_mk]; exact h⟩
/-- the parts of a URL that may be: their texts' lengths at most n -/
structure OkU (n : Nat) (vs : List V) : Prop where
  ex : ∃ s u h p l q f, vs = [s, u, h, p, .str l, q, f]
  due : dueV vs = none
  len : ∀ v ∈ vs, Lv n v
theorem OkU.mono {n m : Nat} {vs : List V} (h : OkU n vs) (e : n ≤ m) : OkU m vs := ⟨h.ex, h.due, fun v hv => (h.len v hv).mono e⟩
theorem OkU.l7 {n : Nat} {vs : List V} (h : OkU n vs) : vs.length = 7 := by
  obtain ⟨s, u, h, p, l, q, f, rfl⟩ := h.ex
  rfl
/-- what the parts are asked -/
structure Due (s u h p l q f : V) : Prop where
  p0 : isP 0 s = true
  p1 : isP 1 u = true
  p2 : isP 2 h = true
  p3 : isP 3 p = true
  p4 : isP 4 l = true
  p5 : isP 5 q = true
  p6 : isP 6 f = true
  n1 : h = .non → u = .non
  n2 : h = .non → p = .non
  ps : poss (isNo s) (isNo h) (oT l) = true
theorem due_iff {s u h p q f : V} {l : Str} : dueV [s, u, h, p, .str l, q, f] = none ↔ Due s u h p (.str l) q f := by
  constructor
  · intro hd
    unfold dueV at hd
    cases hf : dueF 0 [s, u, h, p, .str l, q, f] with
    | some n => rw [hf] at hd; cases hd
    | none =>
      rw [hf] at hd
      have hal := dueF_none [s, u, h, p, .str l, q, f] 0 (by show 0 + 7 ≤ 7; decide) hf
      have hd2 : (if isNo h = true ∧ isNo u = false then some ("user" : Str) else if isNo h = true ∧ isNo p = false then some ("port" : Str) else if poss (isNo s) (isNo h) (tl l) = false then some ("path" : Str) else none) = none := hd
      have n1 : ¬ (isNo h = true ∧ isNo u = false) := fun z => by rw [if_pos z] at hd2; cases hd2
      rw [if_neg n1] at hd2
      have n2 : ¬ (isNo h = true ∧ isNo p = false) := fun z => by rw [if_pos z] at hd2; cases hd2
      rw [if_neg n2] at hd2
      have n3 : poss (isNo s) (isNo h) (tl l) = true := by
        cases z : poss (isNo s) (isNo h) (tl l) with
        | true => rfl
        | false => rw [z, if_pos rfl] at hd2; cases hd2
      exact ⟨hal 0 s rfl, hal 1 u rfl, hal 2 h rfl, hal 3 p rfl, hal 4 (.str l) rfl, hal 5 q rfl, hal 6 f rfl, fun e => Classical.byContradiction fun z => n1 ⟨decide_eq_true e, decide_eq_false z⟩, fun e => Classical.byContradiction fun z => n2 ⟨decide_eq_true e, decide_eq_false z⟩, n3⟩
  · intro d
    have hf : dueF 0 [s, u, h, p, .str l, q, f] = none := by
      rw [dueF_cons, if_pos d.p0, dueF_cons, if_pos d.p1, dueF_cons, if_pos d.p2, dueF_cons, if_pos d.p3, dueF_cons, if_pos d.p4, dueF_cons, if_pos d.p5, dueF_cons, if_pos d.p6]
      rfl
    unfold dueV
    rw [hf]
    show (if isNo h = true ∧ isNo u = false then some ("user" : Str) else if isNo h = true ∧ isNo p = false then some ("port" : Str) else if poss (isNo s) (isNo h) (tl l) = false then some ("path" : Str) else none) = none
    have ps : poss (isNo s) (isNo h) (tl l) = true := d.ps
    rw [if_neg (fun z => by have := d.n1 (of_decide_eq_true z.1); rw [this] at z; exact absurd z.2 (by decide)), if_neg (fun z => by have := d.n2 (of_decide_eq_true z.1); rw [this] at z; exact absurd z.2 (by decide)), if_neg (by rw [ps]; decide)]
theorem isP4 {z : Str} : isP 4 (.str z) = true ↔ Nw (SI 4) (tl z) := by
  show (wP 4 (tl z)).isNone = true ↔ _
  rw [wP_scan (.inr (.inr (.inl rfl))) (fun z => absurd z.1 (by decide)), Option.isNone_iff_eq_none]
  exact ⟨fun h => .of h, fun h => h 0⟩
theorem isP4m {l : T} : isP 4 (mkT l) = true ↔ Nw (SI 4) l := by
  show isP 4 (.str ⟨l.toArray⟩) = true ↔ _
  exact isP4
theorem SI4_47 : (SI 4).contains 47 = true := by decide +kernel
theorem SI4_46 : (SI 4).contains 46 = true := by decide +kernel
theorem poss_host {sN : Bool} {l : T} : poss sN false l = true ↔ l = [] ∨ l.take 1 = [47] := by
  unfold poss
  rw [if_pos rfl, Bool.or_eq_true, decide_eq_true_eq, List.isEmpty_iff]
theorem poss_cln {sN hN : Bool} {l : T} (h : poss sN hN l = true) : poss sN hN (cln (!hN) l) = true := by
  cases hN with
  | false =>
    rw [poss_host] at h ⊢
    rcases h with h | h
    · subst h; exact .inl rfl
    · exact .inr (cln_head h)
  | true =>
    by_cases h1 : l.take 1 = [47]
    · unfold poss
      rw [if_neg (by decide)]
      have hh := cln_head (b := false) h1
      rw [if_neg (by
        refine cln_two ?_
        intro e
        unfold poss at h
        rw [if_neg (by decide), if_pos e] at h
        cases h)]
      obtain ⟨r, er⟩ := head47 hh
      rw [Bool.or_eq_true]
      refine .inr ?_
      show (!(bef 47 (cln (!true) l)).contains 58) = true
      rw [show cln (!true) l = cln false l from rfl, er, bef_hit]
      rfl
    · rw [cln_other h1]; exact h
theorem poss_slash {sN hN : Bool} {l : T} (h1 : l.take 1 = [47]) (h2 : hN = true → l.take 2 ≠ [47, 47]) : poss sN hN l = true := by
  cases hN with
  | false => exact poss_host.mpr (.inr h1)
  | true =>
    unfold poss
    rw [if_neg (by decide), if_neg (h2 rfl)]
    obtain ⟨r, er⟩ := head47 h1
    rw [er, bef_hit]
    simp
theorem poss_s {sN hN : Bool} {l : T} (h : poss sN hN l = true) : poss false hN l = true := by
  unfold poss at h ⊢
  split at h
  · rename_i e
    rw [if_pos e]; exact h
  · rename_i e
    rw [if_neg e]
    split at h
    · cases h
    · rename_i e2
      rw [if_neg e2]; rfl
/-- what a reference leads to from a base -/
def joinV (vs ws : List V) : List V := match vs, ws with
  | [s, u, h, p, l, q, f], [s', u', h', p', l', q', f'] =>
    if s' ≠ .non then [s', u', h', p', mkT (cln (hasA h') (oT l')), q', f']
    else if h' ≠ .non then [s, u', h', p', mkT (cln true (oT l')), q', f']
    else if oT l' = [] then [s, u, h, p, l, if q' = .non then q else q', f']
    else [s, u, h, p, mkT (cln (hasA h) (if (oT l').take 1 = [47] then oT l' else fld (oT l) ++ oT l')), q', f']
  | _, _ => []
def isB (vs : List V) : Bool := match vs with
  | [s, _, h, _, l, _, _] => !decide (s = .non) && !opq s h (oT l)
  | _ => false
theorem isB_iff {s u h p l q f : V} : isB [s, u, h, p, l, q, f] = true ↔ s ≠ .non ∧ (h = .non → (oT l).take 1 = [47]) := by
  show (!decide (s = .non) && !opq s h (oT l)) = true ↔ _
  unfold opq hasA
  by_cases hs : s = .non
  · simp [hs]
  · by_cases hh : h = .non
    · simp [hs, hh]
    · simp [hs, hh]
theorem hasA_no (h : V) : hasA h = !isNo h := rfl
theorem base_path {s u h p q f : V} {l : Str} (d : Due s u h p (.str l) q f) (b : isB [s, u, h, p, .str l, q, f] = true) : tl l = [] ∨ (tl l).take 1 = [47] := by
  have hb := (isB_iff.mp b).2
  by_cases hh : h = .non
  · exact .inr (hb hh)
  · have := d.ps
    rw [show isNo h = false from decide_eq_false hh] at this
    exact poss_host.mp this
/-- the path that is joined -/
def roadT (l l' : T) : T := if l'.take 1 = [47] then l' else fld l ++ l'
theorem okU_join {n m : Nat} {vs ws : List V} (a : OkU n vs) (b : OkU m ws) (hb : isB vs = true) : OkU (n + m + 10) (joinV vs ws) := by
  obtain ⟨⟨s, u, h, p, l, q, f, rfl⟩, da, la⟩ := a
  obtain ⟨⟨s', u', h', p', l', q', f', rfl⟩, db, lb⟩ := b
  have da := due_iff.mp da
  have db := due_iff.mp db
  have up : ∀ v ∈ [s, u, h, p, .str l, q, f], Lv (n + m + 10) v := fun v hv => (la v hv).mono (by omega)
  have up' : ∀ v ∈ [s', u', h', p', .str l', q', f'], Lv (n + m + 10) v := fun v hv => (lb v hv).mono (by omega)
  have ll : (tl l).length ≤ n := by
    have := la (.str l) (by simp)
    rcases this with e | ⟨t, e, ht⟩
    · cases e
    · cases e; rw [← TL.len_tl]; exact ht
  have ll' : (tl l').length ≤ m := by
    have := lb (.str l') (by simp)
    rcases this with e | ⟨t, e, ht⟩
    · cases e
    · cases e; rw [← TL.len_tl]; exact ht
  have nl := isP4.mp da.p4
  have nl' := isP4.mp db.p4
  have o' : oT (.str l') = tl l' := rfl
  have o : oT (.str l) = tl l := rfl
  have mk : ∀ {a0 a1 a2 a3 a5 a6 : V} {x : T}, Nw (SI 4) x → x.length ≤ n + m + 10 → isP 0 a0 = true → isP 1 a1 = true → isP 2 a2 = true → isP 3 a3 = true → isP 5 a5 = true → isP 6 a6 = true → (a2 = .non → a1 = .non) → (a2 = .non → a3 = .non) → poss (isNo a0) (isNo a2) x = true →
      (∀ v ∈ [a0, a1, a2, a3, a5, a6], Lv (n + m + 10) v) → OkU (n + m + 10) [a0, a1, a2, a3, mkT x, a5, a6] := by
    intro a0 a1 a2 a3 a5 a6 x hx hlx h0 h1 h2 h3 h5 h6 m1 m2 hp hv
    refine ⟨⟨_, _, _, _, ⟨x.toArray⟩, _, _, rfl⟩, due_iff.mpr ⟨h0, h1, h2, h3, isP4m.mpr hx, h5, h6, m1, m2, by rw [show oT (.str ⟨x.toArray⟩) = x from oT_mkT x]; exact hp⟩, fun v hv2 => ?_⟩
    simp only [List.mem_cons, List.not_mem_nil, or_false] at hv2 hv
    rcases hv2 with rfl | rfl | rfl | rfl | rfl | rfl | rfl
    · exact hv _ (.inl rfl)
    · exact hv _ (.inr (.inl rfl))
    · exact hv _ (.inr (.inr (.inl rfl)))
    · exact hv _ (.inr (.inr (.inr (.inl rfl))))
    · exact Lv_mk hlx
    · exact hv _ (.inr (.inr (.inr (.inr (.inl rfl)))))
    · exact hv _ (.inr (.inr (.inr (.inr (.inr rfl)))))
  show OkU _ (if s' ≠ .non then [s', u', h', p', mkT (cln (hasA h') (oT (.str l'))), q', f'] else if h' ≠ .non then [s, u', h', p', mkT (cln true (oT (.str l'))), q', f'] else if oT (.str l') = [] then [s, u, h, p, .str l, if q' = .non then q else q', f']
    else [s, u, h, p, mkT (cln (hasA h) (roadT (oT (.str l)) (oT (.str l')))), q', f'])
  rw [o', o]
  by_cases c1 : s' ≠ .non
  · rw [if_pos c1]
    refine mk (nw_cln SI4_47 SI4_46 _ nl') (by have := cln_len (hasA h') (tl l'); omega) db.p0 db.p1 db.p2 db.p3 db.p5 db.p6 db.n1 db.n2 ?_ (fun v hv => up' v ?_)
    · rw [hasA_no]; exact poss_cln db.ps
    · simp only [List.mem_cons, List.not_mem_nil, or_false] at hv ⊢
      rcases hv with rfl | rfl | rfl | rfl | rfl | rfl <;> simp
  rw [if_neg c1]
  by_cases c2 : h' ≠ .non
  · rw [if_pos c2]
    refine mk (nw_cln SI4_47 SI4_46 _ nl') (by have := cln_len true (tl l'); omega) da.p0 db.p1 db.p2 db.p3 db.p5 db.p6 db.n1 db.n2 ?_ (fun v hv => ?_)
    · have := db.ps
      rw [show isNo h' = false from decide_eq_false c2] at this ⊢
      exact poss_host.mpr (poss_host.mp (poss_cln this))
    · simp only [List.mem_cons, List.not_mem_nil, or_false] at hv
      rcases hv with rfl | hv
      · exact up _ (by simp)
      · exact up' v (by
          simp only [List.mem_cons, List.not_mem_nil, or_false]
          rcases hv with rfl | rfl | rfl | rfl | rfl <;> simp)
  rw [if_neg c2]
  by_cases c3 : tl l' = []
  · rw [if_pos c3]
    refine ⟨⟨_, _, _, _, _, _, _, rfl⟩, due_iff.mpr ⟨da.p0, da.p1, da.p2, da.p3, da.p4, ?_, db.p6, da.n1, da.n2, da.ps⟩, fun v hv => ?_⟩
    · split
      · exact da.p5
      · exact db.p5
    · simp only [List.mem_cons, List.not_mem_nil, or_false] at hv
      rcases hv with rfl | rfl | rfl | rfl | rfl | rfl | rfl
      · exact up _ (by simp)
      · exact up _ (by simp)
      · exact up _ (by simp)
      · exact up _ (by simp)
      · exact up _ (by simp)
      · split
        · exact up _ (by simp)
        · exact up' _ (by simp)
      · exact up' _ (by simp)
  rw [if_neg c3]
  have hroad : (roadT (tl l) (tl l')).take 1 = [47] := by
    unfold roadT
    split
    · assumption
    · have := fld_head (base_path da hb)
      obtain ⟨r, er⟩ := head47 this
      rw [er]; rfl
  have hnr : Nw (SI 4) (roadT (tl l) (tl l')) := by
    unfold roadT
    split
    · exact nl'
    · exact (nw_fld SI4_47 nl).app nl'
  have hlr : (roadT (tl l) (tl l')).length ≤ n + m + 2 := by
    unfold roadT
    split
    · omega
    · have := fld_len (tl l)
      rw [List.length_append]; omega
  refine mk (nw_cln SI4_47 SI4_46 _ hnr) (by have := cln_len (hasA h) (roadT (tl l) (tl l')); omega) da.p0 da.p1 da.p2 da.p3 db.p5 db.p6 da.n1 da.n2 ?_ (fun v hv => ?_)
  · refine poss_slash (cln_head hroad) fun e => ?_
    rw [hasA_no, e]
    exact cln_two' hroad
  · simp only [List.mem_cons, List.not_mem_nil, or_false] at hv
    rcases hv with rfl | rfl | rfl | rfl | rfl | rfl
    · exact up _ (by simp)
    · exact up _ (by simp)
    · exact up _ (by simp)
    · exact up _ (by simp)
    · exact up' _ (by simp)
    · exact up' _ (by simp)
end Da
set_option Elab.async false
set_option linter.all false
set_option maxRecDepth 100000
set_option maxHeartbeats 4000000
namespace Da
open PySem PySem.Spec PyProof.Rows L2 Hd Xs Fx Mi Ms Md Mq ClX Xr
open TL (tl joinL)
theorem prop_n {K : PySem.W.Frag} {H : Hp} {a : Addr} {i n : Nat} {v : V} {xs : List V} {Q : VK} {E : XK} {σ : L2.St} (hσ : σ[n]? = some (some (.ref a))) (hu : UrlAt K H a xs) (hi : xs[i]? = some v) (hl : xs.length = 7) (q : Q v H) : tProp (He.ga K "Url") (spGet K i) [] E (cVar n) σ H Q := by
  obtain ⟨dx, T, h1, h2⟩ := hu
  unfold tProp cVar
  rw [hσ]
  exact ⟨a, dx, _, rfl, h1, xs, v, ⟨dx, T, h1, h2⟩, hi, hl, q⟩
theorem kind_n {K : PySem.W.Frag} {H : Hp} {a : Addr} {n : Nat} {g : V → V → T → Bool} {v0 v1 v2 v3 v5 v6 : V} {l : Str} {Q : VK} {E : XK} {σ : L2.St} (hσ : σ[n]? = some (some (.ref a))) (hu : UrlAt K H a [v0, v1, v2, v3, .str l, v5, v6]) (hl : l.length ≤ (100000 : Nat)) (q : Q (.bl (g v0 v2 (tl l))) H) :
    tProp (He.ga K "Url") (spKind K g) [] E (cVar n) σ H Q := by
  obtain ⟨dx, Ta, h1, h2⟩ := id hu
  unfold tProp cVar
  rw [hσ]
  exact ⟨a, dx, _, rfl, h1, v0, v1, v2, v3, l, v5, v6, hu, hl, q⟩
theorem repl_u {K : PySem.W.Frag} {H : Hp} {u : Addr} {xs : List V} {is : List (Nat × V)} {m : Nat} {Q : VK} {E : XK} (hu : UrlAt K H u xs) (hxl : xs.length = 7) (hil : is.length ≤ 7) (hi : ∀ iv ∈ is, iv.1 < 7) (ho : OkU m (setAll xs is)) (hm : m ≤ (100000 : Nat)) (q : ∀ u' H', Ext H H' → UrlAt K H' u' (setAll xs is) → H u' = none → Q (.ref u') H')
    (p : Addr) (hp : H p = none) : spRepl K [.ref u, .ref p] (upd H p (.dK (kvI (kwOfI NM is)))) Q E := by
  have x := Ext.rf.fresh (o := .dK (kvI (kwOfI NM is))) hp
  refine ⟨xs, is, hu.ext x, hxl, upd_self, hil, hi, fun v hv => (ho.len v hv).av hm, ?_⟩
  rw [ho.due]
  exact fun u' H' e hu' h0 => q u' H' (x.tr e) hu' (Ext.none x h0)
def spFolder : Sp := fun vs H Q _ => match vs with
  | [.str t] => t.length ≤ (100000 : Nat) ∧ ∀ z : Str, tl z = fld (tl t) → Q (.str z) H
  | _ => False
def spJoin (K : PySem.W.Frag) : Sp := fun vs H Q _ => match vs with
  | [.ref a, .ref b] => ∃ vs ws, UrlAt K H a vs ∧ UrlAt K H b ws ∧ OkU 40000 vs ∧ OkU 40000 ws ∧ isB vs = true ∧ ∀ u H', Ext H H' → UrlAt K H' u (joinV vs ws) → H u = none → Q (.ref u) H'
  | _ => False
theorem join_ok {K : PySem.W.Frag} {H : Hp} {a b : Addr} {n m : Nat} {vs ws : List V} {Q : VK} {E : XK} (ha : UrlAt K H a vs) (hb : UrlAt K H b ws) (oa : OkU n vs) (ob : OkU m ws) (hn : n ≤ 40000) (hm : m ≤ 40000) (bb : isB vs = true) (q : ∀ u H', Ext H H' → UrlAt K H' u (joinV vs ws) → H u = none → Q (.ref u) H') : spJoin K [.ref a, .ref b] H Q E :=
  ⟨vs, ws, ha, hb, oa.mono hn, ob.mono hm, bb, q⟩
section
variable {P : Program} {w : World} {K : PySem.W.Frag} {mg : Str → Option Value} {base : Heap}
theorem ok_folder (c : Ct w K mg) : OkF P w K mg base CX0 1 (He.ga K "folder") ["path"] (spFolder) := by
  obtain ⟨fd, F⟩ := F_folder c
  refine ⟨fd, F.ok sc_folder (fun vs H Q E h => ?_) (fun cdv A outer s H vs Q E hr h => ⟨_, PSs.nox ((pss_one (ps_ret (pe_orT (pe_slice hs_any (cv 0) po_none (po_some (pe_op co_add (pe_m1 PySem.F.slot_str_rfind PySem.F.type_str_rfind cm_rfind (cv 0) pe_str) pe_int))) (pe_one pe_str))))), ?_⟩), F.bindsN fun _ _ _ _ _ _ us hl => match us, hl with | [_], _ => rfl⟩
  · unfold spFolder at h
    split at h
    · rfl
    · exact h.elim
  · unfold spFolder at h
    split at h
    case h_2 => exact h.elim
    rename_i t
    obtain ⟨ht, q⟩ := h
    have sl := sl
    unfold tRet tOrT
    (try simp only [tSeq, tNext, tIfS, tFor_eq, cBl, tOp, tC, cI, cIc, cAdd, cVar, hEq, hNe, hIn, hNotIn, hLen, hSl, tM1, tBM, cT1, cT1f, cFind3, cSplit, cPart, rNewStrs, hIsS, hTru, tAsg, gName, gSub, tRet, tRetN, tCons, tNil, tTup, tLst, tCB, tNot, tAnd, tNotV, tAndV, tOrV, tOr, V.bl.injEq, V.int.injEq, V.str.injEq, exists_eq_left', exists_eq_left, exists_eq', true_and, and_true, cIsN, L2.start, gTup, gCons, gNil, nox_K, cx_K, tCallF, tSl, tPart, tNoPart, iEnum, RZ.iZipA, iRng1, iRng2, cAbs, List.map_cons, List.map_nil, List.length_cons, List.length_nil, List.replicate, List.cons_append, List.nil_append, List.getElem?_cons_zero, List.getElem?_cons_succ, List.getElem?_nil, List.set_cons_zero, List.set_cons_succ, Nat.reduceAdd, Nat.reduceSub, Nat.zero_add, if_true, if_false, reduceIte, reduceCtorEq, Bool.false_eq_true, decide_eq_true_eq, tDrop, cMin2, cJoin, iList, tDNewK, tLc_eq, iStr, wipe])
    have hl := TL.len_tl t
    rcases rfind_slash t with ⟨e, hn⟩ | ⟨a, b, e1, hb, e⟩
    · rw [e]
      have ez : cutS t none (some ((-1 : Int) + 1)) = Str.ofString "" := TL.ext_tl ((sl_to t 0).trans (by rw [List.take_zero]; rfl))
      rw [ez]
      refine ⟨by omega, false, ⟨by decide, rfl⟩, ?_⟩
      rw [if_neg Bool.false_ne_true]
      exact q _ (by rw [fld_none hn]; rfl)
    · rw [e]
      have ez : tl (cutS t none (some ((a.length : Nat) + 1 : Int))) = a ++ [47] := by
        have := sl_to t (a.length + 1)
        rw [show ((a.length + 1 : Nat) : Int) = (a.length : Nat) + 1 by omega] at this
        rw [this, e1]
        have e2 : a.length + 1 = (a ++ [47]).length := by simp
        rw [e2, show a ++ 47 :: b = (a ++ [47]) ++ b by simp, List.take_left]
      have hz : (cutS t none (some ((a.length : Nat) + 1 : Int))).length = a.length + 1 := by rw [TL.len_tl, ez]; simp
      have hat : a.length + 1 ≤ t.length := by rw [hl, e1]; simp only [List.length_append, List.length_cons]; omega
      refine ⟨by omega, true, ⟨by omega, ?_⟩, ?_⟩
      · rw [hz]; simp; omega
      · rw [if_pos rfl]
        exact q _ (by rw [ez, e1, fld_app hb])
theorem ok_join (c : Ct w K mg) : OkF P w K mg base CX0 10 (He.ga K "join") ["base", "reference"] (spJoin K) := by
  obtain ⟨fd, F⟩ := F_join c
  refine ⟨fd, F.ok sc_join (fun vs H Q E h => ?_) (fun cdv A outer s H vs Q E hr h => ⟨_, PSs.nox ((pss_cons (ps_if (pt_not (ct (pe_prop (cv 0) (cls_Url c) (prop_Url_is_base c) (ok_Url_is_base c).choose_spec.1 (hr.mono (by decide)) (ok_Url_is_base c).choose_spec.2 .nil pass0 (by rfl)))) (pss_one ps_dead) pss_nil) (pss_cons (ps_if (ctc co_notN (pe_prop (cv 1) (cls_Url c) (prop_Url_scheme c) (ok_Url_scheme c).choose_spec.1 (hr.mono (by decide)) (ok_Url_scheme c).choose_spec.2 .nil pass0 (by rfl)) pe_non (by rfl)) (pss_cons (ps_set (i := 2) (sc_join).nd rfl (Or.inl rfl) (pfKO (E := E0) (ok_cleaned c) (hr.mono (by decide)) (g_cleaned c) (k_cleaned c) pass0 (pa_cons (pe_prop (cv 1) (cls_Url c) (prop_Url_path c) (ok_Url_path c).choose_spec.1 (hr.mono (by decide)) (ok_Url_path c).choose_spec.2 .nil pass0 (by rfl)) pa_nil) (pk_cons (pe_prop (cv 1) (cls_Url c) (prop_Url_has_authority c) (ok_Url_has_authority c).choose_spec.1 (hr.mono (by decide)) (ok_Url_has_authority c).choose_spec.2 .nil pass0 (by rfl)) pk_nil))) (pss_one (ps_ret (pe_methKw (E := E0) (ks := ["path"]) (cv 1) (cls_Url c) (meth_Url_replaced c) (ok_Url_replaced c) (hr.mono (by decide)) (passes_call takes0 (fun _ _ _ _ z => z)) (pk_cons (cv 2) pk_nil) (by decide +kernel) (by decide +kernel) (by decide))))) pss_nil) (pss_cons (ps_if (ct (pe_prop (cv 1) (cls_Url c) (prop_Url_has_authority c) (ok_Url_has_authority c).choose_spec.1 (hr.mono (by decide)) (ok_Url_has_authority c).choose_spec.2 .nil pass0 (by rfl))) (pss_one (ps_ret (pe_methKw (E := E0) (ks := ["scheme", "path"]) (cv 1) (cls_Url c) (meth_Url_replaced c) (ok_Url_replaced c) (hr.mono (by decide)) (passes_call takes0 (fun _ _ _ _ z => z)) (pk_cons (pe_prop (cv 0) (cls_Url c) (prop_Url_scheme c) (ok_Url_scheme c).choose_spec.1 (hr.mono (by decide)) (ok_Url_scheme c).choose_spec.2 .nil pass0 (by rfl)) (pk_cons (pfD (E := E0) (ok_cleaned c) (hr.mono (by decide)) (g_cleaned c) (k_cleaned c) pass0 (pa_cons (pe_prop (cv 1) (cls_Url c) (prop_Url_path c) (ok_Url_path c).choose_spec.1 (hr.mono (by decide)) (ok_Url_path c).choose_spec.2 .nil pass0 (by rfl)) pa_nil)) pk_nil)) (by decide +kernel) (by decide +kernel) (by decide)))) pss_nil) (pss_cons (ps_if (ctc (ho_eq (hu64 hr)) (pe_prop (cv 1) (cls_Url c) (prop_Url_path c) (ok_Url_path c).choose_spec.1 (hr.mono (by decide)) (ok_Url_path c).choose_spec.2 .nil pass0 (by rfl)) pe_str (by rfl)) (pss_cons (ps_set (i := 3) (sc_join).nd rfl (Or.inl rfl) (pe_ifExp (ctc co_isN (pe_prop (cv 1) (cls_Url c) (prop_Url_query c) (ok_Url_query c).choose_spec.1 (hr.mono (by decide)) (ok_Url_query c).choose_spec.2 .nil pass0 (by rfl)) pe_non (by rfl)) (pe_prop (cv 0) (cls_Url c) (prop_Url_query c) (ok_Url_query c).choose_spec.1 (hr.mono (by decide)) (ok_Url_query c).choose_spec.2 .nil pass0 (by rfl)) (pe_prop (cv 1) (cls_Url c) (prop_Url_query c) (ok_Url_query c).choose_spec.1 (hr.mono (by decide)) (ok_Url_query c).choose_spec.2 .nil pass0 (by rfl)))) (pss_one (ps_ret (pe_methKw (E := E0) (ks := ["query", "fragment"]) (cv 0) (cls_Url c) (meth_Url_replaced c) (ok_Url_replaced c) (hr.mono (by decide)) (passes_call takes0 (fun _ _ _ _ z => z)) (pk_cons (cv 3) (pk_cons (pe_prop (cv 1) (cls_Url c) (prop_Url_fragment c) (ok_Url_fragment c).choose_spec.1 (hr.mono (by decide)) (ok_Url_fragment c).choose_spec.2 .nil pass0 (by rfl)) pk_nil)) (by decide +kernel) (by decide +kernel) (by decide))))) pss_nil) (pss_cons (ps_set (i := 2) (sc_join).nd rfl (Or.inl rfl) (pe_ifExp (ct (pe_m1 PySem.F.slot_str_startswith PySem.F.type_str_startswith cm_startswith (pe_prop (cv 1) (cls_Url c) (prop_Url_path c) (ok_Url_path c).choose_spec.1 (hr.mono (by decide)) (ok_Url_path c).choose_spec.2 .nil pass0 (by rfl)) pe_str)) (pe_prop (cv 1) (cls_Url c) (prop_Url_path c) (ok_Url_path c).choose_spec.1 (hr.mono (by decide)) (ok_Url_path c).choose_spec.2 .nil pass0 (by rfl)) (pe_op co_add (pf (ok_folder c) (hr.mono (by decide)) (g_folder c) (k_folder c) pass0 (pa_cons (pe_prop (cv 0) (cls_Url c) (prop_Url_path c) (ok_Url_path c).choose_spec.1 (hr.mono (by decide)) (ok_Url_path c).choose_spec.2 .nil pass0 (by rfl)) pa_nil)) (pe_prop (cv 1) (cls_Url c) (prop_Url_path c) (ok_Url_path c).choose_spec.1 (hr.mono (by decide)) (ok_Url_path c).choose_spec.2 .nil pass0 (by rfl))))) (pss_cons (ps_set (i := 2) (sc_join).nd rfl (Or.inl rfl) (pfKO (E := E0) (ok_cleaned c) (hr.mono (by decide)) (g_cleaned c) (k_cleaned c) pass0 (pa_cons (cv 2) pa_nil) (pk_cons (pe_prop (cv 0) (cls_Url c) (prop_Url_has_authority c) (ok_Url_has_authority c).choose_spec.1 (hr.mono (by decide)) (ok_Url_has_authority c).choose_spec.2 .nil pass0 (by rfl)) pk_nil))) (pss_one (ps_ret (pe_methKw (E := E0) (ks := ["path", "query", "fragment"]) (cv 0) (cls_Url c) (meth_Url_replaced c) (ok_Url_replaced c) (hr.mono (by decide)) (passes_call takes0 (fun _ _ _ _ z => z)) (pk_cons (cv 2) (pk_cons (pe_prop (cv 1) (cls_Url c) (prop_Url_query c) (ok_Url_query c).choose_spec.1 (hr.mono (by decide)) (ok_Url_query c).choose_spec.2 .nil pass0 (by rfl)) (pk_cons (pe_prop (cv 1) (cls_Url c) (prop_Url_fragment c) (ok_Url_fragment c).choose_spec.1 (hr.mono (by decide)) (ok_Url_fragment c).choose_spec.2 .nil pass0 (by rfl)) pk_nil))) (by decide +kernel) (by decide +kernel) (by decide))))))))))), ?_⟩), F.bindsN fun _ _ _ _ _ _ us hl => match us, hl with | [_, _], _ => rfl⟩
  · unfold spJoin at h
    split at h
    · rfl
    · exact h.elim
  · unfold spJoin at h
    split at h
    case h_2 => exact h.elim
    rename_i a b
    obtain ⟨vs, ws, ha, hb, oa, ob, bb, q⟩ := h
    have sl := sl
    have oj := okU_join oa ob bb
    obtain ⟨⟨s, u, h, p, l, qq, f, rfl⟩, da, la'⟩ := id oa
    obtain ⟨⟨s', u', h', p', l', q', f', rfl⟩, db, lb'⟩ := id ob
    have ll : l.length ≤ 40000 := by
      rcases la' (.str l) (by simp) with e | ⟨t, e, ht⟩
      · cases e
      · cases e; exact ht
    have ll' : l'.length ≤ 40000 := by
      rcases lb' (.str l') (by simp) with e | ⟨t, e, ht⟩
      · cases e
      · cases e; exact ht
    have ej : joinV [s, u, h, p, .str l, qq, f] [s', u', h', p', .str l', q', f'] = (if s' ≠ .non then [s', u', h', p', mkT (cln (hasA h') (tl l')), q', f'] else if h' ≠ .non then [s, u', h', p', mkT (cln true (tl l')), q', f'] else if tl l' = [] then [s, u, h, p, .str l, if q' = .non then qq else q', f']
      else [s, u, h, p, mkT (cln (hasA h) (roadT (tl l) (tl l'))), q', f']) := rfl
    generalize hJ : joinV [s, u, h, p, .str l, qq, f] [s', u', h', p', .str l', q', f'] = J at *
    refine seqStep ?_
    try unfold tIfS
    (try simp only [tNext, tFor_eq, cBl, tOp, tC, cI, cIc, cAdd, cVar, hEq, hNe, hIn, hNotIn, hLen, hSl, tM1, tBM, cT1, cT1f, cFind3, cSplit, cPart, rNewStrs, hIsS, hTru, tAsg, gName, gSub, tRet, tRetN, tCons, tNil, tTup, tLst, tCB, tNot, tAnd, tNotV, tAndV, tOrV, tOr, V.bl.injEq, V.int.injEq, V.str.injEq, exists_eq_left', exists_eq_left, exists_eq', true_and, and_true, cIsN, L2.start, gTup, gCons, gNil, nox_K, cx_K, tCallF, tSl, tPart, tNoPart, iEnum, RZ.iZipA, iRng1, iRng2, cAbs, List.map_cons, List.map_nil, List.length_cons, List.length_nil, List.replicate, List.cons_append, List.nil_append, List.getElem?_cons_zero, List.getElem?_cons_succ, List.getElem?_nil, List.set_cons_zero, List.set_cons_succ, Nat.reduceAdd, Nat.reduceSub, Nat.zero_add, if_true, if_false, reduceIte, reduceCtorEq, Bool.false_eq_true, decide_eq_true_eq, tDrop, cMin2, cJoin, iList, tDNewK, tLc_eq, iStr, wipe])
    have bb2 : (!decide (s = .non) && !opq s h (tl l)) = true := bb
    refine kind_n rfl ha (by omega) ?_
    try dsimp only
    rw [bb2]
    simp only [Bool.not_true, Bool.false_eq_true, if_false]
    refine seqStep ?_
    try unfold tIfS
    (try simp only [tNext, tFor_eq, cBl, tOp, tC, cI, cIc, cAdd, cVar, hEq, hNe, hIn, hNotIn, hLen, hSl, tM1, tBM, cT1, cT1f, cFind3, cSplit, cPart, rNewStrs, hIsS, hTru, tAsg, gName, gSub, tRet, tRetN, tCons, tNil, tTup, tLst, tCB, tNot, tAnd, tNotV, tAndV, tOrV, tOr, V.bl.injEq, V.int.injEq, V.str.injEq, exists_eq_left', exists_eq_left, exists_eq', true_and, and_true, cIsN, L2.start, gTup, gCons, gNil, nox_K, cx_K, tCallF, tSl, tPart, tNoPart, iEnum, RZ.iZipA, iRng1, iRng2, cAbs, List.map_cons, List.map_nil, List.length_cons, List.length_nil, List.replicate, List.cons_append, List.nil_append, List.getElem?_cons_zero, List.getElem?_cons_succ, List.getElem?_nil, List.set_cons_zero, List.set_cons_succ, Nat.reduceAdd, Nat.reduceSub, Nat.zero_add, if_true, if_false, reduceIte, reduceCtorEq, Bool.false_eq_true, decide_eq_true_eq, tDrop, cMin2, cJoin, iList, tDNewK, tLc_eq, iStr, wipe])
    refine prop_n rfl hb rfl rfl ?_
    try dsimp only
    by_cases c1 : s' = .non
    · rw [decide_eq_true c1]
      rw [if_neg (fun z => z c1)] at ej
      simp only [Bool.not_true, Bool.false_eq_true, if_false]
      refine seqStep ?_
      try unfold tIfS
      (try simp only [tNext, tFor_eq, cBl, tOp, tC, cI, cIc, cAdd, cVar, hEq, hNe, hIn, hNotIn, hLen, hSl, tM1, tBM, cT1, cT1f, cFind3, cSplit, cPart, rNewStrs, hIsS, hTru, tAsg, gName, gSub, tRet, tRetN, tCons, tNil, tTup, tLst, tCB, tNot, tAnd, tNotV, tAndV, tOrV, tOr, V.bl.injEq, V.int.injEq, V.str.injEq, exists_eq_left', exists_eq_left, exists_eq', true_and, and_true, cIsN, L2.start, gTup, gCons, gNil, nox_K, cx_K, tCallF, tSl, tPart, tNoPart, iEnum, RZ.iZipA, iRng1, iRng2, cAbs, List.map_cons, List.map_nil, List.length_cons, List.length_nil, List.replicate, List.cons_append, List.nil_append, List.getElem?_cons_zero, List.getElem?_cons_succ, List.getElem?_nil, List.set_cons_zero, List.set_cons_succ, Nat.reduceAdd, Nat.reduceSub, Nat.zero_add, if_true, if_false, reduceIte, reduceCtorEq, Bool.false_eq_true, decide_eq_true_eq, tDrop, cMin2, cJoin, iList, tDNewK, tLc_eq, iStr, wipe])
      refine kind_n rfl hb (by omega) ?_
      try dsimp only
      by_cases c2 : h' = .non
      · rw [if_neg (fun z => z c2)] at ej
        rw [show hasA h' = false by unfold hasA; rw [decide_eq_true c2]; rfl]
        simp only [Bool.false_eq_true, if_false]
        refine seqStep ?_
        try unfold tIfS
        (try simp only [tNext, tFor_eq, cBl, tOp, tC, cI, cIc, cAdd, cVar, hEq, hNe, hIn, hNotIn, hLen, hSl, tM1, tBM, cT1, cT1f, cFind3, cSplit, cPart, rNewStrs, hIsS, hTru, tAsg, gName, gSub, tRet, tRetN, tCons, tNil, tTup, tLst, tCB, tNot, tAnd, tNotV, tAndV, tOrV, tOr, V.bl.injEq, V.int.injEq, V.str.injEq, exists_eq_left', exists_eq_left, exists_eq', true_and, and_true, cIsN, L2.start, gTup, gCons, gNil, nox_K, cx_K, tCallF, tSl, tPart, tNoPart, iEnum, RZ.iZipA, iRng1, iRng2, cAbs, List.map_cons, List.map_nil, List.length_cons, List.length_nil, List.replicate, List.cons_append, List.nil_append, List.getElem?_cons_zero, List.getElem?_cons_succ, List.getElem?_nil, List.set_cons_zero, List.set_cons_succ, Nat.reduceAdd, Nat.reduceSub, Nat.zero_add, if_true, if_false, reduceIte, reduceCtorEq, Bool.false_eq_true, decide_eq_true_eq, tDrop, cMin2, cJoin, iList, tDNewK, tLc_eq, iStr, wipe])
        refine prop_n rfl hb rfl rfl ?_
        try dsimp only
        by_cases c3 : l' = Str.ofString ""
        · have c3' : tl l' = [] := by rw [c3]; rfl
          rw [if_pos c3'] at ej
          rw [if_pos c3]
          refine seqStep ?_
          try unfold tIf
          (try simp only [tNext, tFor_eq, cBl, tOp, tC, cI, cIc, cAdd, cVar, hEq, hNe, hIn, hNotIn, hLen, hSl, tM1, tBM, cT1, cT1f, cFind3, cSplit, cPart, rNewStrs, hIsS, hTru, tAsg, gName, gSub, tRet, tRetN, tCons, tNil, tTup, tLst, tCB, tNot, tAnd, tNotV, tAndV, tOrV, tOr, V.bl.injEq, V.int.injEq, V.str.injEq, exists_eq_left', exists_eq_left, exists_eq', true_and, and_true, cIsN, L2.start, gTup, gCons, gNil, nox_K, cx_K, tCallF, tSl, tPart, tNoPart, iEnum, RZ.iZipA, iRng1, iRng2, cAbs, List.map_cons, List.map_nil, List.length_cons, List.length_nil, List.replicate, List.cons_append, List.nil_append, List.getElem?_cons_zero, List.getElem?_cons_succ, List.getElem?_nil, List.set_cons_zero, List.set_cons_succ, Nat.reduceAdd, Nat.reduceSub, Nat.zero_add, if_true, if_false, reduceIte, reduceCtorEq, Bool.false_eq_true, decide_eq_true_eq, tDrop, cMin2, cJoin, iList, tDNewK, tLc_eq, iStr, wipe])
          refine prop_n rfl hb rfl rfl ?_
          try dsimp only
          have fin : ∀ (v : V) (u2 : Option V), v = (if q' = .non then qq else q') → tMethKw (He.ga K "Url") "replaced" ["query", "fragment"] (spRepl K) E0 (cVar 0) (tCons (cVar 3) (tCons (tProp (He.ga K "Url") (spGet K 6) [] E0 (cVar 1)) tNil)) [some (.ref a), some (.ref b), u2, some v] H Q := by
            intro v u2 ev
            obtain ⟨dx, T, h1, h2⟩ := id ha
            refine ⟨a, dx, _, rfl, h1, rfl, ?_⟩
            (try simp only [tNext, tFor_eq, cBl, tOp, tC, cI, cIc, cAdd, cVar, hEq, hNe, hIn, hNotIn, hLen, hSl, tM1, tBM, cT1, cT1f, cFind3, cSplit, cPart, rNewStrs, hIsS, hTru, tAsg, gName, gSub, tRet, tRetN, tCons, tNil, tTup, tLst, tCB, tNot, tAnd, tNotV, tAndV, tOrV, tOr, V.bl.injEq, V.int.injEq, V.str.injEq, exists_eq_left', exists_eq_left, exists_eq', true_and, and_true, cIsN, L2.start, gTup, gCons, gNil, nox_K, cx_K, tCallF, tSl, tPart, tNoPart, iEnum, RZ.iZipA, iRng1, iRng2, cAbs, List.map_cons, List.map_nil, List.length_cons, List.length_nil, List.replicate, List.cons_append, List.nil_append, List.getElem?_cons_zero, List.getElem?_cons_succ, List.getElem?_nil, List.set_cons_zero, List.set_cons_succ, Nat.reduceAdd, Nat.reduceSub, Nat.zero_add, if_true, if_false, reduceIte, reduceCtorEq, Bool.false_eq_true, decide_eq_true_eq, tDrop, cMin2, cJoin, iList, tDNewK, tLc_eq, iStr, wipe])
            refine prop_n rfl hb rfl rfl ?_
            exact repl_u (is := [(5, v), (6, f')]) ha rfl (Nat.le_of_ble_eq_true rfl) (by simp) (by rw [ev]; exact ej ▸ oj) (by decide) (fun u' H' e hu' h0 => q u' H' e (by rw [ej, ← ev]; exact hu') h0)
          by_cases c4 : q' = .non
          · rw [if_pos c4]
            refine prop_n rfl ha rfl rfl ?_
            exact fin qq _ (by rw [if_pos c4])
          · rw [if_neg c4]
            refine prop_n rfl hb rfl rfl ?_
            exact fin q' _ (by rw [if_neg c4])
        · have c3' : tl l' ≠ [] := fun e => c3 (TL.ext_tl e)
          rw [if_neg c3'] at ej
          rw [if_neg c3]
          refine seqCps (fun σ H' => Ext H H' ∧ ∃ z : Str, ∃ u2, σ = [some (.ref a), some (.ref b), some (.str z), u2] ∧ tl z = roadT (tl l) (tl l')) (fun Nx hN => ?_) ?_
          · unfold tAsg tIf
            (try simp only [tNext, tFor_eq, cBl, tOp, tC, cI, cIc, cAdd, cVar, hEq, hNe, hIn, hNotIn, hLen, hSl, tM1, tBM, cT1, cT1f, cFind3, cSplit, cPart, rNewStrs, hIsS, hTru, tAsg, gName, gSub, tRet, tRetN, tCons, tNil, tTup, tLst, tCB, tNot, tAnd, tNotV, tAndV, tOrV, tOr, V.bl.injEq, V.int.injEq, V.str.injEq, exists_eq_left', exists_eq_left, exists_eq', true_and, and_true, cIsN, L2.start, gTup, gCons, gNil, nox_K, cx_K, tCallF, tSl, tPart, tNoPart, iEnum, RZ.iZipA, iRng1, iRng2, cAbs, List.map_cons, List.map_nil, List.length_cons, List.length_nil, List.replicate, List.cons_append, List.nil_append, List.getElem?_cons_zero, List.getElem?_cons_succ, List.getElem?_nil, List.set_cons_zero, List.set_cons_succ, Nat.reduceAdd, Nat.reduceSub, Nat.zero_add, if_true, if_false, reduceIte, reduceCtorEq, Bool.false_eq_true, decide_eq_true_eq, tDrop, cMin2, cJoin, iList, tDNewK, tLc_eq, iStr, wipe])
            refine prop_n rfl hb rfl rfl ⟨⟨_, rfl⟩, ?_⟩
            try dsimp only
            rw [starts1]
            by_cases c5 : (tl l').take 1 = [47]
            · rw [decide_eq_true c5, if_pos rfl]
              refine prop_n rfl hb rfl rfl ?_
              exact hN _ _ ⟨Ext.rf, _, _, rfl, by unfold roadT; rw [if_pos c5]⟩
            · rw [decide_eq_false c5, if_neg Bool.false_ne_true]
              refine prop_n rfl ha rfl rfl ⟨by omega, fun z ez => ?_⟩
              try dsimp only
              refine prop_n rfl hb rfl rfl ?_
              try dsimp only
              have hz : z.length ≤ 40001 := by
                have := fld_len (tl l)
                rw [← ez, ← TL.len_tl, ← TL.len_tl] at this
                omega
              refine ⟨by omega, hN _ _ ⟨Ext.rf, _, _, rfl, ?_⟩⟩
              unfold roadT
              rw [if_neg c5, TL.tl_append, ez]
          · rintro σ H1 ⟨x1, z, u2, rfl, ez⟩
            have ha1 := ha.ext x1
            have hb1 := hb.ext x1
            have hz : z.length ≤ 80010 := by
              rw [TL.len_tl, ez]
              unfold roadT
              have := fld_len (tl l)
              have := TL.len_tl l
              have := TL.len_tl l'
              split
              · omega
              · rw [List.length_append]; omega
            refine seqStep ?_
            try unfold tCallKO
            (try simp only [tNext, tFor_eq, cBl, tOp, tC, cI, cIc, cAdd, cVar, hEq, hNe, hIn, hNotIn, hLen, hSl, tM1, tBM, cT1, cT1f, cFind3, cSplit, cPart, rNewStrs, hIsS, hTru, tAsg, gName, gSub, tRet, tRetN, tCons, tNil, tTup, tLst, tCB, tNot, tAnd, tNotV, tAndV, tOrV, tOr, V.bl.injEq, V.int.injEq, V.str.injEq, exists_eq_left', exists_eq_left, exists_eq', true_and, and_true, cIsN, L2.start, gTup, gCons, gNil, nox_K, cx_K, tCallF, tSl, tPart, tNoPart, iEnum, RZ.iZipA, iRng1, iRng2, cAbs, List.map_cons, List.map_nil, List.length_cons, List.length_nil, List.replicate, List.cons_append, List.nil_append, List.getElem?_cons_zero, List.getElem?_cons_succ, List.getElem?_nil, List.set_cons_zero, List.set_cons_succ, Nat.reduceAdd, Nat.reduceSub, Nat.zero_add, if_true, if_false, reduceIte, reduceCtorEq, Bool.false_eq_true, decide_eq_true_eq, tDrop, cMin2, cJoin, iList, tDNewK, tLc_eq, iStr, wipe])
            refine kind_n rfl ha1 (by omega) ?_
            refine ⟨by omega, fun z2 H2 x2 ez2 => ?_⟩
            (try simp only [tNext, tFor_eq, cBl, tOp, tC, cI, cIc, cAdd, cVar, hEq, hNe, hIn, hNotIn, hLen, hSl, tM1, tBM, cT1, cT1f, cFind3, cSplit, cPart, rNewStrs, hIsS, hTru, tAsg, gName, gSub, tRet, tRetN, tCons, tNil, tTup, tLst, tCB, tNot, tAnd, tNotV, tAndV, tOrV, tOr, V.bl.injEq, V.int.injEq, V.str.injEq, exists_eq_left', exists_eq_left, exists_eq', true_and, and_true, cIsN, L2.start, gTup, gCons, gNil, nox_K, cx_K, tCallF, tSl, tPart, tNoPart, iEnum, RZ.iZipA, iRng1, iRng2, cAbs, List.map_cons, List.map_nil, List.length_cons, List.length_nil, List.replicate, List.cons_append, List.nil_append, List.getElem?_cons_zero, List.getElem?_cons_succ, List.getElem?_nil, List.set_cons_zero, List.set_cons_succ, Nat.reduceAdd, Nat.reduceSub, Nat.zero_add, if_true, if_false, reduceIte, reduceCtorEq, Bool.false_eq_true, decide_eq_true_eq, tDrop, cMin2, cJoin, iList, tDNewK, tLc_eq, iStr, wipe])
            have ha2 := ha1.ext x2
            have hb2 := hb1.ext x2
            obtain ⟨dx, T, h1, h2⟩ := id ha2
            refine ⟨a, dx, _, rfl, h1, rfl, ?_⟩
            (try simp only [tNext, tFor_eq, cBl, tOp, tC, cI, cIc, cAdd, cVar, hEq, hNe, hIn, hNotIn, hLen, hSl, tM1, tBM, cT1, cT1f, cFind3, cSplit, cPart, rNewStrs, hIsS, hTru, tAsg, gName, gSub, tRet, tRetN, tCons, tNil, tTup, tLst, tCB, tNot, tAnd, tNotV, tAndV, tOrV, tOr, V.bl.injEq, V.int.injEq, V.str.injEq, exists_eq_left', exists_eq_left, exists_eq', true_and, and_true, cIsN, L2.start, gTup, gCons, gNil, nox_K, cx_K, tCallF, tSl, tPart, tNoPart, iEnum, RZ.iZipA, iRng1, iRng2, cAbs, List.map_cons, List.map_nil, List.length_cons, List.length_nil, List.replicate, List.cons_append, List.nil_append, List.getElem?_cons_zero, List.getElem?_cons_succ, List.getElem?_nil, List.set_cons_zero, List.set_cons_succ, Nat.reduceAdd, Nat.reduceSub, Nat.zero_add, if_true, if_false, reduceIte, reduceCtorEq, Bool.false_eq_true, decide_eq_true_eq, tDrop, cMin2, cJoin, iList, tDNewK, tLc_eq, iStr, wipe])
            refine prop_n rfl hb2 rfl rfl ?_
            refine prop_n rfl hb2 rfl rfl ?_
            have e3 : V.str z2 = mkT (cln (hasA h) (roadT (tl l) (tl l'))) := mk_str (by rw [ez2, ez])
            refine repl_u (is := [(4, .str z2), (5, q'), (6, f')]) ha2 rfl (Nat.le_of_ble_eq_true rfl) (by simp) (by rw [e3]; exact ej ▸ oj) (by decide) fun u' H' e hu' h0 => q u' H' ((x1.tr x2).tr e) (by rw [ej, ← e3]; exact hu') (Ext.none (x1.tr x2) h0)
      · rw [if_pos c2] at ej
        rw [show hasA h' = true by unfold hasA; rw [decide_eq_false c2]; rfl]
        rw [if_pos rfl]
        obtain ⟨dx, T, h1, h2⟩ := id hb
        refine ⟨b, dx, _, rfl, h1, rfl, ?_⟩
        (try simp only [tNext, tFor_eq, cBl, tOp, tC, cI, cIc, cAdd, cVar, hEq, hNe, hIn, hNotIn, hLen, hSl, tM1, tBM, cT1, cT1f, cFind3, cSplit, cPart, rNewStrs, hIsS, hTru, tAsg, gName, gSub, tRet, tRetN, tCons, tNil, tTup, tLst, tCB, tNot, tAnd, tNotV, tAndV, tOrV, tOr, V.bl.injEq, V.int.injEq, V.str.injEq, exists_eq_left', exists_eq_left, exists_eq', true_and, and_true, cIsN, L2.start, gTup, gCons, gNil, nox_K, cx_K, tCallF, tSl, tPart, tNoPart, iEnum, RZ.iZipA, iRng1, iRng2, cAbs, List.map_cons, List.map_nil, List.length_cons, List.length_nil, List.replicate, List.cons_append, List.nil_append, List.getElem?_cons_zero, List.getElem?_cons_succ, List.getElem?_nil, List.set_cons_zero, List.set_cons_succ, Nat.reduceAdd, Nat.reduceSub, Nat.zero_add, if_true, if_false, reduceIte, reduceCtorEq, Bool.false_eq_true, decide_eq_true_eq, tDrop, cMin2, cJoin, iList, tDNewK, tLc_eq, iStr, wipe])
        refine prop_n rfl ha rfl rfl ?_
        try unfold tCallD
        (try simp only [tNext, tFor_eq, cBl, tOp, tC, cI, cIc, cAdd, cVar, hEq, hNe, hIn, hNotIn, hLen, hSl, tM1, tBM, cT1, cT1f, cFind3, cSplit, cPart, rNewStrs, hIsS, hTru, tAsg, gName, gSub, tRet, tRetN, tCons, tNil, tTup, tLst, tCB, tNot, tAnd, tNotV, tAndV, tOrV, tOr, V.bl.injEq, V.int.injEq, V.str.injEq, exists_eq_left', exists_eq_left, exists_eq', true_and, and_true, cIsN, L2.start, gTup, gCons, gNil, nox_K, cx_K, tCallF, tSl, tPart, tNoPart, iEnum, RZ.iZipA, iRng1, iRng2, cAbs, List.map_cons, List.map_nil, List.length_cons, List.length_nil, List.replicate, List.cons_append, List.nil_append, List.getElem?_cons_zero, List.getElem?_cons_succ, List.getElem?_nil, List.set_cons_zero, List.set_cons_succ, Nat.reduceAdd, Nat.reduceSub, Nat.zero_add, if_true, if_false, reduceIte, reduceCtorEq, Bool.false_eq_true, decide_eq_true_eq, tDrop, cMin2, cJoin, iList, tDNewK, tLc_eq, iStr, wipe])
        refine prop_n rfl hb rfl rfl ⟨by omega, fun z H1 x1 ez => ?_⟩
        have e3 : V.str z = mkT (cln true (tl l')) := mk_str ez
        refine repl_u (is := [(0, s), (4, .str z)]) (hb.ext x1) rfl (Nat.le_of_ble_eq_true rfl) (by simp) (by rw [e3]; exact ej ▸ oj) (by decide) fun u' H' e hu' h0 => q u' H' (x1.tr e) (by rw [ej, ← e3]; exact hu') (Ext.none x1 h0)
    · rw [if_pos c1] at ej
      rw [decide_eq_false c1]
      simp only [Bool.not_false, if_true]
      refine seqStep ?_
      try unfold tCallKO
      (try simp only [tNext, tFor_eq, cBl, tOp, tC, cI, cIc, cAdd, cVar, hEq, hNe, hIn, hNotIn, hLen, hSl, tM1, tBM, cT1, cT1f, cFind3, cSplit, cPart, rNewStrs, hIsS, hTru, tAsg, gName, gSub, tRet, tRetN, tCons, tNil, tTup, tLst, tCB, tNot, tAnd, tNotV, tAndV, tOrV, tOr, V.bl.injEq, V.int.injEq, V.str.injEq, exists_eq_left', exists_eq_left, exists_eq', true_and, and_true, cIsN, L2.start, gTup, gCons, gNil, nox_K, cx_K, tCallF, tSl, tPart, tNoPart, iEnum, RZ.iZipA, iRng1, iRng2, cAbs, List.map_cons, List.map_nil, List.length_cons, List.length_nil, List.replicate, List.cons_append, List.nil_append, List.getElem?_cons_zero, List.getElem?_cons_succ, List.getElem?_nil, List.set_cons_zero, List.set_cons_succ, Nat.reduceAdd, Nat.reduceSub, Nat.zero_add, if_true, if_false, reduceIte, reduceCtorEq, Bool.false_eq_true, decide_eq_true_eq, tDrop, cMin2, cJoin, iList, tDNewK, tLc_eq, iStr, wipe])
      refine prop_n rfl hb rfl rfl ?_
      refine kind_n rfl hb (by omega) ?_
      refine ⟨by omega, fun z H1 x1 ez => ?_⟩
      (try simp only [tNext, tFor_eq, cBl, tOp, tC, cI, cIc, cAdd, cVar, hEq, hNe, hIn, hNotIn, hLen, hSl, tM1, tBM, cT1, cT1f, cFind3, cSplit, cPart, rNewStrs, hIsS, hTru, tAsg, gName, gSub, tRet, tRetN, tCons, tNil, tTup, tLst, tCB, tNot, tAnd, tNotV, tAndV, tOrV, tOr, V.bl.injEq, V.int.injEq, V.str.injEq, exists_eq_left', exists_eq_left, exists_eq', true_and, and_true, cIsN, L2.start, gTup, gCons, gNil, nox_K, cx_K, tCallF, tSl, tPart, tNoPart, iEnum, RZ.iZipA, iRng1, iRng2, cAbs, List.map_cons, List.map_nil, List.length_cons, List.length_nil, List.replicate, List.cons_append, List.nil_append, List.getElem?_cons_zero, List.getElem?_cons_succ, List.getElem?_nil, List.set_cons_zero, List.set_cons_succ, Nat.reduceAdd, Nat.reduceSub, Nat.zero_add, if_true, if_false, reduceIte, reduceCtorEq, Bool.false_eq_true, decide_eq_true_eq, tDrop, cMin2, cJoin, iList, tDNewK, tLc_eq, iStr, wipe])
      obtain ⟨dx, T, h1, h2⟩ := id (hb.ext x1)
      refine ⟨b, dx, _, rfl, h1, rfl, ?_⟩
      (try simp only [tNext, tFor_eq, cBl, tOp, tC, cI, cIc, cAdd, cVar, hEq, hNe, hIn, hNotIn, hLen, hSl, tM1, tBM, cT1, cT1f, cFind3, cSplit, cPart, rNewStrs, hIsS, hTru, tAsg, gName, gSub, tRet, tRetN, tCons, tNil, tTup, tLst, tCB, tNot, tAnd, tNotV, tAndV, tOrV, tOr, V.bl.injEq, V.int.injEq, V.str.injEq, exists_eq_left', exists_eq_left, exists_eq', true_and, and_true, cIsN, L2.start, gTup, gCons, gNil, nox_K, cx_K, tCallF, tSl, tPart, tNoPart, iEnum, RZ.iZipA, iRng1, iRng2, cAbs, List.map_cons, List.map_nil, List.length_cons, List.length_nil, List.replicate, List.cons_append, List.nil_append, List.getElem?_cons_zero, List.getElem?_cons_succ, List.getElem?_nil, List.set_cons_zero, List.set_cons_succ, Nat.reduceAdd, Nat.reduceSub, Nat.zero_add, if_true, if_false, reduceIte, reduceCtorEq, Bool.false_eq_true, decide_eq_true_eq, tDrop, cMin2, cJoin, iList, tDNewK, tLc_eq, iStr, wipe])
      have e3 : V.str z = mkT (cln (hasA h') (tl l')) := mk_str ez
      refine repl_u (is := [(4, .str z)]) (hb.ext x1) rfl (Nat.le_of_ble_eq_true rfl) (by simp) (by rw [e3]; exact ej ▸ oj) (by decide) fun u' H' e hu' h0 => q u' H' (x1.tr e) (by rw [ej, ← e3]; exact hu') (Ext.none x1 h0)
end
end Da
set_option Elab.async false
set_option linter.all false
set_option maxRecDepth 100000
set_option maxHeartbeats 4000000
namespace Da
open PySem PySem.Spec PyProof.Rows L2 Hd Xs Fx Mi Ms Md Mq Mv ClX Xr
open TL (tl joinL)
/-! ### least references: their rank, the path between -/
theorem str_n {K : PySem.W.Frag} {a : Addr} {n : Nat} {ws : List V} {H : Hp} {Q2 : VK} (hu : UrlAt K H a ws) (o : OkU n ws) (hn : n ≤ (100000 : Nat)) (k : ∀ z H', Ext H H' → tl z = txtV ws → Q2 (.str z) H') : SpIns (uC K) (spStr K) isStrV [.ref a] H Q2 := by
  obtain ⟨⟨s, u, h, p, l, qq, f, rfl⟩, d, hl⟩ := o
  obtain ⟨dx, Ta, hu1, hT⟩ := id hu
  have g : ∀ v, Lv n v → Good v := fun v h => by
    rcases h with rfl | ⟨t, rfl, ht⟩
    · exact .inl rfl
    · exact .inr ⟨t, rfl, by omega⟩
  have hll : l.length ≤ (100000 : Nat) := by
    rcases hl (.str l) (.tail _ (.tail _ (.tail _ (.tail _ (.head _))))) with e | ⟨t, e, ht⟩
    · cases e
    · cases e; omega
  exact ⟨a, dx, _, rfl, hu1, s, u, h, p, l, qq, f, hu, g _ (hl s (.head _)), g _ (hl u (.tail _ (.head _))), g _ (hl h (.tail _ (.tail _ (.head _)))), g _ (hl p (.tail _ (.tail _ (.tail _ (.head _))))), hll,
    g _ (hl qq (.tail _ (.tail _ (.tail _ (.tail _ (.tail _ (.head _))))))), g _ (hl f (.tail _ (.tail _ (.tail _ (.tail _ (.tail _ (.tail _ (.head _)))))))), fun z H2 he2 hz => ⟨⟨z, rfl⟩, k z H2 he2 hz⟩⟩
theorem ite_len {b : Bool} {x : T} {n : Nat} (h : x.length ≤ n) : (if b = true then [] else x : T).length ≤ n := by
  cases b with
  | true => exact Nat.zero_le _
  | false => exact h
theorem txt_ln {n : Nat} {ws : List V} (o : OkU n ws) : (txtV ws).length ≤ 7 * n + 20 := by
  obtain ⟨⟨s, u, h, p, l, qq, f, rfl⟩, d, hl⟩ := o
  have g : ∀ v, Lv n v → (oT v).length ≤ n := fun v h => by
    rcases h with rfl | ⟨t, rfl, ht⟩
    · exact Nat.zero_le _
    · rw [oT_str, ← TL.len_tl]; exact ht
  have m0 := g _ (hl s (.head _))
  have m1 := g _ (hl u (.tail _ (.head _)))
  have m2 := g _ (hl h (.tail _ (.tail _ (.head _))))
  have m3 := g _ (hl p (.tail _ (.tail _ (.tail _ (.head _)))))
  have m4 := g _ (hl (.str l) (.tail _ (.tail _ (.tail _ (.tail _ (.head _))))))
  have m5 := g _ (hl qq (.tail _ (.tail _ (.tail _ (.tail _ (.tail _ (.head _)))))))
  have m6 := g _ (hl f (.tail _ (.tail _ (.tail _ (.tail _ (.tail _ (.tail _ (.head _))))))))
  have one : ∀ (c : Nat) (x : T), x.length ≤ n → ([c] ++ x).length ≤ n + 1 := fun c x h => by simp; omega
  have two : ∀ (c : Nat) (x : T), x.length ≤ n → (x ++ [c]).length ≤ n + 1 := fun c x h => by simp; omega
  have a0 := ite_len (b := isNo s) (two 58 _ m0)
  have a1 := ite_len (b := isNo h) (x := [47, 47]) (n := 2) (by simp)
  have a2 := ite_len (b := isNo u) (two 64 _ m1)
  have a3 := ite_len (b := isNo h) m2
  have a4 := ite_len (b := isNo p) (one 58 _ m3)
  have a5 := ite_len (b := isNo qq) (one 63 _ m5)
  have a6 := ite_len (b := isNo f) (one 35 _ m6)
  simp only [txtV, List.length_append] at *
  omega
theorem cutV_m1 (xs : List V) : cutV xs none (some (-1)) = xs.dropLast := by
  show ((xs.drop (HT.sIx xs.length 0 none)).take (HT.sIx xs.length xs.length (some (-1)) - HT.sIx xs.length 0 none)) = _
  have e : HT.sIx xs.length xs.length (some (-1)) = xs.length - 1 := by
    show (if (-1 : Int) < 0 then ((-1 : Int) + (xs.length : Int)).toNat else min (-1 : Int).toNat xs.length) = _
    rw [if_pos (by decide)]
    omega
  rw [HT.sIx_none, List.drop_zero, List.dropLast_eq_take, e, Nat.sub_zero]
def spRank (K : PySem.W.Frag) : Sp := fun vs H Q _ => match vs with
  | [.ref a] => ∃ ws, UrlAt K H a ws ∧ OkU 60000 ws ∧ ∀ p z H', Ext H H' → tl z = txtV ws → H' p = some (.tup [.int ((z.length : Nat) : Int), .str z]) → Q (.ref p) H'
  | _ => False
def spFolders (K : PySem.W.Frag) : Sp := fun vs H Q _ => match vs with
  | [.ref a] => ∃ ws, UrlAt K H a ws ∧ OkU 60000 ws ∧ (oT (ws.getD 4 .non) = [] ∨ (oT (ws.getD 4 .non)).take 1 = [47]) ∧ ∀ p (ks : List Str) H', Ext H H' → H p = none → H' p = some (.lst (ks.map V.str)) → ks.map tl = fdT (oT (ws.getD 4 .non)) → Q (.ref p) H'
  | _ => False
def spBetween : Sp := fun vs H Q _ => match vs with
  | [.ref a, .ref b] => ∃ fs gs : List Str, H a = some (.lst (fs.map V.str)) ∧ H b = some (.lst (gs.map V.str)) ∧ gs ≠ [] ∧ wt (fs.map tl) ≤ 100010 ∧ wt (gs.map tl) ≤ 100010 ∧ (∀ g ∈ gs, 47 ∉ tl g) ∧ (∀ g ∈ gs, Sg g) ∧ ∀ z H', Ext H H' → tl z = pathB (fs.map tl) (gs.map tl) → Q (.str z) H'
  | _ => False
section
variable {P : Program} {w : World} {K : PySem.W.Frag} {mg : Str → Option Value} {base : Heap}
theorem ok_rank (c : Ct w K mg) : OkF P w K mg base CX0 6 (He.ga K "rank") ["url"] (spRank K) := by
  obtain ⟨fd, F⟩ := F_rank c
  refine ⟨fd, F.ok sc_rank (fun vs H Q E h => ?_) (fun cdv A outer s H vs Q E hr h => ⟨_, PSs.nox ((pss_cons (ps_set (i := 1) (sc_rank).nd rfl (Or.inl rfl) (pe_callTy (call_str_ins (ok_Url___str__ c).r (hr.mono (by decide)) (spc_Url___str__ c).1 (spc_Url___str__ c).2) (by rfl) (b_str c) (by decide +kernel) (pa_cons (cv 0) pa_nil))) (pss_one (ps_ret (pe_tup (pa_cons (pe_callB hc_len (by rfl) (b_len c) (by decide +kernel) (pa_cons (cv 1) pa_nil)) (pa_cons (cv 1) pa_nil))))))), ?_⟩), F.bindsN fun _ _ _ _ _ _ us hl => match us, hl with | [_], _ => rfl⟩
  · unfold spRank at h
    split at h
    · rfl
    · exact h.elim
  · unfold spRank at h
    split at h
    case h_2 => exact h.elim
    rename_i a
    obtain ⟨ws, hu, o, q⟩ := h
    have sl := sl
    refine seqStep ?_
    (try simp only [tNext, tFor_eq, cBl, tOp, tC, cI, cIc, cAdd, cVar, hEq, hNe, hIn, hNotIn, hLen, hSl, tM1, tBM, cT1, cT1f, cFind3, cSplit, cPart, rNewStrs, hIsS, hTru, tAsg, gName, gSub, tRet, tRetN, tCons, tNil, tTup, tLst, tCB, tNot, tAnd, tNotV, tAndV, tOrV, tOr, V.bl.injEq, V.int.injEq, V.str.injEq, exists_eq_left', exists_eq_left, exists_eq', true_and, and_true, cIsN, L2.start, gTup, gCons, gNil, nox_K, cx_K, tCallF, tSl, tPart, tNoPart, iEnum, RZ.iZipA, iRng1, iRng2, cAbs, List.map_cons, List.map_nil, List.length_cons, List.length_nil, List.replicate, List.cons_append, List.nil_append, List.getElem?_cons_zero, List.getElem?_cons_succ, List.getElem?_nil, List.set_cons_zero, List.set_cons_succ, Nat.reduceAdd, Nat.reduceSub, Nat.zero_add, if_true, if_false, reduceIte, reduceCtorEq, Bool.false_eq_true, decide_eq_true_eq, tDrop, cMin2, cJoin, iList, tDNewK, tLc_eq, iStr, wipe])
    refine str_n hu o (by decide) fun z H1 x1 ez => ?_
    try dsimp only
    have hz : z.length ≤ 7 * 60000 + 20 := by
      rw [TL.len_tl, ez]; exact txt_ln o
    (try simp only [tNext, tFor_eq, cBl, tOp, tC, cI, cIc, cAdd, cVar, hEq, hNe, hIn, hNotIn, hLen, hSl, tM1, tBM, cT1, cT1f, cFind3, cSplit, cPart, rNewStrs, hIsS, hTru, tAsg, gName, gSub, tRet, tRetN, tCons, tNil, tTup, tLst, tCB, tNot, tAnd, tNotV, tAndV, tOrV, tOr, V.bl.injEq, V.int.injEq, V.str.injEq, exists_eq_left', exists_eq_left, exists_eq', true_and, and_true, cIsN, L2.start, gTup, gCons, gNil, nox_K, cx_K, tCallF, tSl, tPart, tNoPart, iEnum, RZ.iZipA, iRng1, iRng2, cAbs, List.map_cons, List.map_nil, List.length_cons, List.length_nil, List.replicate, List.cons_append, List.nil_append, List.getElem?_cons_zero, List.getElem?_cons_succ, List.getElem?_nil, List.set_cons_zero, List.set_cons_succ, Nat.reduceAdd, Nat.reduceSub, Nat.zero_add, if_true, if_false, reduceIte, reduceCtorEq, Bool.false_eq_true, decide_eq_true_eq, tDrop, cMin2, cJoin, iList, tDNewK, tLc_eq, iStr, wipe])
    refine ⟨by omega, by omega, fun p hp => ?_⟩
    exact q p z _ (x1.fresh hp) ez upd_self
theorem ok__folders (c : Ct w K mg) : OkF P w K mg base CX0 5 (He.ga K "_folders") ["base"] (spFolders K) := by
  obtain ⟨fd, F⟩ := F__folders c
  refine ⟨fd, F.ok sc__folders (fun vs H Q E h => ?_) (fun cdv A outer s H vs Q E hr h => ⟨_, PSs.nox ((pss_one (ps_ret (pe_slice hs_any (pf (ok_stack c) (hr.mono (by decide)) (g_stack c) (k_stack c) pass0 (pa_cons (pf (ok_folder c) (hr.mono (by decide)) (g_folder c) (k_folder c) pass0 (pa_cons (pe_prop (cv 0) (cls_Url c) (prop_Url_path c) (ok_Url_path c).choose_spec.1 (hr.mono (by decide)) (ok_Url_path c).choose_spec.2 .nil pass0 (by rfl)) pa_nil)) pa_nil)) po_none (po_some (pe_un un_neg pe_int)))))), ?_⟩), F.bindsN fun _ _ _ _ _ _ us hl => match us, hl with | [_], _ => rfl⟩
  · unfold spFolders at h
    split at h
    · rfl
    · exact h.elim
  · unfold spFolders at h
    split at h
    case h_2 => exact h.elim
    rename_i a
    obtain ⟨ws, hu, o, hl, q⟩ := h
    have sl := sl
    obtain ⟨⟨s, u, h, p, l, qq, f, rfl⟩, d, hlv⟩ := id o
    have hll : l.length ≤ 60000 := by
      rcases hlv (.str l) (.tail _ (.tail _ (.tail _ (.tail _ (.head _))))) with e | ⟨t, e, ht⟩
      · cases e
      · cases e; omega
    have hl : tl l = [] ∨ (tl l).take 1 = [47] := hl
    unfold tRet
    (try simp only [tNext, tFor_eq, cBl, tOp, tC, cI, cIc, cAdd, cVar, hEq, hNe, hIn, hNotIn, hLen, hSl, tM1, tBM, cT1, cT1f, cFind3, cSplit, cPart, rNewStrs, hIsS, hTru, tAsg, gName, gSub, tRet, tRetN, tCons, tNil, tTup, tLst, tCB, tNot, tAnd, tNotV, tAndV, tOrV, tOr, V.bl.injEq, V.int.injEq, V.str.injEq, exists_eq_left', exists_eq_left, exists_eq', true_and, and_true, cIsN, L2.start, gTup, gCons, gNil, nox_K, cx_K, tCallF, tSl, tPart, tNoPart, iEnum, RZ.iZipA, iRng1, iRng2, cAbs, List.map_cons, List.map_nil, List.length_cons, List.length_nil, List.replicate, List.cons_append, List.nil_append, List.getElem?_cons_zero, List.getElem?_cons_succ, List.getElem?_nil, List.set_cons_zero, List.set_cons_succ, Nat.reduceAdd, Nat.reduceSub, Nat.zero_add, if_true, if_false, reduceIte, reduceCtorEq, Bool.false_eq_true, decide_eq_true_eq, tDrop, cMin2, cJoin, iList, tDNewK, tLc_eq, iStr, wipe])
    refine prop_n rfl hu rfl rfl ?_
    refine ⟨by omega, fun z ez => ?_⟩
    have hzl : z.length ≤ 60001 := by
      have := fld_len (tl l)
      rw [← ez, ← TL.len_tl, ← TL.len_tl] at this
      omega
    refine ⟨by omega, by rw [ez]; exact fld_head hl, fun pk ks H1 x1 hn1 hk ek => ?_⟩
    (try simp only [tNext, tFor_eq, cBl, tOp, tC, cI, cIc, cAdd, cVar, hEq, hNe, hIn, hNotIn, hLen, hSl, tM1, tBM, cT1, cT1f, cFind3, cSplit, cPart, rNewStrs, hIsS, hTru, tAsg, gName, gSub, tRet, tRetN, tCons, tNil, tTup, tLst, tCB, tNot, tAnd, tNotV, tAndV, tOrV, tOr, V.bl.injEq, V.int.injEq, V.str.injEq, exists_eq_left', exists_eq_left, exists_eq', true_and, and_true, cIsN, L2.start, gTup, gCons, gNil, nox_K, cx_K, tCallF, tSl, tPart, tNoPart, iEnum, RZ.iZipA, iRng1, iRng2, cAbs, List.map_cons, List.map_nil, List.length_cons, List.length_nil, List.replicate, List.cons_append, List.nil_append, List.getElem?_cons_zero, List.getElem?_cons_succ, List.getElem?_nil, List.set_cons_zero, List.set_cons_succ, Nat.reduceAdd, Nat.reduceSub, Nat.zero_add, if_true, if_false, reduceIte, reduceCtorEq, Bool.false_eq_true, decide_eq_true_eq, tDrop, cMin2, cJoin, iList, tDNewK, tLc_eq, iStr, wipe])
    refine ⟨1, rfl, _, rfl, ?_⟩
    rw [hk]
    try dsimp only
    intro pn hpn
    refine q pn ks.dropLast _ (x1.fresh hpn) (Ext.none x1 hpn) ?_ ?_
    · rw [upd_self]
      have : cutV (ks.map V.str) none (some (-1)) = ks.dropLast.map V.str := by
        rw [List.map_dropLast]
        exact cutV_m1 _
      rw [this]
    · rw [List.map_dropLast, ek, ez]
      rfl
end
end Da
set_option Elab.async false
set_option linter.all false
set_option maxRecDepth 100000
set_option maxHeartbeats 4000000
namespace Da
open PySem PySem.Spec PyProof.Rows L2 Hd Xs Fx Mi Ms Md Mq Mv ClX Xr
open TL (tl joinL)
def vint (v : Option (Option V)) : Nat := match v with
  | some (some (.int i)) => i.toNat
  | _ => 0
theorem eqvStrsR : ∀ as bs : List Str, PyData.eqvAll (as.map PyData.str) (bs.map PyData.str) = decide (as = bs)
  | [], [] => by simp only [List.map_nil, PyData.eqvAll]; rfl
  | [], b :: bs => by simp only [List.map_nil, List.map_cons, PyData.eqvAll]; rfl
  | a :: as, [] => by simp only [List.map_nil, List.map_cons, PyData.eqvAll]; rfl
  | a :: as, b :: bs => by
    have ih := eqvStrsR as bs
    simp only [List.map_cons, PyData.eqvAll, PyData.eqv]
    rw [ih, Bool.eq_iff_iff]
    simp
theorem cEq_strs {K : PySem.W.Frag} {H : Hp} {p q : Addr} {as bs : List Str} {Q : VK} {neg : Bool} (hp : H p = some (.lst (as.map V.str))) (hq : H q = some (.lst (bs.map V.str))) (sa : ∀ y ∈ as, Sg y) (sb : ∀ y ∈ bs, Sg y) (k : Q (.bl (if neg then !decide (as = bs) else decide (as = bs))) H) : cEq K neg (.ref p) (.ref q) H Q := by
  refine ⟨_, _, .lst (.inl (Rd.of hp)) (dpStrs as), .lst (.inl (Rd.of hq)) (dpStrs bs), shStrs sa, shStrs sb, ?_⟩
  have e : PyData.eqv (.list (as.map PyData.str)) (.list (bs.map PyData.str)) = decide (as = bs) := by
    simp only [PyData.eqv]
    exact eqvStrsR as bs
  rw [e]
  exact k
theorem map_tl_eq {as bs : List Str} (h : as.map tl = bs.map tl) : as = bs := by
  induction as generalizing bs with
  | nil => cases bs with
    | nil => rfl
    | cons b bs => cases h
  | cons a as ih => cases bs with
    | nil => cases h
    | cons b bs =>
      rw [List.map_cons, List.map_cons] at h
      rw [TL.ext_tl (List.cons.inj h).1, ih (List.cons.inj h).2]
theorem sum_le_wt (ps : List Str) : (ps.map (·.length)).sum + ps.length = wt (ps.map tl) := by
  rw [← wt_sum, List.map_map, List.length_map]
  have : (fun p : T => p.length) ∘ tl = (·.length) := by funext x; exact (TL.len_tl x).symm
  rw [this]
section
variable {P : Program} {w : World} {K : PySem.W.Frag} {mg : Str → Option Value} {base : Heap}
theorem ok__path_between (c : Ct w K mg) : OkF P w K mg base CX0 1 (He.ga K "_path_between") ["folders", "goal"] (spBetween) := by
  obtain ⟨fd, F⟩ := F__path_between c
  refine ⟨fd, F.ok sc__path_between (fun vs H Q E h => ?_) (fun cdv A outer s H vs Q E hr h => ⟨_, PSs.nox ((pss_cons (ps_set (i := 2) (sc__path_between).nd rfl (Or.inl rfl) pe_int) (pss_cons (ps_while PassesOwn.never (PW.pt (pw_and (ctc co_lt (cv 2) (pe_callB (cc_min2 rfl) (by rfl) (b_min c) (by decide +kernel) (pa_cons (pe_callB hc_len (by rfl) (b_len c) (by decide +kernel) (pa_cons (cv 0) pa_nil)) (pa_cons (pe_op co_sub (pe_callB hc_len (by rfl) (b_len c) (by decide +kernel) (pa_cons (cv 1) pa_nil)) pe_int) pa_nil))) (by rfl)) (pw_and1 (ctc (ho_eq (hu64 hr)) (hix (cv 0) (cv 2)) (hix (cv 1) (cv 2)) (by rfl))))) (pss_one (ps_aug (i := 2) (sc__path_between).nd rfl (Or.inl rfl) pe_int ip_add))) (pss_cons (ps_set (i := 3) (sc__path_between).nd rfl (Or.inl rfl) (pe_op co_sub (pe_callB hc_len (by rfl) (b_len c) (by decide +kernel) (pa_cons (cv 0) pa_nil)) (cv 2))) (pss_cons (ps_set (i := 4) (sc__path_between).nd rfl (Or.inl rfl) (pe_slice hs_any (cv 1) (po_some (cv 2)) po_none)) (pss_cons (ps_if (ctc (ho_eq (hu64 hr)) (cv 4) (pe_lst (pa_cons pe_str pa_nil)) (by rfl)) (pss_one (ps_ret (pe_ifExp (ctc co_gt (cv 3) pe_int (by rfl)) (pe_m1 PySem.F.slot_str_join PySem.F.type_str_join hm_join pe_str (pe_op ho_mul (pe_lst (pa_cons pe_str pa_nil)) (cv 3))) pe_str))) pss_nil) (pss_cons (ps_set (i := 5) (sc__path_between).nd rfl (Or.inl rfl) (pe_op co_add (pe_op ho_mulS pe_str (cv 3)) (pe_m1 PySem.F.slot_str_join PySem.F.type_str_join hm_join pe_str (cv 4)))) (pss_cons (ps_if (PW.pt (pw_or (ct (pe_m1 PySem.F.slot_str_startswith PySem.F.type_str_startswith cm_startswith (cv 5) pe_str)) (pw_or1 (ctc ho_in pe_str (hix (pe_m1 PySem.F.slot_str_partition PySem.F.type_str_partition cm_partition (cv 5) pe_str) pe_int) (by rfl))))) (pss_one (ps_ret (pe_op co_add pe_str (cv 5)))) pss_nil) (pss_one (ps_ret (cv 5))))))))))), ?_⟩), F.bindsN fun _ _ _ _ _ _ us hl => match us, hl with | [_, _], _ => rfl⟩
  · unfold spBetween at h
    split at h
    · rfl
    · exact h.elim
  · unfold spBetween at h
    split at h
    case h_2 => exact h.elim
    rename_i a b
    obtain ⟨fs, gs, ha, hb, hne, wf, wg, hfree, hsg, q⟩ := h
    have sl := sl
    have lf : fs.length ≤ 100010 := by
      have := wt_len (fs.map tl)
      rw [List.length_map] at this; omega
    have lg : gs.length ≤ 100010 := by
      have := wt_len (gs.map tl)
      rw [List.length_map] at this; omega
    have g0 : 0 < gs.length := List.length_pos_iff.mpr hne
    have hsh := sh_le (fs.map tl) (gs.map tl)
    rw [List.length_map, List.length_map] at hsh
    have hsh2 := hsh.2 (by simpa using hne)
    refine seqStep ?_
    (try simp only [tNext, tFor_eq, cBl, tOp, tC, cI, cIc, cAdd, cVar, hEq, hNe, hIn, hNotIn, hLen, hSl, tM1, tBM, cT1, cT1f, cFind3, cSplit, cPart, rNewStrs, hIsS, hTru, tAsg, gName, gSub, tRet, tRetN, tCons, tNil, tTup, tLst, tCB, tNot, tAnd, tNotV, tAndV, tOrV, tOr, V.bl.injEq, V.int.injEq, V.str.injEq, exists_eq_left', exists_eq_left, exists_eq', true_and, and_true, cIsN, L2.start, gTup, gCons, gNil, nox_K, cx_K, tCallF, tSl, tPart, tNoPart, iEnum, RZ.iZipA, iRng1, iRng2, cAbs, List.map_cons, List.map_nil, List.length_cons, List.length_nil, List.replicate, List.cons_append, List.nil_append, List.getElem?_cons_zero, List.getElem?_cons_succ, List.getElem?_nil, List.set_cons_zero, List.set_cons_succ, Nat.reduceAdd, Nat.reduceSub, Nat.zero_add, if_true, if_false, reduceIte, reduceCtorEq, Bool.false_eq_true, decide_eq_true_eq, tDrop, cMin2, cJoin, iList, tDNewK, tLc_eq, iStr, wipe])
    refine seqCps (fun σ H' => H' = H ∧ ∃ u3 u4 u5, σ = [some (.ref a), some (.ref b), some (.int ((sh (fs.map tl) (gs.map tl) : Nat) : Int)), u3, u4, u5]) (fun Nx hN => ?_) ?_
    · refine lp_while (fun σ H' => H' = H ∧ ∃ (k : Nat) (u3 u4 u5 : Option V), σ = [some (.ref a), some (.ref b), some (.int (k : Nat)), u3, u4, u5] ∧ k ≤ fs.length ∧ k < gs.length ∧ (fs.map tl).take k = (gs.map tl).take k) (fun σ _ => fs.length - vint σ[2]?) ⟨rfl, 0, _, _, _, rfl, Nat.zero_le _, g0, by simp⟩ ?_
      rintro σ H1 ⟨rfl, k, u3, u4, u5, rfl, k1, k2, hk⟩
      (try simp only [tNext, tFor_eq, cBl, tOp, tC, cI, cIc, cAdd, cVar, hEq, hNe, hIn, hNotIn, hLen, hSl, tM1, tBM, cT1, cT1f, cFind3, cSplit, cPart, rNewStrs, hIsS, hTru, tAsg, gName, gSub, tRet, tRetN, tCons, tNil, tTup, tLst, tCB, tNot, tAnd, tNotV, tAndV, tOrV, tOr, V.bl.injEq, V.int.injEq, V.str.injEq, exists_eq_left', exists_eq_left, exists_eq', true_and, and_true, cIsN, L2.start, gTup, gCons, gNil, nox_K, cx_K, tCallF, tSl, tPart, tNoPart, iEnum, RZ.iZipA, iRng1, iRng2, cAbs, List.map_cons, List.map_nil, List.length_cons, List.length_nil, List.replicate, List.cons_append, List.nil_append, List.getElem?_cons_zero, List.getElem?_cons_succ, List.getElem?_nil, List.set_cons_zero, List.set_cons_succ, Nat.reduceAdd, Nat.reduceSub, Nat.zero_add, if_true, if_false, reduceIte, reduceCtorEq, Bool.false_eq_true, decide_eq_true_eq, tDrop, cMin2, cJoin, iList, tDNewK, tLc_eq, iStr, wipe])
      rw [ha]
      simp only
      rw [hb]
      simp only [List.length_map]
      have stop : (k = fs.length ∨ k + 1 = gs.length ∨ (fs.map tl)[k]? ≠ (gs.map tl)[k]?) → sh (fs.map tl) (gs.map tl) = k := fun h => by
        rw [sh_up _ _ k (by simpa using k1) (by simpa using k2) hk, sh_stop (by simpa using h)]
        rfl
      by_cases hk3 : ((k : Nat) : Int) < (if ((gs.length : Nat) : Int) - 1 < ((fs.length : Nat) : Int) then ((gs.length : Nat) : Int) - 1 else ((fs.length : Nat) : Int))
      · rw [if_pos hk3]
        have hkf : k < fs.length := by split at hk3 <;> omega
        have hkg : k + 1 < gs.length := by split at hk3 <;> omega
        refine hIx_lit ha (atI_nat (v := .str fs[k]) (by rw [List.getElem?_map, List.getElem?_eq_getElem hkf]; rfl)) ?_
        refine hIx_lit hb (atI_nat (v := .str gs[k]) (by rw [List.getElem?_map, List.getElem?_eq_getElem k2]; rfl)) ?_
        dsimp only
        by_cases he : fs[k] = gs[k]
        · rw [if_pos he]
          refine ⟨fun σ' H' => H' = H1 ∧ fs.length - vint σ'[2]? < fs.length - k ∧ ∃ (k' : Nat) (u3 u4 u5 : Option V), σ' = [some (.ref a), some (.ref b), some (.int (k' : Nat)), u3, u4, u5] ∧ k' ≤ fs.length ∧ k' < gs.length ∧ (fs.map tl).take k' = (gs.map tl).take k', ?_, ?_⟩
          · rintro σ' H' ⟨e, hl, r⟩
            exact ⟨_, hl, rfl, e, r⟩
          · refine ⟨_, rfl, _, _, rfl, rfl, rfl, ?_, k + 1, _, _, _, rfl, hkf, hkg, ?_⟩
            · show fs.length - ((k : Int) + 1).toNat < fs.length - k
              omega
            · rw [List.take_succ, List.take_succ, hk, List.getElem?_map, List.getElem?_map, List.getElem?_eq_getElem hkf, List.getElem?_eq_getElem k2, he]
        · rw [if_neg he]
          refine hN _ _ ⟨rfl, u3, u4, u5, ?_⟩
          rw [stop (.inr (.inr (by
            rw [List.getElem?_map, List.getElem?_map, List.getElem?_eq_getElem hkf, List.getElem?_eq_getElem k2]
            intro z
            exact he (TL.ext_tl (Option.some.inj z)))))]
      · rw [if_neg hk3]
        refine hN _ _ ⟨rfl, u3, u4, u5, ?_⟩
        rw [stop (by split at hk3 <;> omega)]
    · rintro σ H1 ⟨rfl, u3, u4, u5, rfl⟩
      generalize hk : sh (fs.map tl) (gs.map tl) = k at *
      refine seqStep ?_
      (try simp only [tNext, tFor_eq, cBl, tOp, tC, cI, cIc, cAdd, cVar, hEq, hNe, hIn, hNotIn, hLen, hSl, tM1, tBM, cT1, cT1f, cFind3, cSplit, cPart, rNewStrs, hIsS, hTru, tAsg, gName, gSub, tRet, tRetN, tCons, tNil, tTup, tLst, tCB, tNot, tAnd, tNotV, tAndV, tOrV, tOr, V.bl.injEq, V.int.injEq, V.str.injEq, exists_eq_left', exists_eq_left, exists_eq', true_and, and_true, cIsN, L2.start, gTup, gCons, gNil, nox_K, cx_K, tCallF, tSl, tPart, tNoPart, iEnum, RZ.iZipA, iRng1, iRng2, cAbs, List.map_cons, List.map_nil, List.length_cons, List.length_nil, List.replicate, List.cons_append, List.nil_append, List.getElem?_cons_zero, List.getElem?_cons_succ, List.getElem?_nil, List.set_cons_zero, List.set_cons_succ, Nat.reduceAdd, Nat.reduceSub, Nat.zero_add, if_true, if_false, reduceIte, reduceCtorEq, Bool.false_eq_true, decide_eq_true_eq, tDrop, cMin2, cJoin, iList, tDNewK, tLc_eq, iStr, wipe])
      rw [ha]
      simp only [List.length_map]
      refine seqStep ?_
      (try simp only [tNext, tFor_eq, cBl, tOp, tC, cI, cIc, cAdd, cVar, hEq, hNe, hIn, hNotIn, hLen, hSl, tM1, tBM, cT1, cT1f, cFind3, cSplit, cPart, rNewStrs, hIsS, hTru, tAsg, gName, gSub, tRet, tRetN, tCons, tNil, tTup, tLst, tCB, tNot, tAnd, tNotV, tAndV, tOrV, tOr, V.bl.injEq, V.int.injEq, V.str.injEq, exists_eq_left', exists_eq_left, exists_eq', true_and, and_true, cIsN, L2.start, gTup, gCons, gNil, nox_K, cx_K, tCallF, tSl, tPart, tNoPart, iEnum, RZ.iZipA, iRng1, iRng2, cAbs, List.map_cons, List.map_nil, List.length_cons, List.length_nil, List.replicate, List.cons_append, List.nil_append, List.getElem?_cons_zero, List.getElem?_cons_succ, List.getElem?_nil, List.set_cons_zero, List.set_cons_succ, Nat.reduceAdd, Nat.reduceSub, Nat.zero_add, if_true, if_false, reduceIte, reduceCtorEq, Bool.false_eq_true, decide_eq_true_eq, tDrop, cMin2, cJoin, iList, tDNewK, tLc_eq, iStr, wipe])
      rw [hb]
      try simp only
      intro pr hpr
      have er : cutV (gs.map V.str) (some ((k : Nat) : Int)) none = (gs.drop k).map V.str := by
        rw [List.map_drop]
        show (((gs.map V.str).drop (HT.sIx (gs.map V.str).length 0 (some ((k : Nat) : Int)))).take _) = _
        rw [HT.sIx_nat, HT.sIx_none, List.length_map, Nat.min_eq_left (by omega)]
        exact List.take_of_length_le (by rw [List.length_drop, List.length_map]; omega)
      rw [er]
      have x1 : Ext H1 (upd H1 pr (.lst ((gs.drop k).map V.str))) := Ext.rf.fresh hpr
      have hr1 : (upd H1 pr (.lst ((gs.drop k).map V.str))) pr = some (.lst ((gs.drop k).map V.str)) := upd_self
      generalize (upd H1 pr (.lst ((gs.drop k).map V.str))) = H2 at *
      have hups : ((fs.length : Nat) : Int) - ((k : Nat) : Int) = ((fs.length - k : Nat) : Int) := by omega
      rw [hups]
      generalize hu : fs.length - k = ups at *
      have hul : ups ≤ 100010 := by omega
      have hsr : ∀ y ∈ gs.drop k, Sg y := fun y hy => hsg y (List.mem_of_mem_drop hy)
      refine seqStep ?_
      unfold tIfS
      (try simp only [tNext, tFor_eq, cBl, tOp, tC, cI, cIc, cAdd, cVar, hEq, hNe, hIn, hNotIn, hLen, hSl, tM1, tBM, cT1, cT1f, cFind3, cSplit, cPart, rNewStrs, hIsS, hTru, tAsg, gName, gSub, tRet, tRetN, tCons, tNil, tTup, tLst, tCB, tNot, tAnd, tNotV, tAndV, tOrV, tOr, V.bl.injEq, V.int.injEq, V.str.injEq, exists_eq_left', exists_eq_left, exists_eq', true_and, and_true, cIsN, L2.start, gTup, gCons, gNil, nox_K, cx_K, tCallF, tSl, tPart, tNoPart, iEnum, RZ.iZipA, iRng1, iRng2, cAbs, List.map_cons, List.map_nil, List.length_cons, List.length_nil, List.replicate, List.cons_append, List.nil_append, List.getElem?_cons_zero, List.getElem?_cons_succ, List.getElem?_nil, List.set_cons_zero, List.set_cons_succ, Nat.reduceAdd, Nat.reduceSub, Nat.zero_add, if_true, if_false, reduceIte, reduceCtorEq, Bool.false_eq_true, decide_eq_true_eq, tDrop, cMin2, cJoin, iList, tDNewK, tLc_eq, iStr, wipe])
      refine ⟨by omega, fun p1 hp1 => ?_⟩
      refine cEq_strs (as := gs.drop k) (bs := [Str.ofString ""]) (upd_old hr1 hp1) upd_self hsr (fun y hy => by
        rw [List.mem_singleton.mp hy]; exact Sg.lit (s := "") (by rfl)) ?_
      simp only [Bool.false_eq_true, if_false]
      have x2 := x1.fresh (o := .lst [.str (Str.ofString "")]) hp1
      have hr2 : (upd H2 p1 (.lst [.str (Str.ofString "")])) pr = some (.lst ((gs.drop k).map V.str)) := upd_old hr1 hp1
      generalize (upd H2 p1 (.lst [.str (Str.ofString "")])) = H3 at *
      have hrest : gs.drop k = [Str.ofString ""] ↔ (gs.map tl).drop k = [[]] := by
        rw [← List.map_drop]
        exact ⟨fun e => by rw [e]; rfl, fun e => map_tl_eq (bs := [Str.ofString ""]) (by rw [e]; rfl)⟩
      have elen : (fs.map tl).length - sh (fs.map tl) (gs.map tl) = ups := by rw [List.length_map, hk, hu]
      have eB : pathB (fs.map tl) (gs.map tl) = joinL [47] (segB (fs.map tl) (gs.map tl)) := rfl
      unfold segB at eB
      rw [hk, List.length_map, hu] at eB
      by_cases hr : gs.drop k = [Str.ofString ""]
      · rw [decide_eq_true hr, if_pos rfl]
        rw [if_pos (hrest.mp hr)] at eB
        unfold tIf
        (try simp only [tNext, tFor_eq, cBl, tOp, tC, cI, cIc, cAdd, cVar, hEq, hNe, hIn, hNotIn, hLen, hSl, tM1, tBM, cT1, cT1f, cFind3, cSplit, cPart, rNewStrs, hIsS, hTru, tAsg, gName, gSub, tRet, tRetN, tCons, tNil, tTup, tLst, tCB, tNot, tAnd, tNotV, tAndV, tOrV, tOr, V.bl.injEq, V.int.injEq, V.str.injEq, exists_eq_left', exists_eq_left, exists_eq', true_and, and_true, cIsN, L2.start, gTup, gCons, gNil, nox_K, cx_K, tCallF, tSl, tPart, tNoPart, iEnum, RZ.iZipA, iRng1, iRng2, cAbs, List.map_cons, List.map_nil, List.length_cons, List.length_nil, List.replicate, List.cons_append, List.nil_append, List.getElem?_cons_zero, List.getElem?_cons_succ, List.getElem?_nil, List.set_cons_zero, List.set_cons_succ, Nat.reduceAdd, Nat.reduceSub, Nat.zero_add, if_true, if_false, reduceIte, reduceCtorEq, Bool.false_eq_true, decide_eq_true_eq, tDrop, cMin2, cJoin, iList, tDNewK, tLc_eq, iStr, wipe])
        by_cases h0 : (0 : Int) < (ups : Int)
        · rw [if_pos h0]
          rw [if_pos (by omega)] at eB
          refine ⟨by omega, fun p2 hp2 => ?_⟩
          simp only [hMul, upd_self]
          refine ⟨by omega, by omega, by simp only [List.length_cons, List.length_nil]; omega, fun p3 hp3 => ?_⟩
          have eu : ((ups : Nat) : Int).toNat = ups := Int.toNat_natCast ups
          have ef : (List.replicate ((ups : Nat) : Int).toNat [V.str (Str.ofString "..")]).flatten = (List.replicate ups (Str.ofString "..")).map V.str := by
            rw [eu, List.map_replicate]
            exact List.flatten_replicate_singleton
          have hlen : ((List.replicate ups (Str.ofString "..")).map (·.length)).sum = ups * 2 := by
            rw [List.map_replicate, List.sum_replicate_nat]; rfl
          refine ⟨List.replicate ups (Str.ofString ".."), .inl (.inl (Rd.of (by rw [ef]; exact upd_self))), ?_, ?_⟩
          · have : (Str.ofString "/").length = 1 := rfl
            rw [hlen, List.length_replicate, this, Nat.mul_one]
            omega
          · refine q _ _ ((x2.fresh hp2).fresh hp3) ?_
            rw [TL.join_eq, TL.tl_join, eB, List.map_replicate]
            rfl
        · rw [if_neg h0]
          rw [if_neg (by omega)] at eB
          refine q _ _ x2 ?_
          rw [eB]
          rfl
      · rw [decide_eq_false hr, if_neg Bool.false_ne_true]
        rw [if_neg (fun z => hr (hrest.mpr z))] at eB
        refine seqStep ?_
        (try simp only [tNext, tFor_eq, cBl, tOp, tC, cI, cIc, cAdd, cVar, hEq, hNe, hIn, hNotIn, hLen, hSl, tM1, tBM, cT1, cT1f, cFind3, cSplit, cPart, rNewStrs, hIsS, hTru, tAsg, gName, gSub, tRet, tRetN, tCons, tNil, tTup, tLst, tCB, tNot, tAnd, tNotV, tAndV, tOrV, tOr, V.bl.injEq, V.int.injEq, V.str.injEq, exists_eq_left', exists_eq_left, exists_eq', true_and, and_true, cIsN, L2.start, gTup, gCons, gNil, nox_K, cx_K, tCallF, tSl, tPart, tNoPart, iEnum, RZ.iZipA, iRng1, iRng2, cAbs, List.map_cons, List.map_nil, List.length_cons, List.length_nil, List.replicate, List.cons_append, List.nil_append, List.getElem?_cons_zero, List.getElem?_cons_succ, List.getElem?_nil, List.set_cons_zero, List.set_cons_succ, Nat.reduceAdd, Nat.reduceSub, Nat.zero_add, if_true, if_false, reduceIte, reduceCtorEq, Bool.false_eq_true, decide_eq_true_eq, tDrop, cMin2, cJoin, iList, tDNewK, tLc_eq, iStr, wipe])
        unfold hMulS
        simp only
        have eu : ((ups : Nat) : Int).toNat = ups := Int.toNat_natCast ups
        have e3 : (Str.ofString "../").length = 3 := rfl
        have e1 : (Str.ofString "/").length = 1 := rfl
        have e2 : (Str.ofString "./").length = 2 := rfl
        have e47 : tl (Str.ofString "/") = [47] := by decide +kernel
        have edd : tl (Str.ofString "../") = [46, 46, 47] := by decide +kernel
        have hwd : wt ((gs.drop k).map tl) ≤ 100010 := by
          have := List.take_append_drop k (gs.map tl)
          rw [← this, wt_app, ← List.map_drop] at wg
          omega
        have hsum := sum_le_wt (gs.drop k)
        have hne2 : (gs.drop k).map tl ≠ [] := by
          intro e
          have := congrArg List.length e
          simp only [List.length_map, List.length_drop, List.length_nil] at this
          omega
        refine ⟨by omega, by omega, by omega, by rw [e3, eu]; omega, fun z ez => ?_⟩
        rw [eu, edd] at ez
        have hz : z.length = 3 * ups := by
          rw [TL.len_tl, ez, List.length_flatten, List.map_replicate, List.sum_replicate_nat]
          simp only [List.length_cons, List.length_nil]
          omega
        have ej : tl (Txt.join (Str.ofString "/") (gs.drop k)) = joinL [47] ((gs.map tl).drop k) := by
          rw [TL.join_eq, TL.tl_join, List.map_drop, e47]
        have hjl : (Txt.join (Str.ofString "/") (gs.drop k)).length ≤ 100010 := by
          rw [TL.len_tl, ej, ← List.map_drop]
          exact Nat.le_trans (wt_join 47 _) hwd
        refine ⟨gs.drop k, .inl (.inl (Rd.of hr2)), by rw [e1, Nat.mul_one]; omega, by omega, ?_⟩
        have ep : tl (z ++ Txt.join (Str.ofString "/") (gs.drop k)) = joinL [47] (List.replicate ups dd ++ (gs.map tl).drop k) := by
          rw [TL.tl_append, ez, ej]
          exact flat_join ups (by rw [← List.map_drop]; exact hne2)
        have hpl : (z ++ Txt.join (Str.ofString "/") (gs.drop k)).length ≤ 500000 := by rw [la]; omega
        generalize (z ++ Txt.join (Str.ofString "/") (gs.drop k)) = path at *
        dsimp only at eB
        rw [← ep] at eB
        have hcut : ∀ b : Bool, b = true → ((tl path).take 1 = [47] ∨ 58 ∈ bef 47 (tl path)) → tl (Str.ofString "./" ++ path) = pathB (fs.map tl) (gs.map tl) := by
          intro b _ hb
          rw [if_pos hb] at eB
          rw [eB, TL.tl_append]
          have hyn : List.replicate ups dd ++ (gs.map tl).drop k ≠ [] := by
            rw [← List.map_drop]
            exact fun e => hne2 (List.append_eq_nil_iff.mp e).2
          rw [joinL_cons2 47 [46] hyn, ← ep]
          rfl
        refine seqStep ?_
        try simp only [List.getElem?_cons_zero, List.getElem?_cons_succ, List.set_cons_zero, List.set_cons_succ]
        refine ⟨⟨_, rfl⟩, ?_⟩
        rw [starts1]
        by_cases hs : (tl path).take 1 = [47]
        · rw [if_pos (decide_eq_true hs)]
          exact ⟨by omega, q _ _ x2 (hcut true rfl (.inl hs))⟩
        · rw [if_neg (fun z => hs (of_decide_eq_true z))]
          refine ⟨⟨_, rfl⟩, by decide, by omega, fun pp hpp => ?_⟩
          refine hIx_tup upd_self (atI_zero _ _) ?_
          dsimp only
          have hc := (part_cut path 47).1
          rw [slash_one] at *
          rw [colon_one, isIn_one, hc]
          by_cases h58 : (bef 47 (tl path)).contains 58 = true
          · rw [if_pos h58]
            exact ⟨by omega, q _ _ (x2.fresh hpp) (hcut true rfl (.inr (List.contains_iff_mem.mp h58)))⟩
          · rw [if_neg h58]
            (try simp only [tSeq, tNext, tIfS, tFor_eq, cBl, tOp, tC, cI, cIc, cAdd, cVar, hEq, hNe, hIn, hNotIn, hLen, hSl, tM1, tBM, cT1, cT1f, cFind3, cSplit, cPart, rNewStrs, hIsS, hTru, tAsg, gName, gSub, tRet, tRetN, tCons, tNil, tTup, tLst, tCB, tNot, tAnd, tNotV, tAndV, tOrV, tOr, V.bl.injEq, V.int.injEq, V.str.injEq, exists_eq_left', exists_eq_left, exists_eq', true_and, and_true, cIsN, L2.start, gTup, gCons, gNil, nox_K, cx_K, tCallF, tSl, tPart, tNoPart, iEnum, RZ.iZipA, iRng1, iRng2, cAbs, List.map_cons, List.map_nil, List.length_cons, List.length_nil, List.replicate, List.cons_append, List.nil_append, List.getElem?_cons_zero, List.getElem?_cons_succ, List.getElem?_nil, List.set_cons_zero, List.set_cons_succ, Nat.reduceAdd, Nat.reduceSub, Nat.zero_add, if_true, if_false, reduceIte, reduceCtorEq, Bool.false_eq_true, decide_eq_true_eq, tDrop, cMin2, cJoin, iList, tDNewK, tLc_eq, iStr, wipe])
            refine q _ _ (x2.fresh hpp) ?_
            rw [eB, if_neg]
            · exact ep
            · rintro (z | z)
              · exact hs z
              · exact h58 (List.contains_iff_mem.mpr z)
end
end Da
set_option Elab.async false
set_option linter.all false
set_option maxRecDepth 100000
set_option maxHeartbeats 4000000
namespace Da
open PySem PySem.Spec PyProof.Rows L2 Hd Xs Fx Mi Ms Md Mq Mv ClX Xr
open TL (tl joinL)
/-! ### references that lead from a base to a goal -/
def eV : V := .str (Str.ofString "")
def restV (l : V) (q f : V) : List V := [.non, .non, .non, .non, l, q, f]
def clB (h l : V) : Bool := decide (cln (hasA h) (oT l) = oT l)
def lead1 (ws : List V) : List (List V) := match ws with
  | [s', u', h', p', l', q', f'] => if clB h' l' = true ∧ s' ≠ .non then [ws] else []
  | _ => []
def lead2 (ws : List V) : List (List V) := match ws with
  | [s', u', h', p', l', q', f'] => if clB h' l' = true ∧ h' ≠ .non then [[.non, u', h', p', l', q', f']] else []
  | _ => []
def lead3 (vs ws : List V) : List (List V) := match vs, ws with
  | [s, u, h, p, l, q, f], [s', u', h', p', l', q', f'] => if l' = l ∧ q' = q then [restV eV .non f'] else []
  | _, _ => []
def lead4 (vs ws : List V) : List (List V) := match vs, ws with
  | [s, u, h, p, l, q, f], [s', u', h', p', l', q', f'] => if l' = l ∧ q' ≠ .non then [restV eV q' f'] else []
  | _, _ => []
def lead5 (vs ws : List V) : List (List V) := match vs, ws with
  | [s, u, h, p, l, q, f], [s', u', h', p', l', q', f'] => if clB h' l' = true ∧ (oT l').take 1 = [47] then [restV (mkT (cln false (oT l'))) q' f', restV (mkT (pathB (fdT (oT l)) (stk (oT l')))) q' f'] else []
  | _, _ => []
def sameS (vs ws : List V) : Bool := decide (ws.getD 0 .non = vs.getD 0 .non)
def sameA (vs ws : List V) : Bool := decide ([ws.getD 1 .non, ws.getD 2 .non, ws.getD 3 .non] = [vs.getD 1 .non, vs.getD 2 .non, vs.getD 3 .non])
/-- the references, in the order in which they are found -/
def leadL (vs ws : List V) : List (List V) := lead1 ws ++ (if sameS vs ws = true then lead2 ws ++ (if sameA vs ws = true then lead3 vs ws ++ (lead4 vs ws ++ lead5 vs ws) else []) else [])
inductive F2 {α β : Type} (R : α → β → Prop) : List α → List β → Prop
  | nil : F2 R [] []
  | cons {a : α} {b : β} {as : List α} {bs : List β} : R a b → F2 R as bs → F2 R (a :: as) (b :: bs)
theorem F2.imp {α β : Type} {R S : α → β → Prop} (h : ∀ a b, R a b → S a b) : ∀ {as : List α} {bs : List β}, F2 R as bs → F2 S as bs
  | _, _, .nil => .nil
  | _, _, .cons x t => .cons (h _ _ x) (F2.imp h t)
theorem F2.snoc {α β : Type} {R : α → β → Prop} {a : α} {b : β} (x : R a b) : ∀ {as : List α} {bs : List β}, F2 R as bs → F2 R (as ++ [a]) (bs ++ [b])
  | _, _, .nil => .cons x .nil
  | _, _, .cons y t => .cons y (F2.snoc x t)
theorem F2.len {α β : Type} {R : α → β → Prop} : ∀ {as : List α} {bs : List β}, F2 R as bs → as.length = bs.length
  | _, _, .nil => rfl
  | _, _, .cons _ t => by rw [List.length_cons, List.length_cons, F2.len t]
/-- what stands in the list that is made -/
structure FL (K : PySem.W.Frag) (H0 : Hp) (pf : Addr) (us : List (List V)) (H : Hp) : Prop where
  ext : Ext H0 H
  new : H0 pf = none
  at_ : ∃ as : List Addr, H pf = some (.lst (as.map V.ref)) ∧ F2 (fun a u => UrlAt K H a u) as us
section
variable {K : PySem.W.Frag} {H0 H H' : Hp} {pf : Addr} {us : List (List V)}
theorem FL.ex (h : FL K H0 pf us H) (e : Ext H H') : FL K H0 pf us H' := by
  obtain ⟨as, h1, h2⟩ := h.at_
  exact ⟨h.ext.tr e, h.new, as, e _ _ h1, F2.imp (fun _ _ x => x.ext e) h2⟩
theorem FL.app (h : FL K H0 pf us H) {a : Addr} {u : List V} (hu : UrlAt K H a u) {as : List Addr} (e : H pf = some (.lst (as.map V.ref))) : FL K H0 pf (us ++ [u]) (upd H pf (.lst (as.map V.ref ++ [.ref a]))) := by
  obtain ⟨as', h1, h2⟩ := h.at_
  rw [e] at h1
  have ea : as = as' := by
    have := (Option.some.inj h1)
    injection this with this
    exact (List.map_inj_right (fun x y z => by injection z)).mp this
  subst ea
  refine ⟨h.ext.new h.new, h.new, as ++ [a], by rw [upd_self, List.map_append]; rfl, ?_⟩
  exact F2.snoc (hu.updL e) (F2.imp (fun _ _ x => x.updL e) h2)
end
theorem sg_of {l : Str} (h : Nw (SI 4) (tl l)) : Sg l := by
  have hh : ∀ c, HEXT.contains c = true → (SI 4).contains c = true := by
    intro c hc
    have : ∀ c ∈ HEXT, (SI 4).contains c = true := by decide +kernel
    exact this c (List.contains_iff_mem.mp hc)
  have hs : ∀ c ∈ SI 4, c < 256 := by decide +kernel
  intro c hc
  rcases scan_all (SI 4) hh _ (tl l) 0 (Nat.le_refl _) (h 0) c hc with rfl | h
  · decide
  · exact hs c (List.contains_iff_mem.mp h)
theorem sameS_iff {s u h p l q f s' u' h' p' l' q' f' : V} : sameS [s, u, h, p, l, q, f] [s', u', h', p', l', q', f'] = true ↔ s' = s := by
  unfold sameS; rw [decide_eq_true_iff]; exact Iff.rfl
theorem sameA_iff {s u h p l q f s' u' h' p' l' q' f' : V} : sameA [s, u, h, p, l, q, f] [s', u', h', p', l', q', f'] = true ↔ u' = u ∧ h' = h ∧ p' = p := by
  unfold sameA
  rw [decide_eq_true_iff]
  show [u', h', p'] = [u, h, p] ↔ _
  simp
theorem isP_n {i : Nat} (h : i ≠ 4) : isP i .non = true := decide_eq_true h
theorem Lv_n {n : Nat} : Lv n .non := .inl rfl
theorem wt_rep (n : Nat) : wt (List.replicate n dd) = 3 * n := by
  unfold wt
  rw [List.map_replicate, List.sum_replicate_nat]
  show n * 3 = _
  omega
theorem wt_dropN (n : Nat) (ps : List T) : wt (ps.drop n) ≤ wt ps := by
  have := List.take_append_drop n ps
  have h : wt (ps.take n) + wt (ps.drop n) = wt ps := by rw [← wt_app, this]
  omega
theorem pathB_len (fs gs : List T) : (pathB fs gs).length ≤ 3 * fs.length + wt gs + 2 := by
  unfold pathB
  refine Nat.le_trans (wt_join 47 _) ?_
  have hd := wt_dropN (sh fs gs) gs
  have hr := wt_rep (fs.length - sh fs gs)
  unfold segB
  split
  · split
    · rw [hr]; omega
    · rw [wt_cons, wt_nil]; simp
  · dsimp only
    split
    · rw [wt_cons, wt_app, hr]; simp only [List.length_cons, List.length_nil]; omega
    · rw [wt_app, hr]; omega
theorem fdT_wt (l : T) : wt (fdT l) ≤ l.length + 3 := by
  unfold fdT
  have h1 := wt_drop (stk (fld l))
  have h2 := stk_wt (fld l)
  have h3 := fld_len l
  omega
theorem fdT_len (l : T) : (fdT l).length ≤ l.length + 3 := Nat.le_trans (wt_len _) (fdT_wt l)
theorem nw_pathB {l g : T} (hg : Nw (SI 4) g) (h1 : g.take 1 = [47]) : Nw (SI 4) (pathB (fdT l) (stk g)) := by
  refine nwJ SI4_47 _ fun p hp => ?_
  rcases segB_mem hp with rfl | rfl | h
  · exact (Nw.one (by decide) SI4_46).app (Nw.one (by decide) SI4_46)
  · exact Nw.one (by decide) SI4_46
  · exact nw_stk hg h1 p h
theorem rest_due {l q f : V} {x : T} (hx : l = mkT x) (hn : Nw (SI 4) x) (hp : poss true true x = true) (h5 : isP 5 q = true) (h6 : isP 6 f = true) : Due .non .non .non .non l q f := by
  subst hx
  exact ⟨isP_n (by decide), isP_n (by decide), isP_n (by decide), isP_n (by decide), isP4m.mpr hn, h5, h6, fun _ => rfl, fun _ => rfl, by rw [oT_mkT]; exact hp⟩
theorem eV_mk : eV = mkT [] := mk_str (by rfl)
theorem okU_due {n : Nat} {s u h p q f : V} {x : T} (d : Due s u h p (mkT x) q f) (hl : ∀ v ∈ [s, u, h, p, mkT x, q, f], Lv n v) : OkU n [s, u, h, p, mkT x, q, f] := ⟨⟨_, _, _, _, _, _, _, rfl⟩, due_iff.mpr d, hl⟩
theorem okU_rest {n : Nat} {q f : V} {x : T} (hn : Nw (SI 4) x) (hp : poss true true x = true) (h5 : isP 5 q = true) (h6 : isP 6 f = true) (lx : x.length ≤ n) (l5 : Lv n q) (l6 : Lv n f) : OkU n (restV (mkT x) q f) := by
  refine okU_due (rest_due rfl hn hp h5 h6) fun v hv => ?_
  simp only [List.mem_cons, List.not_mem_nil, or_false] at hv
  rcases hv with rfl | rfl | rfl | rfl | rfl | rfl | rfl
  · exact Lv_n
  · exact Lv_n
  · exact Lv_n
  · exact Lv_n
  · exact Lv_mk lx
  · exact l5
  · exact l6
/-- each of them can be a URL, and leads there -/
theorem lead_okn {n m : Nat} {vs ws : List V} (ov : OkU n vs) (ow : OkU m ws) (bb : isB vs = true) : ∀ c ∈ leadL vs ws, OkU (3 * n + m + 20) c ∧ joinV vs c = ws := by
  obtain ⟨⟨s, u, h, p, l, qq, f, rfl⟩, dv, lv⟩ := id ov
  obtain ⟨⟨s', u', h', p', l', q', f', rfl⟩, dw, lw⟩ := id ow
  have d := due_iff.mp dv
  have d' := due_iff.mp dw
  have hbp := base_path d bb
  have lw' : ∀ v ∈ [s', u', h', p', .str l', q', f'], Lv (3 * n + m + 20) v := fun v hv => (lw v hv).mono (by omega)
  have k5 := lw' q' (by simp)
  have k6 := lw' f' (by simp)
  have lt : ∀ {k : Nat} {x : Str}, Lv k (.str x) → (tl x).length ≤ k := fun h => by
    rcases h with e | ⟨t, e, ht⟩
    · cases e
    · cases e; rw [← TL.len_tl]; exact ht
  have ll : (tl l).length ≤ n := lt (lv _ (by simp))
  have ll' : (tl l').length ≤ m := lt (lw _ (by simp))
  have jv : ∀ a0 a1 a2 a3 a4 a5 a6 : V, joinV [s, u, h, p, .str l, qq, f] [a0, a1, a2, a3, a4, a5, a6] = (if a0 ≠ .non then [a0, a1, a2, a3, mkT (cln (hasA a2) (oT a4)), a5, a6] else if a2 ≠ .non then [s, a1, a2, a3, mkT (cln true (oT a4)), a5, a6] else if oT a4 = [] then [s, u, h, p, .str l, if a5 = .non then qq else a5, a6]
      else [s, u, h, p, mkT (cln (hasA h) (if (oT a4).take 1 = [47] then oT a4 else fld (tl l) ++ oT a4)), a5, a6]) := fun _ _ _ _ _ _ _ => rfl
  have el' : V.str l' = mkT (tl l') := mkT_tl l'
  have nn : ∀ {P : Prop}, ¬ ((V.non : V) ≠ .non ∧ P) := fun z => z.1 rfl
  intro c hc
  unfold leadL at hc
  rcases List.mem_append.mp hc with hc | hc
  · -- the goal itself
    unfold lead1 at hc
    dsimp only at hc
    split at hc
    · rename_i hcl
      rw [List.mem_singleton.mp hc]
      refine ⟨ow.mono (by omega), ?_⟩
      rw [jv, if_pos hcl.2]
      have : cln (hasA h') (tl l') = tl l' := of_decide_eq_true hcl.1
      rw [show oT (.str l') = tl l' from rfl, this, ← el']
    · cases hc
  · split at hc
    case isFalse => cases hc
    rename_i hs
    obtain rfl := sameS_iff.mp hs
    rcases List.mem_append.mp hc with hc | hc
    · unfold lead2 at hc
      dsimp only at hc
      split at hc
      · rename_i hcl
        rw [List.mem_singleton.mp hc]
        have hA : hasA h' = true := by unfold hasA; rw [decide_eq_false hcl.2]; rfl
        refine ⟨⟨⟨_, _, _, _, _, _, _, rfl⟩, due_iff.mpr ⟨isP_n (by decide), d'.p1, d'.p2, d'.p3, d'.p4, d'.p5, d'.p6, d'.n1, d'.n2, ?_⟩, fun v hv => ?_⟩, ?_⟩
        · have hp := d'.ps
          have e : isNo h' = false := decide_eq_false hcl.2
          rw [e] at hp ⊢
          exact poss_host.mpr (poss_host.mp hp)
        · rcases List.mem_cons.mp hv with rfl | hv
          · exact Lv_n
          · exact lw' v (List.mem_cons_of_mem _ hv)
        · rw [jv, if_neg (fun z => z rfl), if_pos hcl.2]
          have : cln (hasA h') (tl l') = tl l' := of_decide_eq_true hcl.1
          rw [hA] at this
          rw [show oT (.str l') = tl l' from rfl, this, ← el']
      · cases hc
    · split at hc
      case isFalse => cases hc
      rename_i hA
      obtain ⟨rfl, rfl, rfl⟩ := sameA_iff.mp hA
      have e0 : (oT eV) = [] := rfl
      rcases List.mem_append.mp hc with hc | hc
      · unfold lead3 at hc
        dsimp only at hc
        split at hc
        · rename_i hcl
          rw [List.mem_singleton.mp hc]
          refine ⟨?_, ?_⟩
          · rw [eV_mk]
            exact okU_rest .nil (by decide) (isP_n (by decide)) d'.p6 (Nat.zero_le _) Lv_n k6
          · unfold restV
            rw [jv, if_neg (fun z => z rfl), if_neg (fun z => z rfl), if_pos e0, if_pos rfl, hcl.1, hcl.2]
        · cases hc
      · rcases List.mem_append.mp hc with hc | hc
        · unfold lead4 at hc
          dsimp only at hc
          split at hc
          · rename_i hcl
            rw [List.mem_singleton.mp hc]
            refine ⟨?_, ?_⟩
            · rw [eV_mk]
              exact okU_rest .nil (by decide) d'.p5 d'.p6 (Nat.zero_le _) k5 k6
            · unfold restV
              rw [jv, if_neg (fun z => z rfl), if_neg (fun z => z rfl), if_pos e0, if_neg hcl.2, hcl.1]
          · cases hc
        · unfold lead5 at hc
          dsimp only at hc
          split at hc
          · rename_i hcl
            have h1 : (tl l').take 1 = [47] := hcl.2
            have hn' : Nw (SI 4) (tl l') := isP4.mp d'.p4
            have hcl1 : cln (hasA h') (tl l') = tl l' := of_decide_eq_true hcl.1
            rcases List.mem_cons.mp hc with hc | hc
            · rw [hc]
              have hne : cln false (tl l') ≠ [] := fun e => by
                have := cln_head (b := false) h1
                rw [e] at this; cases this
              refine ⟨okU_rest (nw_cln SI4_47 SI4_46 false hn') (poss_slash (cln_head h1) (fun _ => cln_two' h1)) d'.p5 d'.p6 (by have := cln_len false (tl l'); show (cln false (tl l')).length ≤ _; omega) k5 k6, ?_⟩
              unfold restV
              rw [jv, if_neg (fun z => z rfl), if_neg (fun z => z rfl), oT_mkT, show oT (V.str l') = tl l' from rfl, if_neg hne, if_pos (cln_head h1), cln_false h1, hcl1, ← el']
            · rw [List.mem_singleton.mp hc]
              have hfree : ∀ p ∈ stk (tl l'), 47 ∉ p := fun p hp => stk_free hp
              obtain ⟨b1, b2, b3⟩ := pathB_head (fs := fdT (tl l)) (stk_ne (tl l')) hfree
              have hp : poss true true (pathB (fdT (tl l)) (stk (tl l'))) = true := by
                have b4 : (pathB (fdT (tl l)) (stk (tl l'))).take 2 ≠ [47, 47] := fun e => b1 (by
                  have := congrArg (List.take 1) e
                  rw [List.take_take] at this
                  exact this)
                unfold poss
                rw [if_neg (by decide), if_neg b4]
                have : (bef 47 (pathB (fdT (tl l)) (stk (tl l')))).contains 58 = false := by
                  rw [Bool.eq_false_iff]
                  exact fun z => b2 (List.contains_iff_mem.mp z)
                rw [this]; rfl
              refine ⟨okU_rest (nw_pathB hn' h1) hp d'.p5 d'.p6 ?_ k5 k6, ?_⟩
              · have := pathB_len (fdT (tl l)) (stk (tl l'))
                have := fdT_len (tl l)
                have := stk_wt (tl l')
                show (pathB (fdT (tl l)) (stk (tl l'))).length ≤ _
                omega
              · unfold restV
                rw [jv, if_neg (fun z => z rfl), if_neg (fun z => z rfl), oT_mkT, show oT (V.str l') = tl l' from rfl, show oT (V.str l) = tl l from rfl, if_neg b3, if_neg b1, cln_between hbp h1, hcl1, ← el']
          · cases hc
theorem lead_ok {vs ws : List V} (ov : OkU 2990 vs) (ow : OkU 2990 ws) (bb : isB vs = true) : ∀ c ∈ leadL vs ws, OkU 20000 c ∧ joinV vs c = ws := fun c hc => ⟨(lead_okn ov ow bb c hc).1.mono (by decide), (lead_okn ov ow bb c hc).2⟩
end Da
set_option Elab.async false
set_option linter.all false
set_option maxRecDepth 100000
set_option maxHeartbeats 4000000
namespace Da
open PySem PySem.Spec PyProof.Rows L2 Hd Xs Fx Mi Ms Md Mq Mv ClX Xr
open TL (tl joinL)
def spLeading (K : PySem.W.Frag) : Sp := fun vs H Q _ => match vs with
  | [.ref a, .ref b] => ∃ vs ws, UrlAt K H a vs ∧ UrlAt K H b ws ∧ OkU 2990 vs ∧ OkU 2990 ws ∧ isB vs = true ∧ ∀ p H', FL K H p (leadL vs ws) H' → Q (.ref p) H'
  | _ => False
theorem nt_of {n : Nat} {v : V} (h : Lv n v) : NT v := by
  rcases h with rfl | ⟨t, rfl, _⟩
  · exact .inl rfl
  · exact .inr ⟨t, rfl⟩
theorem hEq_nt {K : PySem.W.Frag} {H : Hp} {x y : V} {Q : VK} (hx : NT x) (hy : NT y) (k : Q (.bl (decide (x = y))) H) : hEq K x y H Q := by
  rcases hx with rfl | ⟨s, rfl⟩ <;> rcases hy with rfl | ⟨t, rfl⟩
  · exact ⟨rfl, k⟩
  · exact ⟨rfl, k⟩
  · exact ⟨rfl, k⟩
  · have e : decide (V.str s = V.str t) = decide (s = t) := decide_eq_decide.mpr ⟨fun z => V.str.inj z, fun z => by rw [z]⟩
    rw [e] at k
    exact k
theorem hNe_nt {K : PySem.W.Frag} {H : Hp} {x y : V} {Q : VK} (hx : NT x) (hy : NT y) (k : Q (.bl (!decide (x = y))) H) : hNe K x y H Q := by
  rcases hx with rfl | ⟨s, rfl⟩ <;> rcases hy with rfl | ⟨t, rfl⟩
  · exact ⟨rfl, k⟩
  · exact ⟨rfl, k⟩
  · exact ⟨rfl, k⟩
  · have e : (!decide (V.str s = V.str t)) = decide (¬ s = t) := by
      rw [← decide_not]
      exact decide_eq_decide.mpr (not_congr ⟨fun z => V.str.inj z, fun z => by rw [z]⟩)
    rw [e] at k
    exact k
theorem cNe_tup {K : PySem.W.Frag} {H : Hp} {p q : Addr} {vs ws : List V} {Q : VK} (hp : H p = some (.tup vs)) (hq : H q = some (.tup ws)) (h : ∀ v ∈ vs, PV v) (h' : ∀ v ∈ ws, PV v) (k : Q (.bl (!decide (vs = ws))) H) : cEq K true (.ref p) (.ref q) H Q := by
  refine ⟨_, _, .tup (.inl (Rd.of hp)) (dpAllP h), .tup (.inl (Rd.of hq)) (dpAllP h'), shPt h, shPt h', ?_⟩
  have e : PyData.eqv (.tuple (vs.map toD)) (.tuple (ws.map toD)) = decide (vs = ws) := by
    simp only [PyData.eqv]
    exact eqvAll_toD h h'
  rw [e]
  exact k
theorem wP_sgS {i : Nat} (hi : i < 7) {l : T} (h : wP i l = none) : ∀ c ∈ l, c < 256 := by
  have fin : ∀ {S : T}, (∀ c ∈ S, c < 256) → (∀ c ∈ l, c = 94 ∨ S.contains c = true) → ∀ c ∈ l, c < 256 := fun hs hl c hc => by
    rcases hl c hc with rfl | h
    · decide
    · exact hs c (List.contains_iff_mem.mp h)
  have hc : i = 0 ∨ i = 3 ∨ (i = 1 ∨ i = 2 ∨ i = 4 ∨ i = 5 ∨ i = 6) := by omega
  rcases hc with rfl | rfl | h4
  · exact fin (by decide +kernel) (wSch_all (show wSch l = none from h))
  · exact fin (by decide +kernel) (wPort_all (show wPort l = none from h))
  · by_cases hb : i = 2 ∧ l.take 1 = [91]
    · obtain ⟨rfl, h91⟩ := hb
      have hw : wBr l = none := by
        unfold wP at h
        rw [if_neg (by decide), if_neg (by decide), if_pos ⟨rfl, h91⟩] at h
        exact h
      obtain ⟨b, rfl, hbm⟩ := wBr_form h91 hw
      have hs : ∀ c ∈ BRKT, c < 256 := by decide +kernel
      intro c hc
      rcases List.mem_cons.mp hc with rfl | hc
      · decide
      rcases List.mem_append.mp hc with hc | hc
      · rcases hbm c hc with rfl | h
        · decide
        · exact hs c (List.contains_iff_mem.mp h)
      · rw [List.mem_singleton.mp hc]; decide
    · rw [wP_scan h4 hb] at h
      have hh : ∀ c, HEXT.contains c = true → (SI i).contains c = true := by
        intro c hc
        have : ∀ c ∈ HEXT, (SI i).contains c = true := by rcases h4 with rfl | rfl | rfl | rfl | rfl <;> decide +kernel
        exact this c (List.contains_iff_mem.mp hc)
      exact fin (by rcases h4 with rfl | rfl | rfl | rfl | rfl <;> decide +kernel) (scan_all (SI i) hh _ l 0 (Nat.le_refl _) h)
theorem pvS {i : Nat} (hi : i < 7) {v : V} (h : isP i v = true) {n : Nat} (hl : Lv n v) (hn : n ≤ 3000) : PV v := by
  rcases hl with rfl | ⟨t, rfl, hl⟩
  · exact .inl rfl
  · exact .inr ⟨t, rfl, by omega, wP_sgS hi (Option.isNone_iff_eq_none.mp h)⟩
theorem OkU.pvS {n : Nat} {vs : List V} (o : OkU n vs) (hn : n ≤ 3000) : ∀ v ∈ vs, PV v := by
  obtain ⟨⟨s, u, h, p, l, q, f, rfl⟩, hd, hl⟩ := o
  have d := due_iff.mp hd
  intro v hv
  have m := hl v hv
  simp only [List.mem_cons, List.not_mem_nil, or_false] at hv
  rcases hv with rfl | rfl | rfl | rfl | rfl | rfl | rfl
  · exact Da.pvS (by decide) d.p0 m hn
  · exact Da.pvS (by decide) d.p1 m hn
  · exact Da.pvS (by decide) d.p2 m hn
  · exact Da.pvS (by decide) d.p3 m hn
  · exact Da.pvS (by decide) d.p4 m hn
  · exact Da.pvS (by decide) d.p5 m hn
  · exact Da.pvS (by decide) d.p6 m hn
theorem fl_ty {K : PySem.W.Frag} {H0 H : Hp} {pf : Addr} {us : List (List V)} (h : FL K H0 pf us H) : tyV K "list" (.ref pf) H := by
  obtain ⟨as, e, _⟩ := h.at_
  exact tyL e
theorem fl_app {K : PySem.W.Frag} {H0 H : Hp} {pf a : Addr} {us : List (List V)} {u : List V} {Q : VK} (h : FL K H0 pf us H) (hl : us.length ≤ 20) (hu : UrlAt K H a u) (q : ∀ H', FL K H0 pf (us ++ [u]) H' → (∀ r rs, UrlAt K H r rs → UrlAt K H' r rs) → Q .non H') : rAppend (.ref pf) [.ref a] H Q := by
  have sl := sl
  obtain ⟨as, e, h2⟩ := h.at_
  have hln := F2.len h2
  exact append_at e (by rw [List.length_map]; omega) (q _ (h.app hu e) fun r rs x => x.updL e)
section
variable {P : Program} {w : World} {K : PySem.W.Frag} {mg : Str → Option Value} {base : Heap}
theorem ok__leading (c : Ct w K mg) : OkF P w K mg base CX0 9 (He.ga K "_leading") ["base", "goal"] (spLeading K) := by
  obtain ⟨fd, F⟩ := F__leading c
  refine ⟨fd, F.ok sc__leading (fun vs H Q E h => ?_) (fun cdv A outer s H vs Q E hr h => ⟨_, PSs.nox ((pss_cons (ps_set (i := 2) (sc__leading).nd rfl (Or.inl rfl) (pe_lst pa_nil)) (pss_cons (ps_set (i := 3) (sc__leading).nd rfl (Or.inl rfl) (pe_cmpR (ho_eq (hu64 hr)) (pfKO (E := E0) (ok_cleaned c) (hr.mono (by decide)) (g_cleaned c) (k_cleaned c) pass0 (pa_cons (pe_prop (cv 1) (cls_Url c) (prop_Url_path c) (ok_Url_path c).choose_spec.1 (hr.mono (by decide)) (ok_Url_path c).choose_spec.2 .nil pass0 (by rfl)) pa_nil) (pk_cons (pe_prop (cv 1) (cls_Url c) (prop_Url_has_authority c) (ok_Url_has_authority c).choose_spec.1 (hr.mono (by decide)) (ok_Url_has_authority c).choose_spec.2 .nil pass0 (by rfl)) pk_nil)) (pe_prop (cv 1) (cls_Url c) (prop_Url_path c) (ok_Url_path c).choose_spec.1 (hr.mono (by decide)) (ok_Url_path c).choose_spec.2 .nil pass0 (by rfl)) (by rfl))) (pss_cons (ps_if (PW.pt (pw_and (hTr (cv 3)) (pw_and1 (ctc co_notN (pe_prop (cv 1) (cls_Url c) (prop_Url_scheme c) (ok_Url_scheme c).choose_spec.1 (hr.mono (by decide)) (ok_Url_scheme c).choose_spec.2 .nil pass0 (by rfl)) pe_non (by rfl))))) (pss_one (ps_expr (pe_bm PySem.F.plainAttrs_list PySem.F.slot_list_append PySem.F.type_list_append mt_append (cv 2) (pa_cons (cv 1) pa_nil)))) pss_nil) (pss_cons (ps_if (ctc (ho_ne (hu64 hr)) (pe_prop (cv 1) (cls_Url c) (prop_Url_scheme c) (ok_Url_scheme c).choose_spec.1 (hr.mono (by decide)) (ok_Url_scheme c).choose_spec.2 .nil pass0 (by rfl)) (pe_prop (cv 0) (cls_Url c) (prop_Url_scheme c) (ok_Url_scheme c).choose_spec.1 (hr.mono (by decide)) (ok_Url_scheme c).choose_spec.2 .nil pass0 (by rfl)) (by rfl)) (pss_one (ps_ret (cv 2))) pss_nil) (pss_cons (ps_if (PW.pt (pw_and (hTr (cv 3)) (pw_and1 (ct (pe_prop (cv 1) (cls_Url c) (prop_Url_has_authority c) (ok_Url_has_authority c).choose_spec.1 (hr.mono (by decide)) (ok_Url_has_authority c).choose_spec.2 .nil pass0 (by rfl)))))) (pss_one (ps_expr (pe_bm PySem.F.plainAttrs_list PySem.F.slot_list_append PySem.F.type_list_append mt_append (cv 2) (pa_cons (pe_methKw (E := E0) (ks := ["scheme"]) (cv 1) (cls_Url c) (meth_Url_replaced c) (ok_Url_replaced c) (hr.mono (by decide)) (passes_call takes0 (fun _ _ _ _ z => z)) (pk_cons pe_non pk_nil) (by decide +kernel) (by decide +kernel) (by decide)) pa_nil)))) pss_nil) (pss_cons (ps_if (ctc (ho_ne (hu64 hr)) (pe_tup (pa_cons (pe_prop (cv 1) (cls_Url c) (prop_Url_user c) (ok_Url_user c).choose_spec.1 (hr.mono (by decide)) (ok_Url_user c).choose_spec.2 .nil pass0 (by rfl)) (pa_cons (pe_prop (cv 1) (cls_Url c) (prop_Url_host c) (ok_Url_host c).choose_spec.1 (hr.mono (by decide)) (ok_Url_host c).choose_spec.2 .nil pass0 (by rfl)) (pa_cons (pe_prop (cv 1) (cls_Url c) (prop_Url_port c) (ok_Url_port c).choose_spec.1 (hr.mono (by decide)) (ok_Url_port c).choose_spec.2 .nil pass0 (by rfl)) pa_nil)))) (pe_tup (pa_cons (pe_prop (cv 0) (cls_Url c) (prop_Url_user c) (ok_Url_user c).choose_spec.1 (hr.mono (by decide)) (ok_Url_user c).choose_spec.2 .nil pass0 (by rfl)) (pa_cons (pe_prop (cv 0) (cls_Url c) (prop_Url_host c) (ok_Url_host c).choose_spec.1 (hr.mono (by decide)) (ok_Url_host c).choose_spec.2 .nil pass0 (by rfl)) (pa_cons (pe_prop (cv 0) (cls_Url c) (prop_Url_port c) (ok_Url_port c).choose_spec.1 (hr.mono (by decide)) (ok_Url_port c).choose_spec.2 .nil pass0 (by rfl)) pa_nil)))) (by rfl)) (pss_one (ps_ret (cv 2))) pss_nil) (pss_cons (ps_set (i := 4) (sc__leading).nd rfl (Or.inl rfl) (pe_cmethN (E := E0) (ks := ["query", "fragment"]) (pe_glob (v := .ref (He.ga K "Url")) rfl (g_Url c) rfl) (read_Url c) (cm_Url_of c) (ok_Url_of c).choose_spec.1 (ok_Url_of c).choose_spec.2 (hr.mono (by decide)) (passes_call takes0 (fun _ _ _ _ z => z)) (pk_cons (pe_prop (cv 1) (cls_Url c) (prop_Url_query c) (ok_Url_query c).choose_spec.1 (hr.mono (by decide)) (ok_Url_query c).choose_spec.2 .nil pass0 (by rfl)) (pk_cons (pe_prop (cv 1) (cls_Url c) (prop_Url_fragment c) (ok_Url_fragment c).choose_spec.1 (hr.mono (by decide)) (ok_Url_fragment c).choose_spec.2 .nil pass0 (by rfl)) pk_nil)) (by decide +kernel) (by decide +kernel))) (pss_cons (ps_if (PW.pt (pw_and (ctc (ho_eq (hu64 hr)) (pe_prop (cv 1) (cls_Url c) (prop_Url_path c) (ok_Url_path c).choose_spec.1 (hr.mono (by decide)) (ok_Url_path c).choose_spec.2 .nil pass0 (by rfl)) (pe_prop (cv 0) (cls_Url c) (prop_Url_path c) (ok_Url_path c).choose_spec.1 (hr.mono (by decide)) (ok_Url_path c).choose_spec.2 .nil pass0 (by rfl)) (by rfl)) (pw_and1 (ctc (ho_eq (hu64 hr)) (pe_prop (cv 1) (cls_Url c) (prop_Url_query c) (ok_Url_query c).choose_spec.1 (hr.mono (by decide)) (ok_Url_query c).choose_spec.2 .nil pass0 (by rfl)) (pe_prop (cv 0) (cls_Url c) (prop_Url_query c) (ok_Url_query c).choose_spec.1 (hr.mono (by decide)) (ok_Url_query c).choose_spec.2 .nil pass0 (by rfl)) (by rfl))))) (pss_one (ps_expr (pe_bm PySem.F.plainAttrs_list PySem.F.slot_list_append PySem.F.type_list_append mt_append (cv 2) (pa_cons (pe_methKw (E := E0) (ks := ["query"]) (cv 4) (cls_Url c) (meth_Url_replaced c) (ok_Url_replaced c) (hr.mono (by decide)) (passes_call takes0 (fun _ _ _ _ z => z)) (pk_cons pe_non pk_nil) (by decide +kernel) (by decide +kernel) (by decide)) pa_nil)))) pss_nil) (pss_cons (ps_if (PW.pt (pw_and (ctc (ho_eq (hu64 hr)) (pe_prop (cv 1) (cls_Url c) (prop_Url_path c) (ok_Url_path c).choose_spec.1 (hr.mono (by decide)) (ok_Url_path c).choose_spec.2 .nil pass0 (by rfl)) (pe_prop (cv 0) (cls_Url c) (prop_Url_path c) (ok_Url_path c).choose_spec.1 (hr.mono (by decide)) (ok_Url_path c).choose_spec.2 .nil pass0 (by rfl)) (by rfl)) (pw_and1 (ctc co_notN (pe_prop (cv 1) (cls_Url c) (prop_Url_query c) (ok_Url_query c).choose_spec.1 (hr.mono (by decide)) (ok_Url_query c).choose_spec.2 .nil pass0 (by rfl)) pe_non (by rfl))))) (pss_one (ps_expr (pe_bm PySem.F.plainAttrs_list PySem.F.slot_list_append PySem.F.type_list_append mt_append (cv 2) (pa_cons (cv 4) pa_nil)))) pss_nil) (pss_cons (ps_if (PW.pt (pw_and (hTr (cv 3)) (pw_and1 (ct (pe_m1 PySem.F.slot_str_startswith PySem.F.type_str_startswith cm_startswith (pe_prop (cv 1) (cls_Url c) (prop_Url_path c) (ok_Url_path c).choose_spec.1 (hr.mono (by decide)) (ok_Url_path c).choose_spec.2 .nil pass0 (by rfl)) pe_str))))) (pss_cons (ps_expr (pe_bm PySem.F.plainAttrs_list PySem.F.slot_list_append PySem.F.type_list_append mt_append (cv 2) (pa_cons (pe_methKw (E := E0) (ks := ["path"]) (cv 4) (cls_Url c) (meth_Url_replaced c) (ok_Url_replaced c) (hr.mono (by decide)) (passes_call takes0 (fun _ _ _ _ z => z)) (pk_cons (pfKO (E := E0) (ok_cleaned c) (hr.mono (by decide)) (g_cleaned c) (k_cleaned c) pass0 (pa_cons (pe_prop (cv 1) (cls_Url c) (prop_Url_path c) (ok_Url_path c).choose_spec.1 (hr.mono (by decide)) (ok_Url_path c).choose_spec.2 .nil pass0 (by rfl)) pa_nil) (pk_cons pe_bl pk_nil)) pk_nil) (by decide +kernel) (by decide +kernel) (by decide)) pa_nil))) (pss_one (ps_expr (pe_bm PySem.F.plainAttrs_list PySem.F.slot_list_append PySem.F.type_list_append mt_append (cv 2) (pa_cons (pe_methKw (E := E0) (ks := ["path"]) (cv 4) (cls_Url c) (meth_Url_replaced c) (ok_Url_replaced c) (hr.mono (by decide)) (passes_call takes0 (fun _ _ _ _ z => z)) (pk_cons (pf (ok__path_between c) (hr.mono (by decide)) (g__path_between c) (k__path_between c) pass0 (pa_cons (pf (ok__folders c) (hr.mono (by decide)) (g__folders c) (k__folders c) pass0 (pa_cons (cv 0) pa_nil)) (pa_cons (pf (ok_stack c) (hr.mono (by decide)) (g_stack c) (k_stack c) pass0 (pa_cons (pe_prop (cv 1) (cls_Url c) (prop_Url_path c) (ok_Url_path c).choose_spec.1 (hr.mono (by decide)) (ok_Url_path c).choose_spec.2 .nil pass0 (by rfl)) pa_nil)) pa_nil))) pk_nil) (by decide +kernel) (by decide +kernel) (by decide)) pa_nil))))) pss_nil) (pss_one (ps_ret (cv 2)))))))))))))), ?_⟩), F.bindsN fun _ _ _ _ _ _ us hl => match us, hl with | [_, _], _ => rfl⟩
  · unfold spLeading at h
    split at h
    · rfl
    · exact h.elim
  · unfold spLeading at h
    split at h
    case h_2 => exact h.elim
    rename_i a b
    obtain ⟨vs, ws, hv, hw, ov, ow, bb, q⟩ := h
    have sl := sl
    have hlead := lead_ok ov ow bb
    obtain ⟨⟨s, u, h, p, l, qq, f, rfl⟩, dv, lv⟩ := id ov
    obtain ⟨⟨s', u', h', p', l', q', f', rfl⟩, dw, lw⟩ := id ow
    have d := due_iff.mp dv
    have d' := due_iff.mp dw
    have hbp := base_path d bb
    have ll : l.length ≤ 2990 := by
      rcases lv (.str l) (by simp) with e | ⟨t, e, ht⟩
      · cases e
      · cases e; exact ht
    have ll' : l'.length ≤ 2990 := by
      rcases lw (.str l') (by simp) with e | ⟨t, e, ht⟩
      · cases e
      · cases e; exact ht
    have lvw := fun v hv => (lw v hv)
    have pvw : ∀ v ∈ [s', u', h', p', .str l', q', f'], PV v := ow.pvS (by decide)
    have pvv : ∀ v ∈ [s, u, h, p, .str l, qq, f], PV v := ov.pvS (by decide)
    have nts := nt_of (lv s (by simp))
    have nts' := nt_of (lw s' (by simp))
    have ntq := nt_of (lv qq (by simp))
    have ntq' := nt_of (lw q' (by simp))
    refine seqStep ?_
    (try simp only [tNext, tFor_eq, cBl, tOp, tC, cI, cIc, cAdd, cVar, hEq, hNe, hIn, hNotIn, hLen, hSl, tM1, tBM, cT1, cT1f, cFind3, cSplit, cPart, rNewStrs, hIsS, hTru, tAsg, gName, gSub, tRet, tRetN, tCons, tNil, tTup, tLst, tCB, tNot, tAnd, tNotV, tAndV, tOrV, tOr, V.bl.injEq, V.int.injEq, V.str.injEq, exists_eq_left', exists_eq_left, exists_eq', true_and, and_true, cIsN, L2.start, gTup, gCons, gNil, nox_K, cx_K, tCallF, tSl, tPart, tNoPart, iEnum, RZ.iZipA, iRng1, iRng2, cAbs, List.map_cons, List.map_nil, List.length_cons, List.length_nil, List.replicate, List.cons_append, List.nil_append, List.getElem?_cons_zero, List.getElem?_cons_succ, List.getElem?_nil, List.set_cons_zero, List.set_cons_succ, Nat.reduceAdd, Nat.reduceSub, Nat.zero_add, if_true, if_false, reduceIte, reduceCtorEq, Bool.false_eq_true, decide_eq_true_eq, tDrop, cMin2, cJoin, iList, tDNewK, tLc_eq, iStr, wipe])
    refine ⟨by omega, fun pf hpf => ?_⟩
    have fl0 : FL K H pf [] (upd H pf (.lst [])) := ⟨Ext.rf.fresh hpf, hpf, [], upd_self, .nil⟩
    generalize (upd H pf (.lst [])) = H1 at *
    -- is_clean
    refine seqStep ?_
    (try simp only [tNext, tFor_eq, cBl, tOp, tC, cI, cIc, cAdd, cVar, hEq, hNe, hIn, hNotIn, hLen, hSl, tM1, tBM, cT1, cT1f, cFind3, cSplit, cPart, rNewStrs, hIsS, hTru, tAsg, gName, gSub, tRet, tRetN, tCons, tNil, tTup, tLst, tCB, tNot, tAnd, tNotV, tAndV, tOrV, tOr, V.bl.injEq, V.int.injEq, V.str.injEq, exists_eq_left', exists_eq_left, exists_eq', true_and, and_true, cIsN, L2.start, gTup, gCons, gNil, nox_K, cx_K, tCallF, tSl, tPart, tNoPart, iEnum, RZ.iZipA, iRng1, iRng2, cAbs, List.map_cons, List.map_nil, List.length_cons, List.length_nil, List.replicate, List.cons_append, List.nil_append, List.getElem?_cons_zero, List.getElem?_cons_succ, List.getElem?_nil, List.set_cons_zero, List.set_cons_succ, Nat.reduceAdd, Nat.reduceSub, Nat.zero_add, if_true, if_false, reduceIte, reduceCtorEq, Bool.false_eq_true, decide_eq_true_eq, tDrop, cMin2, cJoin, iList, tDNewK, tLc_eq, iStr, wipe])
    unfold tCallKO
    (try simp only [tNext, tFor_eq, cBl, tOp, tC, cI, cIc, cAdd, cVar, hEq, hNe, hIn, hNotIn, hLen, hSl, tM1, tBM, cT1, cT1f, cFind3, cSplit, cPart, rNewStrs, hIsS, hTru, tAsg, gName, gSub, tRet, tRetN, tCons, tNil, tTup, tLst, tCB, tNot, tAnd, tNotV, tAndV, tOrV, tOr, V.bl.injEq, V.int.injEq, V.str.injEq, exists_eq_left', exists_eq_left, exists_eq', true_and, and_true, cIsN, L2.start, gTup, gCons, gNil, nox_K, cx_K, tCallF, tSl, tPart, tNoPart, iEnum, RZ.iZipA, iRng1, iRng2, cAbs, List.map_cons, List.map_nil, List.length_cons, List.length_nil, List.replicate, List.cons_append, List.nil_append, List.getElem?_cons_zero, List.getElem?_cons_succ, List.getElem?_nil, List.set_cons_zero, List.set_cons_succ, Nat.reduceAdd, Nat.reduceSub, Nat.zero_add, if_true, if_false, reduceIte, reduceCtorEq, Bool.false_eq_true, decide_eq_true_eq, tDrop, cMin2, cJoin, iList, tDNewK, tLc_eq, iStr, wipe])
    refine prop_n rfl (hw.ext fl0.ext) rfl rfl ?_
    refine kind_n rfl (hw.ext fl0.ext) (by omega) ?_
    refine ⟨by omega, fun z H2 x2 ez => ?_⟩
    replace fl0 := fl0.ex x2
    refine prop_n rfl (hw.ext fl0.ext) rfl rfl ?_
    try dsimp only
    have ecl : decide (z = l') = clB h' (.str l') := by
      unfold clB
      refine decide_eq_decide.mpr ⟨fun e => by rw [← e]; exact e ▸ ez.symm, fun e => TL.ext_tl (by rw [ez]; exact e)⟩
    rw [ecl]
    clear ecl ez
    -- the goal itself
    refine seqCps (fun σ H' => σ = [some (.ref a), some (.ref b), some (.ref pf), some (.bl (clB h' (.str l'))), none] ∧ FL K H pf (lead1 [s', u', h', p', .str l', q', f']) H') (fun Nx hN => ?_) ?_
    · unfold tIfS tDrop
      (try simp only [tNext, tFor_eq, cBl, tOp, tC, cI, cIc, cAdd, cVar, hEq, hNe, hIn, hNotIn, hLen, hSl, tM1, tBM, cT1, cT1f, cFind3, cSplit, cPart, rNewStrs, hIsS, hTru, tAsg, gName, gSub, tRet, tRetN, tCons, tNil, tTup, tLst, tCB, tNot, tAnd, tNotV, tAndV, tOrV, tOr, V.bl.injEq, V.int.injEq, V.str.injEq, exists_eq_left', exists_eq_left, exists_eq', true_and, and_true, cIsN, L2.start, gTup, gCons, gNil, nox_K, cx_K, tCallF, tSl, tPart, tNoPart, iEnum, RZ.iZipA, iRng1, iRng2, cAbs, List.map_cons, List.map_nil, List.length_cons, List.length_nil, List.replicate, List.cons_append, List.nil_append, List.getElem?_cons_zero, List.getElem?_cons_succ, List.getElem?_nil, List.set_cons_zero, List.set_cons_succ, Nat.reduceAdd, Nat.reduceSub, Nat.zero_add, if_true, if_false, reduceIte, reduceCtorEq, Bool.false_eq_true, decide_eq_true_eq, tDrop, cMin2, cJoin, iList, tDNewK, tLc_eq, iStr, wipe])
      rw [show lead1 [s', u', h', p', .str l', q', f'] = (if clB h' (.str l') = true ∧ s' ≠ .non then [[s', u', h', p', .str l', q', f']] else []) from rfl] at hN
      by_cases hcb : clB h' (.str l') = true
      · rw [if_pos hcb]
        refine prop_n rfl (hw.ext fl0.ext) rfl rfl ?_
        by_cases hs : s' = .non
        · rw [if_neg (by rw [decide_eq_true hs]; decide)]
          exact hN _ _ ⟨rfl, by rw [if_neg (fun z => z.2 hs)]; exact fl0⟩
        · rw [if_pos (by rw [decide_eq_false hs]; rfl)]
          exact ⟨fl_ty fl0, fl_app fl0 (by decide) (hw.ext fl0.ext) fun H' g _ => hN _ _ ⟨rfl, by rw [if_pos ⟨hcb, hs⟩]; exact g⟩⟩
      · rw [if_neg hcb]
        exact hN _ _ ⟨rfl, by rw [if_neg (fun z => hcb z.1)]; exact fl0⟩
    rintro σ H3 ⟨rfl, fl1⟩
    clear fl0
    have n1 : (lead1 [s', u', h', p', .str l', q', f']).length ≤ 1 := by unfold lead1; dsimp only; split <;> simp
    -- another scheme
    unfold leadL at q
    refine seqCps (fun σ H' => σ = [some (.ref a), some (.ref b), some (.ref pf), some (.bl (clB h' (.str l'))), none] ∧ H' = H3 ∧ s' = s) (fun Nx hN => ?_) ?_
    · unfold tIfS cBl tOp
      refine prop_n rfl (hw.ext fl1.ext) rfl rfl ?_
      refine prop_n rfl (hv.ext fl1.ext) rfl rfl ?_
      refine hNe_nt nts' nts ?_
      try dsimp only
      (try simp only [tNext, tFor_eq, cBl, tOp, tC, cI, cIc, cAdd, cVar, hEq, hNe, hIn, hNotIn, hLen, hSl, tM1, tBM, cT1, cT1f, cFind3, cSplit, cPart, rNewStrs, hIsS, hTru, tAsg, gName, gSub, tRet, tRetN, tCons, tNil, tTup, tLst, tCB, tNot, tAnd, tNotV, tAndV, tOrV, tOr, V.bl.injEq, V.int.injEq, V.str.injEq, exists_eq_left', exists_eq_left, exists_eq', true_and, and_true, cIsN, L2.start, gTup, gCons, gNil, nox_K, cx_K, tCallF, tSl, tPart, tNoPart, iEnum, RZ.iZipA, iRng1, iRng2, cAbs, List.map_cons, List.map_nil, List.length_cons, List.length_nil, List.replicate, List.cons_append, List.nil_append, List.getElem?_cons_zero, List.getElem?_cons_succ, List.getElem?_nil, List.set_cons_zero, List.set_cons_succ, Nat.reduceAdd, Nat.reduceSub, Nat.zero_add, if_true, if_false, reduceIte, reduceCtorEq, Bool.false_eq_true, decide_eq_true_eq, tDrop, cMin2, cJoin, iList, tDNewK, tLc_eq, iStr, wipe])
      by_cases hs : s' = s
      · rw [if_neg (by rw [decide_eq_true hs]; decide)]
        exact hN _ _ ⟨rfl, rfl, hs⟩
      · rw [if_pos (by rw [decide_eq_false hs]; rfl)]
        refine q _ _ ?_
        rw [if_neg (fun z => hs (sameS_iff.mp z)), List.append_nil]
        exact fl1
    rintro σ H4 ⟨rfl, rfl, rfl⟩
    rw [if_pos (sameS_iff.mpr rfl)] at q
    -- without the scheme
    refine seqCps (fun σ H' => σ = [some (.ref a), some (.ref b), some (.ref pf), some (.bl (clB h' (.str l'))), none] ∧ FL K H pf (lead1 [s', u', h', p', .str l', q', f'] ++ lead2 [s', u', h', p', .str l', q', f']) H') (fun Nx hN => ?_) ?_
    · unfold tIfS tDrop
      (try simp only [tNext, tFor_eq, cBl, tOp, tC, cI, cIc, cAdd, cVar, hEq, hNe, hIn, hNotIn, hLen, hSl, tM1, tBM, cT1, cT1f, cFind3, cSplit, cPart, rNewStrs, hIsS, hTru, tAsg, gName, gSub, tRet, tRetN, tCons, tNil, tTup, tLst, tCB, tNot, tAnd, tNotV, tAndV, tOrV, tOr, V.bl.injEq, V.int.injEq, V.str.injEq, exists_eq_left', exists_eq_left, exists_eq', true_and, and_true, cIsN, L2.start, gTup, gCons, gNil, nox_K, cx_K, tCallF, tSl, tPart, tNoPart, iEnum, RZ.iZipA, iRng1, iRng2, cAbs, List.map_cons, List.map_nil, List.length_cons, List.length_nil, List.replicate, List.cons_append, List.nil_append, List.getElem?_cons_zero, List.getElem?_cons_succ, List.getElem?_nil, List.set_cons_zero, List.set_cons_succ, Nat.reduceAdd, Nat.reduceSub, Nat.zero_add, if_true, if_false, reduceIte, reduceCtorEq, Bool.false_eq_true, decide_eq_true_eq, tDrop, cMin2, cJoin, iList, tDNewK, tLc_eq, iStr, wipe])
      rw [show lead2 [s', u', h', p', .str l', q', f'] = (if clB h' (.str l') = true ∧ h' ≠ .non then [[.non, u', h', p', .str l', q', f']] else []) from rfl] at hN
      by_cases hcb : clB h' (.str l') = true
      · rw [if_pos hcb]
        refine kind_n rfl (hw.ext fl1.ext) (by omega) ?_
        try dsimp only
        by_cases hh : h' = .non
        · rw [show hasA h' = false by unfold hasA; rw [decide_eq_true hh]; rfl]
          rw [if_neg Bool.false_ne_true]
          exact hN _ _ ⟨rfl, by rw [if_neg (fun z => z.2 hh), List.append_nil]; exact fl1⟩
        · rw [show hasA h' = true by unfold hasA; rw [decide_eq_false hh]; rfl]
          rw [if_pos rfl]
          have hok := (hlead [.non, u', h', p', .str l', q', f'] (by
            unfold leadL
            rw [if_pos (sameS_iff.mpr rfl)]
            refine List.mem_append_right _ (List.mem_append_left _ ?_)
            unfold lead2
            dsimp only
            rw [if_pos ⟨hcb, hh⟩]
            exact .head _)).1
          obtain ⟨dx, T, h1, h2⟩ := id (hw.ext fl1.ext)
          refine ⟨fl_ty fl1, b, dx, _, rfl, h1, rfl, ?_⟩
          (try simp only [tNext, tFor_eq, cBl, tOp, tC, cI, cIc, cAdd, cVar, hEq, hNe, hIn, hNotIn, hLen, hSl, tM1, tBM, cT1, cT1f, cFind3, cSplit, cPart, rNewStrs, hIsS, hTru, tAsg, gName, gSub, tRet, tRetN, tCons, tNil, tTup, tLst, tCB, tNot, tAnd, tNotV, tAndV, tOrV, tOr, V.bl.injEq, V.int.injEq, V.str.injEq, exists_eq_left', exists_eq_left, exists_eq', true_and, and_true, cIsN, L2.start, gTup, gCons, gNil, nox_K, cx_K, tCallF, tSl, tPart, tNoPart, iEnum, RZ.iZipA, iRng1, iRng2, cAbs, List.map_cons, List.map_nil, List.length_cons, List.length_nil, List.replicate, List.cons_append, List.nil_append, List.getElem?_cons_zero, List.getElem?_cons_succ, List.getElem?_nil, List.set_cons_zero, List.set_cons_succ, Nat.reduceAdd, Nat.reduceSub, Nat.zero_add, if_true, if_false, reduceIte, reduceCtorEq, Bool.false_eq_true, decide_eq_true_eq, tDrop, cMin2, cJoin, iList, tDNewK, tLc_eq, iStr, wipe])
          refine repl_u (is := [(0, .non)]) (hw.ext fl1.ext) rfl (Nat.le_of_ble_eq_true rfl) (by simp) hok (by decide) fun u2 H5 e hu2 h0 => ?_
          exact fl_app (fl1.ex e) (by omega) hu2 fun H' g _ => hN _ _ ⟨rfl, by rw [if_pos ⟨hcb, hh⟩]; exact g⟩
      · rw [if_neg hcb]
        exact hN _ _ ⟨rfl, by rw [if_neg (fun z => hcb z.1), List.append_nil]; exact fl1⟩
    rintro σ H5 ⟨rfl, fl2⟩
    clear fl1
    generalize hLQ : lead1 [s', u', h', p', .str l', q', f'] ++ lead2 [s', u', h', p', .str l', q', f'] = LQ at *
    have n2 : LQ.length ≤ 2 := by
      rw [← hLQ, List.length_append]
      have : (lead2 [s', u', h', p', .str l', q', f']).length ≤ 1 := by unfold lead2; dsimp only; split <;> simp
      omega
    -- another authority
    refine seqCps (fun σ H' => σ = [some (.ref a), some (.ref b), some (.ref pf), some (.bl (clB h' (.str l'))), none] ∧ FL K H pf LQ H' ∧ u' = u ∧ h' = h ∧ p' = p) (fun Nx hN => ?_) ?_
    · unfold tIfS
      (try simp only [tNext, tFor_eq, cBl, tOp, tC, cI, cIc, cAdd, cVar, hEq, hNe, hIn, hNotIn, hLen, hSl, tM1, tBM, cT1, cT1f, cFind3, cSplit, cPart, rNewStrs, hIsS, hTru, tAsg, gName, gSub, tRet, tRetN, tCons, tNil, tTup, tLst, tCB, tNot, tAnd, tNotV, tAndV, tOrV, tOr, V.bl.injEq, V.int.injEq, V.str.injEq, exists_eq_left', exists_eq_left, exists_eq', true_and, and_true, cIsN, L2.start, gTup, gCons, gNil, nox_K, cx_K, tCallF, tSl, tPart, tNoPart, iEnum, RZ.iZipA, iRng1, iRng2, cAbs, List.map_cons, List.map_nil, List.length_cons, List.length_nil, List.replicate, List.cons_append, List.nil_append, List.getElem?_cons_zero, List.getElem?_cons_succ, List.getElem?_nil, List.set_cons_zero, List.set_cons_succ, Nat.reduceAdd, Nat.reduceSub, Nat.zero_add, if_true, if_false, reduceIte, reduceCtorEq, Bool.false_eq_true, decide_eq_true_eq, tDrop, cMin2, cJoin, iList, tDNewK, tLc_eq, iStr, wipe])
      refine prop_n rfl (hw.ext fl2.ext) rfl rfl (prop_n rfl (hw.ext fl2.ext) rfl rfl (prop_n rfl (hw.ext fl2.ext) rfl rfl ⟨by omega, fun t1 ht1 => ?_⟩))
      have fl3 := fl2.ex (Ext.rf.fresh (o := .tup [u', h', p']) ht1)
      have s1 : (upd H5 t1 (.tup [u', h', p'])) t1 = some (.tup [u', h', p']) := upd_self
      generalize (upd H5 t1 (.tup [u', h', p'])) = H6 at *
      refine prop_n rfl (hv.ext fl3.ext) rfl rfl (prop_n rfl (hv.ext fl3.ext) rfl rfl (prop_n rfl (hv.ext fl3.ext) rfl rfl ⟨by omega, fun t2 ht2 => ?_⟩))
      have fl4 := fl3.ex (Ext.rf.fresh (o := .tup [u, h, p]) ht2)
      refine cNe_tup (upd_old s1 ht2) upd_self (fun v hv => pvw v (by
        simp only [List.mem_cons, List.not_mem_nil, or_false] at hv ⊢
        rcases hv with h | h | h <;> simp [h])) (fun v hv => pvv v (by
        simp only [List.mem_cons, List.not_mem_nil, or_false] at hv ⊢
        rcases hv with h | h | h <;> simp [h])) ?_
      try dsimp only
      by_cases hA : u' = u ∧ h' = h ∧ p' = p
      · rw [if_neg (by rw [decide_eq_true (by rw [hA.1, hA.2.1, hA.2.2])]; decide)]
        exact hN _ _ ⟨rfl, fl4, hA⟩
      · rw [if_pos (by
          rw [decide_eq_false (fun z => hA (by simpa using z))]; rfl)]
        refine q _ _ ?_
        rw [if_neg (fun z => hA (sameA_iff.mp z)), List.append_nil, hLQ]
        exact fl4
    rintro σ H6 ⟨rfl, fl3, rfl, rfl, rfl⟩
    clear fl2
    rw [if_pos (sameA_iff.mpr ⟨rfl, rfl, rfl⟩)] at q
    have lw' : ∀ v ∈ [s', u', h', p', .str l', q', f'], Lv 20000 v := fun v hv => (lw v hv).mono (by decide)
    have k5 := lw' q' (by simp)
    have k6 := lw' f' (by simp)
    have okr : OkU 20000 (restV eV q' f') := by
      rw [eV_mk]
      exact okU_rest .nil (by decide) d'.p5 d'.p6 (Nat.zero_le _) k5 k6
    -- the query and the fragment
    refine seqCps (fun σ H' => ∃ r : Addr, σ = [some (.ref a), some (.ref b), some (.ref pf), some (.bl (clB h' (.str l'))), some (.ref r)] ∧ FL K H pf LQ H' ∧ UrlAt K H' r (restV eV q' f')) (fun Nx hN => ?_) ?_
    · unfold tAsg tCMethN
      (try simp only [tNext, tFor_eq, cBl, tOp, tC, cI, cIc, cAdd, cVar, hEq, hNe, hIn, hNotIn, hLen, hSl, tM1, tBM, cT1, cT1f, cFind3, cSplit, cPart, rNewStrs, hIsS, hTru, tAsg, gName, gSub, tRet, tRetN, tCons, tNil, tTup, tLst, tCB, tNot, tAnd, tNotV, tAndV, tOrV, tOr, V.bl.injEq, V.int.injEq, V.str.injEq, exists_eq_left', exists_eq_left, exists_eq', true_and, and_true, cIsN, L2.start, gTup, gCons, gNil, nox_K, cx_K, tCallF, tSl, tPart, tNoPart, iEnum, RZ.iZipA, iRng1, iRng2, cAbs, List.map_cons, List.map_nil, List.length_cons, List.length_nil, List.replicate, List.cons_append, List.nil_append, List.getElem?_cons_zero, List.getElem?_cons_succ, List.getElem?_nil, List.set_cons_zero, List.set_cons_succ, Nat.reduceAdd, Nat.reduceSub, Nat.zero_add, if_true, if_false, reduceIte, reduceCtorEq, Bool.false_eq_true, decide_eq_true_eq, tDrop, cMin2, cJoin, iList, tDNewK, tLc_eq, iStr, wipe])
      refine prop_n rfl (hw.ext fl3.ext) rfl rfl (prop_n rfl (hw.ext fl3.ext) rfl rfl ?_)
      have ekw : ∀ a5 a6 : V, kwVals ofDfl (V.ref (He.ga K "Url")) ([("query" : Str), "fragment"].zip [a5, a6]) = [.ref (uC K), .non, .non, .non, .non, eV, a5, a6] := fun _ _ => by rfl
      try dsimp only
      rw [ekw]
      refine ⟨rfl, fun v hv => (okr.len v hv).av (by decide), ?_⟩
      have := okr.due
      unfold restV at this
      rw [this]
      exact fun r H' e hr _ => hN _ _ ⟨r, rfl, fl3.ex e, hr⟩
    rintro σ H7 ⟨r, rfl, fl4, hr⟩
    clear fl3
    -- the same path and query
    refine seqCps (fun σ H' => σ = [some (.ref a), some (.ref b), some (.ref pf), some (.bl (clB h' (.str l'))), some (.ref r)] ∧ FL K H pf (LQ ++ lead3 [s', u', h', p', .str l, qq, f] [s', u', h', p', .str l', q', f']) H' ∧ UrlAt K H' r (restV eV q' f')) (fun Nx hN => ?_) ?_
    · unfold tIfS tAnd cBl tOp
      rw [show lead3 [s', u', h', p', .str l, qq, f] [s', u', h', p', .str l', q', f'] = (if V.str l' = V.str l ∧ q' = qq then [restV eV .non f'] else []) from rfl] at hN
      refine prop_n rfl (hw.ext fl4.ext) rfl rfl (prop_n rfl (hv.ext fl4.ext) rfl rfl (hEq_nt (.inr ⟨_, rfl⟩) (.inr ⟨_, rfl⟩) ?_))
      try dsimp only
      by_cases hp : V.str l' = V.str l
      · rw [if_pos (decide_eq_true hp)]
        refine prop_n rfl (hw.ext fl4.ext) rfl rfl (prop_n rfl (hv.ext fl4.ext) rfl rfl ?_)
        refine hEq_nt ntq' ntq ?_
        try dsimp only
        by_cases hq : q' = qq
        · rw [if_pos (decide_eq_true hq)]
          (try simp only [tNext, tFor_eq, cBl, tOp, tC, cI, cIc, cAdd, cVar, hEq, hNe, hIn, hNotIn, hLen, hSl, tM1, tBM, cT1, cT1f, cFind3, cSplit, cPart, rNewStrs, hIsS, hTru, tAsg, gName, gSub, tRet, tRetN, tCons, tNil, tTup, tLst, tCB, tNot, tAnd, tNotV, tAndV, tOrV, tOr, V.bl.injEq, V.int.injEq, V.str.injEq, exists_eq_left', exists_eq_left, exists_eq', true_and, and_true, cIsN, L2.start, gTup, gCons, gNil, nox_K, cx_K, tCallF, tSl, tPart, tNoPart, iEnum, RZ.iZipA, iRng1, iRng2, cAbs, List.map_cons, List.map_nil, List.length_cons, List.length_nil, List.replicate, List.cons_append, List.nil_append, List.getElem?_cons_zero, List.getElem?_cons_succ, List.getElem?_nil, List.set_cons_zero, List.set_cons_succ, Nat.reduceAdd, Nat.reduceSub, Nat.zero_add, if_true, if_false, reduceIte, reduceCtorEq, Bool.false_eq_true, decide_eq_true_eq, tDrop, cMin2, cJoin, iList, tDNewK, tLc_eq, iStr, wipe])
          obtain ⟨dx, T, h1, h2⟩ := id hr
          refine ⟨fl_ty fl4, r, dx, _, rfl, h1, rfl, ?_⟩
          (try simp only [tNext, tFor_eq, cBl, tOp, tC, cI, cIc, cAdd, cVar, hEq, hNe, hIn, hNotIn, hLen, hSl, tM1, tBM, cT1, cT1f, cFind3, cSplit, cPart, rNewStrs, hIsS, hTru, tAsg, gName, gSub, tRet, tRetN, tCons, tNil, tTup, tLst, tCB, tNot, tAnd, tNotV, tAndV, tOrV, tOr, V.bl.injEq, V.int.injEq, V.str.injEq, exists_eq_left', exists_eq_left, exists_eq', true_and, and_true, cIsN, L2.start, gTup, gCons, gNil, nox_K, cx_K, tCallF, tSl, tPart, tNoPart, iEnum, RZ.iZipA, iRng1, iRng2, cAbs, List.map_cons, List.map_nil, List.length_cons, List.length_nil, List.replicate, List.cons_append, List.nil_append, List.getElem?_cons_zero, List.getElem?_cons_succ, List.getElem?_nil, List.set_cons_zero, List.set_cons_succ, Nat.reduceAdd, Nat.reduceSub, Nat.zero_add, if_true, if_false, reduceIte, reduceCtorEq, Bool.false_eq_true, decide_eq_true_eq, tDrop, cMin2, cJoin, iList, tDNewK, tLc_eq, iStr, wipe])
          have hok : OkU 20000 (restV eV .non f') := by
            rw [eV_mk]
            exact okU_rest .nil (by decide) (isP_n (by decide)) d'.p6 (Nat.zero_le _) Lv_n k6
          refine repl_u (is := [(5, .non)]) hr rfl (Nat.le_of_ble_eq_true rfl) (by simp) hok (by decide) fun u2 H8 e hu2 h0 => ?_
          exact fl_app (fl4.ex e) (by omega) hu2 fun H' g x => hN _ _ ⟨rfl, by rw [if_pos ⟨hp, hq⟩]; exact g, x _ _ (hr.ext e)⟩
        · rw [if_neg (fun z => hq (of_decide_eq_true z))]
          exact hN _ _ ⟨rfl, by rw [if_neg (fun z => hq z.2), List.append_nil]; exact fl4, hr⟩
      · rw [if_neg (fun z => hp (of_decide_eq_true z))]
        exact hN _ _ ⟨rfl, by rw [if_neg (fun z => hp z.1), List.append_nil]; exact fl4, hr⟩
    rintro σ H8 ⟨rfl, fl5, hr8⟩
    clear fl4 hr
    have n3 : (lead3 [s', u', h', p', .str l, qq, f] [s', u', h', p', .str l', q', f']).length ≤ 1 := by unfold lead3; dsimp only; split <;> simp
    have n4 : (lead4 [s', u', h', p', .str l, qq, f] [s', u', h', p', .str l', q', f']).length ≤ 1 := by unfold lead4; dsimp only; split <;> simp
    -- the same path, another query
    refine seqCps (fun σ H' => σ = [some (.ref a), some (.ref b), some (.ref pf), some (.bl (clB h' (.str l'))), some (.ref r)] ∧ FL K H pf (LQ ++ lead3 [s', u', h', p', .str l, qq, f] [s', u', h', p', .str l', q', f'] ++ lead4 [s', u', h', p', .str l, qq, f] [s', u', h', p', .str l', q', f']) H' ∧ UrlAt K H' r (restV eV q' f')) (fun Nx hN => ?_) ?_
    · unfold tIfS tDrop
      (try simp only [tNext, tFor_eq, cBl, tOp, tC, cI, cIc, cAdd, cVar, hEq, hNe, hIn, hNotIn, hLen, hSl, tM1, tBM, cT1, cT1f, cFind3, cSplit, cPart, rNewStrs, hIsS, hTru, tAsg, gName, gSub, tRet, tRetN, tCons, tNil, tTup, tLst, tCB, tNot, tAnd, tNotV, tAndV, tOrV, tOr, V.bl.injEq, V.int.injEq, V.str.injEq, exists_eq_left', exists_eq_left, exists_eq', true_and, and_true, cIsN, L2.start, gTup, gCons, gNil, nox_K, cx_K, tCallF, tSl, tPart, tNoPart, iEnum, RZ.iZipA, iRng1, iRng2, cAbs, List.map_cons, List.map_nil, List.length_cons, List.length_nil, List.replicate, List.cons_append, List.nil_append, List.getElem?_cons_zero, List.getElem?_cons_succ, List.getElem?_nil, List.set_cons_zero, List.set_cons_succ, Nat.reduceAdd, Nat.reduceSub, Nat.zero_add, if_true, if_false, reduceIte, reduceCtorEq, Bool.false_eq_true, decide_eq_true_eq, tDrop, cMin2, cJoin, iList, tDNewK, tLc_eq, iStr, wipe])
      rw [show lead4 [s', u', h', p', .str l, qq, f] [s', u', h', p', .str l', q', f'] = (if V.str l' = V.str l ∧ q' ≠ .non then [restV eV q' f'] else []) from rfl] at hN
      refine prop_n rfl (hw.ext fl5.ext) rfl rfl (prop_n rfl (hv.ext fl5.ext) rfl rfl ?_)
      try dsimp only
      by_cases hp : l' = l
      · rw [if_pos hp]
        refine prop_n rfl (hw.ext fl5.ext) rfl rfl ?_
        try dsimp only
        by_cases hq : q' = .non
        · rw [if_neg (by rw [decide_eq_true hq]; decide)]
          exact hN _ _ ⟨rfl, by rw [if_neg (fun z => z.2 hq), List.append_nil]; exact fl5, hr8⟩
        · rw [if_pos (by rw [decide_eq_false hq]; rfl)]
          exact ⟨fl_ty fl5, fl_app fl5 (by rw [List.length_append]; omega) hr8 fun H' g x => hN _ _ ⟨rfl, by rw [if_pos ⟨by rw [hp], hq⟩]; exact g, x _ _ hr8⟩⟩
      · rw [if_neg hp]
        exact hN _ _ ⟨rfl, by rw [if_neg (fun z => hp (V.str.inj z.1)), List.append_nil]; exact fl5, hr8⟩
    rintro σ H9 ⟨rfl, fl6, hr9⟩
    clear fl5 hr8
    -- with a path
    refine seqCps (fun σ H' => σ = [some (.ref a), some (.ref b), some (.ref pf), some (.bl (clB h' (.str l'))), some (.ref r)] ∧ FL K H pf (LQ ++ lead3 [s', u', h', p', .str l, qq, f] [s', u', h', p', .str l', q', f'] ++ lead4 [s', u', h', p', .str l, qq, f] [s', u', h', p', .str l', q', f'] ++ lead5 [s', u', h', p', .str l, qq, f] [s', u', h', p', .str l', q', f']) H') (fun Nx hN => ?_) ?_
    · unfold tIfS tDrop
      (try simp only [tNext, tFor_eq, cBl, tOp, tC, cI, cIc, cAdd, cVar, hEq, hNe, hIn, hNotIn, hLen, hSl, tM1, tBM, cT1, cT1f, cFind3, cSplit, cPart, rNewStrs, hIsS, hTru, tAsg, gName, gSub, tRet, tRetN, tCons, tNil, tTup, tLst, tCB, tNot, tAnd, tNotV, tAndV, tOrV, tOr, V.bl.injEq, V.int.injEq, V.str.injEq, exists_eq_left', exists_eq_left, exists_eq', true_and, and_true, cIsN, L2.start, gTup, gCons, gNil, nox_K, cx_K, tCallF, tSl, tPart, tNoPart, iEnum, RZ.iZipA, iRng1, iRng2, cAbs, List.map_cons, List.map_nil, List.length_cons, List.length_nil, List.replicate, List.cons_append, List.nil_append, List.getElem?_cons_zero, List.getElem?_cons_succ, List.getElem?_nil, List.set_cons_zero, List.set_cons_succ, Nat.reduceAdd, Nat.reduceSub, Nat.zero_add, if_true, if_false, reduceIte, reduceCtorEq, Bool.false_eq_true, decide_eq_true_eq, tDrop, cMin2, cJoin, iList, tDNewK, tLc_eq, iStr, wipe])
      rw [show lead5 [s', u', h', p', .str l, qq, f] [s', u', h', p', .str l', q', f'] = (if clB h' (.str l') = true ∧ (tl l').take 1 = [47] then [restV (mkT (cln false (tl l'))) q' f', restV (mkT (pathB (fdT (tl l)) (stk (tl l')))) q' f'] else []) from rfl] at hN
      by_cases hcb : clB h' (.str l') = true
      · rw [if_pos hcb]
        refine prop_n rfl (hw.ext fl6.ext) rfl rfl ⟨⟨_, rfl⟩, ?_⟩
        try dsimp only
        rw [starts1]
        by_cases h47 : (tl l').take 1 = [47]
        · rw [if_pos (decide_eq_true h47)]
          have hok : ∀ c ∈ [restV (mkT (cln false (tl l'))) q' f', restV (mkT (pathB (fdT (tl l)) (stk (tl l')))) q' f'], OkU 20000 c := fun c hc => (hlead c (by
            unfold leadL
            rw [if_pos (sameS_iff.mpr rfl), if_pos (sameA_iff.mpr ⟨rfl, rfl, rfl⟩)]
            refine List.mem_append_right _ (List.mem_append_right _ (List.mem_append_right _ (List.mem_append_right _ ?_)))
            unfold lead5
            dsimp only
            rw [if_pos ⟨hcb, h47⟩]
            exact hc)).1
          refine seqStep ?_
          try unfold tDrop
          (try simp only [tNext, tFor_eq, cBl, tOp, tC, cI, cIc, cAdd, cVar, hEq, hNe, hIn, hNotIn, hLen, hSl, tM1, tBM, cT1, cT1f, cFind3, cSplit, cPart, rNewStrs, hIsS, hTru, tAsg, gName, gSub, tRet, tRetN, tCons, tNil, tTup, tLst, tCB, tNot, tAnd, tNotV, tAndV, tOrV, tOr, V.bl.injEq, V.int.injEq, V.str.injEq, exists_eq_left', exists_eq_left, exists_eq', true_and, and_true, cIsN, L2.start, gTup, gCons, gNil, nox_K, cx_K, tCallF, tSl, tPart, tNoPart, iEnum, RZ.iZipA, iRng1, iRng2, cAbs, List.map_cons, List.map_nil, List.length_cons, List.length_nil, List.replicate, List.cons_append, List.nil_append, List.getElem?_cons_zero, List.getElem?_cons_succ, List.getElem?_nil, List.set_cons_zero, List.set_cons_succ, Nat.reduceAdd, Nat.reduceSub, Nat.zero_add, if_true, if_false, reduceIte, reduceCtorEq, Bool.false_eq_true, decide_eq_true_eq, tDrop, cMin2, cJoin, iList, tDNewK, tLc_eq, iStr, wipe])
          obtain ⟨dx, T, h1, h2⟩ := id hr9
          refine ⟨fl_ty fl6, r, dx, _, rfl, h1, rfl, ?_⟩
          try unfold tCallKO
          (try simp only [tNext, tFor_eq, cBl, tOp, tC, cI, cIc, cAdd, cVar, hEq, hNe, hIn, hNotIn, hLen, hSl, tM1, tBM, cT1, cT1f, cFind3, cSplit, cPart, rNewStrs, hIsS, hTru, tAsg, gName, gSub, tRet, tRetN, tCons, tNil, tTup, tLst, tCB, tNot, tAnd, tNotV, tAndV, tOrV, tOr, V.bl.injEq, V.int.injEq, V.str.injEq, exists_eq_left', exists_eq_left, exists_eq', true_and, and_true, cIsN, L2.start, gTup, gCons, gNil, nox_K, cx_K, tCallF, tSl, tPart, tNoPart, iEnum, RZ.iZipA, iRng1, iRng2, cAbs, List.map_cons, List.map_nil, List.length_cons, List.length_nil, List.replicate, List.cons_append, List.nil_append, List.getElem?_cons_zero, List.getElem?_cons_succ, List.getElem?_nil, List.set_cons_zero, List.set_cons_succ, Nat.reduceAdd, Nat.reduceSub, Nat.zero_add, if_true, if_false, reduceIte, reduceCtorEq, Bool.false_eq_true, decide_eq_true_eq, tDrop, cMin2, cJoin, iList, tDNewK, tLc_eq, iStr, wipe])
          refine prop_n rfl (hw.ext fl6.ext) rfl rfl ?_
          refine ⟨by omega, fun z H10 x10 ez => ?_⟩
          have e3 : V.str z = mkT (cln false (tl l')) := mk_str ez
          have fl7 := fl6.ex x10
          have hr10 := hr9.ext x10
          refine repl_u (is := [(4, .str z)]) hr10 rfl (Nat.le_of_ble_eq_true rfl) (by simp) (by rw [e3]; exact hok _ (.head _)) (by decide) fun u2 H11 e hu2 h0 => ?_
          refine fl_app (fl7.ex e) (by simp only [List.length_append]; omega) hu2 fun H12 g x => ?_
          have hr12 := x _ _ (hr10.ext e)
          have hv12 := hv.ext g.ext
          have hw12 := hw.ext g.ext
          try unfold tDrop
          (try simp only [tNext, tFor_eq, cBl, tOp, tC, cI, cIc, cAdd, cVar, hEq, hNe, hIn, hNotIn, hLen, hSl, tM1, tBM, cT1, cT1f, cFind3, cSplit, cPart, rNewStrs, hIsS, hTru, tAsg, gName, gSub, tRet, tRetN, tCons, tNil, tTup, tLst, tCB, tNot, tAnd, tNotV, tAndV, tOrV, tOr, V.bl.injEq, V.int.injEq, V.str.injEq, exists_eq_left', exists_eq_left, exists_eq', true_and, and_true, cIsN, L2.start, gTup, gCons, gNil, nox_K, cx_K, tCallF, tSl, tPart, tNoPart, iEnum, RZ.iZipA, iRng1, iRng2, cAbs, List.map_cons, List.map_nil, List.length_cons, List.length_nil, List.replicate, List.cons_append, List.nil_append, List.getElem?_cons_zero, List.getElem?_cons_succ, List.getElem?_nil, List.set_cons_zero, List.set_cons_succ, Nat.reduceAdd, Nat.reduceSub, Nat.zero_add, if_true, if_false, reduceIte, reduceCtorEq, Bool.false_eq_true, decide_eq_true_eq, tDrop, cMin2, cJoin, iList, tDNewK, tLc_eq, iStr, wipe])
          obtain ⟨dx2, T2, h12, h22⟩ := id hr12
          refine ⟨fl_ty g, r, dx2, _, rfl, h12, rfl, ?_⟩
          (try simp only [tNext, tFor_eq, cBl, tOp, tC, cI, cIc, cAdd, cVar, hEq, hNe, hIn, hNotIn, hLen, hSl, tM1, tBM, cT1, cT1f, cFind3, cSplit, cPart, rNewStrs, hIsS, hTru, tAsg, gName, gSub, tRet, tRetN, tCons, tNil, tTup, tLst, tCB, tNot, tAnd, tNotV, tAndV, tOrV, tOr, V.bl.injEq, V.int.injEq, V.str.injEq, exists_eq_left', exists_eq_left, exists_eq', true_and, and_true, cIsN, L2.start, gTup, gCons, gNil, nox_K, cx_K, tCallF, tSl, tPart, tNoPart, iEnum, RZ.iZipA, iRng1, iRng2, cAbs, List.map_cons, List.map_nil, List.length_cons, List.length_nil, List.replicate, List.cons_append, List.nil_append, List.getElem?_cons_zero, List.getElem?_cons_succ, List.getElem?_nil, List.set_cons_zero, List.set_cons_succ, Nat.reduceAdd, Nat.reduceSub, Nat.zero_add, if_true, if_false, reduceIte, reduceCtorEq, Bool.false_eq_true, decide_eq_true_eq, tDrop, cMin2, cJoin, iList, tDNewK, tLc_eq, iStr, wipe])
          refine ⟨_, hv12, ov.mono (by decide), hbp, fun pk ks H13 x13 n13 hk13 ek13 => ?_⟩
          refine prop_n rfl (hw12.ext x13) rfl rfl ?_
          refine ⟨by omega, h47, fun pg gs H14 x14 n14 hg14 eg14 => ?_⟩
          have hn' : Nw (SI 4) (tl l') := isP4.mp d'.p4
          have hgne : gs ≠ [] := fun e => stk_ne (tl l') (by rw [← eg14, e]; rfl)
          refine ⟨ks, gs, x14 _ _ hk13, hg14, hgne, ?_, ?_, ?_, ?_, fun z2 H15 x15 ez2 => ?_⟩
          · rw [ek13]
            have := fdT_wt (tl l)
            have := TL.len_tl l
            show wt (fdT (tl l)) ≤ _
            omega
          · rw [eg14]
            have := stk_wt (tl l')
            have := TL.len_tl l'
            omega
          · intro y hy
            exact stk_free (l := tl l') (by rw [← eg14]; exact List.mem_map_of_mem hy)
          · intro y hy c hc
            have := stk_sub (l := tl l') (p := tl y) (by rw [← eg14]; exact List.mem_map_of_mem hy) c hc
            exact sg_of hn' c this
          have e5 : V.str z2 = mkT (pathB (fdT (tl l)) (stk (tl l'))) := mk_str (by rw [ez2, ek13, eg14]; rfl)
          have xx := (x13.tr x14).tr x15
          refine repl_u (is := [(4, .str z2)]) (hr12.ext xx) rfl (Nat.le_of_ble_eq_true rfl) (by simp) (by rw [e5]; exact hok _ (.tail _ (.head _))) (by decide) fun u3 H16 e16 hu3 h0' => ?_
          refine fl_app ((g.ex xx).ex e16) (by simp only [List.length_append, List.length_cons, List.length_nil]; omega) hu3 fun H17 g17 x17 => hN _ _ ⟨rfl, ?_⟩
          rw [if_pos ⟨hcb, h47⟩]
          have g18 := g17
          rw [List.append_assoc _ [_] [_]] at g18
          rw [show setAll (restV eV q' f') [(4, V.str z)] = restV (mkT (cln false (tl l'))) q' f' from by rw [e3]; rfl, show setAll (restV eV q' f') [(4, V.str z2)] = restV (mkT (pathB (fdT (tl l)) (stk (tl l')))) q' f' from by rw [e5]; rfl] at g18
          exact g18
        · rw [if_neg (fun z => h47 (of_decide_eq_true z))]
          exact hN _ _ ⟨rfl, by rw [if_neg (fun z => h47 z.2), List.append_nil]; exact fl6⟩
      · rw [if_neg hcb]
        exact hN _ _ ⟨rfl, by rw [if_neg (fun z => hcb z.1), List.append_nil]; exact fl6⟩
    rintro σ H10 ⟨rfl, fl7⟩
    (try simp only [tNext, tFor_eq, cBl, tOp, tC, cI, cIc, cAdd, cVar, hEq, hNe, hIn, hNotIn, hLen, hSl, tM1, tBM, cT1, cT1f, cFind3, cSplit, cPart, rNewStrs, hIsS, hTru, tAsg, gName, gSub, tRet, tRetN, tCons, tNil, tTup, tLst, tCB, tNot, tAnd, tNotV, tAndV, tOrV, tOr, V.bl.injEq, V.int.injEq, V.str.injEq, exists_eq_left', exists_eq_left, exists_eq', true_and, and_true, cIsN, L2.start, gTup, gCons, gNil, nox_K, cx_K, tCallF, tSl, tPart, tNoPart, iEnum, RZ.iZipA, iRng1, iRng2, cAbs, List.map_cons, List.map_nil, List.length_cons, List.length_nil, List.replicate, List.cons_append, List.nil_append, List.getElem?_cons_zero, List.getElem?_cons_succ, List.getElem?_nil, List.set_cons_zero, List.set_cons_succ, Nat.reduceAdd, Nat.reduceSub, Nat.zero_add, if_true, if_false, reduceIte, reduceCtorEq, Bool.false_eq_true, decide_eq_true_eq, tDrop, cMin2, cJoin, iList, tDNewK, tLc_eq, iStr, wipe])
    refine q _ _ ?_
    rw [← List.append_assoc, hLQ, ← List.append_assoc, ← List.append_assoc]
    exact fl7
end
end Da
set_option Elab.async false
set_option linter.all false
set_option maxRecDepth 100000
set_option maxHeartbeats 4000000
namespace Da
open PySem PySem.Spec PyProof.Rows L2 Hd Xs Fx Mi Ms Md Mq Mv ClX Xr
open TL (tl joinL)
/-- which of two URLs is less: by length, then by signs -/
def ltU (a b : List V) : Bool := if (txtV a).length = (txtV b).length then decide (txtV a < txtV b) else decide ((txtV a).length < (txtV b).length)
theorem ltU_eq {x y : Str} {a b : List V} (hx : tl x = txtV a) (hy : tl y = txtV b) : ltIS ((x.length : Nat) : Int) x ((y.length : Nat) : Int) y = ltU a b := by
  unfold ltIS ltU
  rw [← hx, ← hy, ← TL.len_tl, ← TL.len_tl]
  by_cases h : x.length = y.length
  · rw [if_pos h, if_pos (by omega)]
    try rfl
  · rw [if_neg h, if_neg (by omega)]
    exact decide_eq_decide.mpr (by omega)
/-- the first least one -/
def minF : List (List V) → Option (List V) → Option (List V)
  | [], best => best
  | x :: r, none => minF r (some x)
  | x :: r, some b => minF r (if ltU x b = true then some x else some b)
def relV (vs ws : List V) : Option (List V) := minF (leadL vs ws) none
theorem minF_mem : ∀ (us : List (List V)) (best : Option (List V)) (c : List V), minF us best = some c → c ∈ us ∨ best = some c
  | [], best, c, h => .inr h
  | x :: r, none, c, h => by
    rcases minF_mem r (some x) c h with h | h
    · exact .inl (.tail _ h)
    · rw [← Option.some.inj h]; exact .inl (.head _)
  | x :: r, some b, c, h => by
    rcases minF_mem r _ c h with h | h
    · exact .inl (.tail _ h)
    · split at h
      · rw [← Option.some.inj h]; exact .inl (.head _)
      · exact .inr h
theorem minF_some : ∀ (us : List (List V)) (best : Option (List V)), (us ≠ [] ∨ best ≠ none) → ∃ c, minF us best = some c
  | [], best, h => by
    rcases h with h | h
    · exact absurd rfl h
    · exact Option.ne_none_iff_exists'.mp h
  | x :: r, none, _ => minF_some r (some x) (.inr (by simp))
  | x :: r, some b, _ => minF_some r _ (.inr (by split <;> simp))
theorem rel_mem {vs ws c : List V} (h : relV vs ws = some c) : c ∈ leadL vs ws := by
  rcases minF_mem _ _ _ h with h | h
  · exact h
  · cases h
/-- what relative returns -/
def RelR (K : PySem.W.Frag) (o : Option (List V)) (Q : VK) (H' : Hp) : Prop := match o with
  | none => Q .non H'
  | some c => ∀ u, UrlAt K H' u c → Q (.ref u) H'
theorem rank_ok {K : PySem.W.Frag} {H : Hp} {a : Addr} {ws : List V} {n : Nat} {Q : VK} {E : XK} (hu : UrlAt K H a ws) (o : OkU n ws) (hn : n ≤ 60000) (q : ∀ p z H', Ext H H' → tl z = txtV ws → H' p = some (.tup [.int ((z.length : Nat) : Int), .str z]) → Q (.ref p) H') : spRank K [.ref a] H Q E := ⟨ws, hu, o.mono hn, q⟩
/-- the best so far, and its rank -/
def BestU (K : PySem.W.Frag) (H : Hp) (best : Option (V × V)) (bu : Option (List V)) : Prop := match best, bu with
  | none, none => True
  | some (x, k), some c => ∃ a p z, x = .ref a ∧ k = .ref p ∧ UrlAt K H a c ∧ tl z = txtV c ∧ H p = some (.tup [.int ((z.length : Nat) : Int), .str z])
  | _, _ => False
theorem BestU.ext {K : PySem.W.Frag} {H H' : Hp} {best : Option (V × V)} {bu : Option (List V)} (h : BestU K H best bu) (e : Ext H H') : BestU K H' best bu := by
  cases best with
  | none => cases bu with
    | none => trivial
    | some c => exact h.elim
  | some p => cases bu with
    | none => exact h.elim
    | some c =>
      obtain ⟨a, p, z, h1, h2, h3, h4, h5⟩ := h
      exact ⟨a, p, z, h1, h2, h3.ext e, h4, e _ _ h5⟩
theorem min_urls {K : PySem.W.Frag} {l : Addr} {all : List V} {Q : VK} : ∀ (as : List Addr) (us : List (List V)) (best : Option (V × V)) (bu : Option (List V)) (H : Hp), F2 (fun a u => UrlAt K H a u) as us → (∀ u ∈ us, OkU 20000 u) → H l = some (.lst all) → BestU K H best bu →
    (∀ H', Ext H H' → RelR K (minF us bu) Q H') → minO K (spRank K) l all .non Q (as.map V.ref) best H
  | _, _, best, bu, H, .nil, _, hl, hb, q => by
    refine ⟨hl, ?_⟩
    have q0 := q H Ext.rf
    cases best with
    | none => cases bu with
      | none => exact q0
      | some c => exact hb.elim
    | some p => cases bu with
      | none => exact hb.elim
      | some c =>
        obtain ⟨px, pk⟩ := p
        obtain ⟨a, p, z, h1, h2, h3, h4, h5⟩ := hb
        cases h1
        exact q0 a h3
  | _, _, best, bu, H, .cons (a := a) (b := u) (as := as) (bs := us) hu t, ho, hl, hb, q => by
    refine ⟨hl, rank_ok hu (ho u (.head _)) (by decide) fun p z H' x ez hp => ?_⟩
    have ho' : ∀ u ∈ us, OkU 20000 u := fun u hu => ho u (.tail _ hu)
    have t' : F2 (fun a u => UrlAt K H' a u) as us := F2.imp (fun _ _ y => y.ext x) t
    have hl' := x _ _ hl
    have hu' := hu.ext x
    cases best with
    | none => cases bu with
      | some c => exact hb.elim
      | none =>
        exact min_urls as us (some (.ref a, .ref p)) (some u) H' t' ho' hl' ⟨a, p, z, rfl, rfl, hu', ez, hp⟩ fun H2 x2 => q H2 (x.tr x2)
    | some bk => cases bu with
      | none => exact hb.elim
      | some c =>
        obtain ⟨bx, bkk⟩ := bk
        obtain ⟨a0, p0, z0, h1, h2, h3, h4, h5⟩ := hb.ext x
        refine ⟨ltU u c, ⟨p, p0, _, z, _, z0, rfl, h2, .inl (.inl hp), .inl (.inl h5), (ltU_eq ez h4).symm⟩, ?_⟩
        cases hlt : ltU u c with
        | true =>
          rw [if_pos rfl]
          refine min_urls as us (some (.ref a, .ref p)) (some u) H' t' ho' hl' ⟨a, p, z, rfl, rfl, hu', ez, hp⟩ fun H2 x2 => ?_
          have := q H2 (x.tr x2)
          rw [show minF (u :: us) (some c) = minF us (if ltU u c = true then some u else some c) from rfl, hlt, if_pos rfl] at this
          exact this
        | false =>
          rw [if_neg Bool.false_ne_true]
          refine min_urls as us (some (bx, bkk)) (some c) H' t' ho' hl' ⟨a0, p0, z0, h1, h2, h3, h4, h5⟩ fun H2 x2 => ?_
          have := q H2 (x.tr x2)
          rw [show minF (u :: us) (some c) = minF us (if ltU u c = true then some u else some c) from rfl, hlt, if_neg Bool.false_ne_true] at this
          exact this
def spRel (K : PySem.W.Frag) : Sp := fun vs H Q _ => match vs with
  | [.ref a, .ref b] => ∃ vs ws, UrlAt K H a vs ∧ UrlAt K H b ws ∧ OkU 2990 vs ∧ OkU 2990 ws ∧ isB vs = true ∧ ∀ H', Ext H H' → RelR K (relV vs ws) Q H'
  | _ => False
theorem rel_ok {K : PySem.W.Frag} {H : Hp} {a b : Addr} {n m : Nat} {vs ws : List V} {Q : VK} {E : XK} (ha : UrlAt K H a vs) (hb : UrlAt K H b ws) (oa : OkU n vs) (ob : OkU m ws) (hn : n ≤ 2990) (hm : m ≤ 2990) (bb : isB vs = true) (q : ∀ H', Ext H H' → RelR K (relV vs ws) Q H') : spRel K [.ref a, .ref b] H Q E :=
  ⟨vs, ws, ha, hb, oa.mono hn, ob.mono hm, bb, q⟩
section
variable {P : Program} {w : World} {K : PySem.W.Frag} {mg : Str → Option Value} {base : Heap}
theorem ok_relative (c : Ct w K mg) : OkF P w K mg base CX0 10 (He.ga K "relative") ["base", "goal"] (spRel K) := by
  obtain ⟨fd, F⟩ := F_relative c
  refine ⟨fd, F.ok sc_relative (fun vs H Q E h => ?_) (fun cdv A outer s H vs Q E hr h => ⟨_, PSs.nox ((pss_cons (ps_if (pt_not (ct (pe_prop (cv 0) (cls_Url c) (prop_Url_is_base c) (ok_Url_is_base c).choose_spec.1 (hr.mono (by decide)) (ok_Url_is_base c).choose_spec.2 .nil pass0 (by rfl)))) (pss_one ps_dead) pss_nil) (pss_one (ps_ret (pe_callBK (ks := ["key", "default"]) (cr_minKD rfl (ok_rank c).r (hr.mono (by decide))) (by rfl) (b_min c) (by decide +kernel) (pa_cons (pf (ok__leading c) (hr.mono (by decide)) (g__leading c) (k__leading c) pass0 (pa_cons (cv 0) (pa_cons (cv 1) pa_nil))) pa_nil) (pk_cons (pe_glob (v := .ref (He.ga K "rank")) rfl (g_rank c) rfl) (pk_cons pe_non pk_nil))))))), ?_⟩), F.bindsN fun _ _ _ _ _ _ us hl => match us, hl with | [_, _], _ => rfl⟩
  · unfold spRel at h
    split at h
    · rfl
    · exact h.elim
  · unfold spRel at h
    split at h
    case h_2 => exact h.elim
    rename_i a b
    obtain ⟨vs, ws, hv, hw, ov, ow, bb, q⟩ := h
    have sl := sl
    obtain ⟨⟨s, u, h, p, l, qq, f, rfl⟩, dv, lv⟩ := id ov
    have ll : l.length ≤ 2990 := by
      rcases lv (.str l) (by simp) with e | ⟨t, e, ht⟩
      · cases e
      · cases e; exact ht
    have hlead := lead_ok ov ow bb
    refine seqStep ?_
    try unfold tIfS
    (try simp only [tNext, tFor_eq, cBl, tOp, tC, cI, cIc, cAdd, cVar, hEq, hNe, hIn, hNotIn, hLen, hSl, tM1, tBM, cT1, cT1f, cFind3, cSplit, cPart, rNewStrs, hIsS, hTru, tAsg, gName, gSub, tRet, tRetN, tCons, tNil, tTup, tLst, tCB, tNot, tAnd, tNotV, tAndV, tOrV, tOr, V.bl.injEq, V.int.injEq, V.str.injEq, exists_eq_left', exists_eq_left, exists_eq', true_and, and_true, cIsN, L2.start, gTup, gCons, gNil, nox_K, cx_K, tCallF, tSl, tPart, tNoPart, iEnum, RZ.iZipA, iRng1, iRng2, cAbs, List.map_cons, List.map_nil, List.length_cons, List.length_nil, List.replicate, List.cons_append, List.nil_append, List.getElem?_cons_zero, List.getElem?_cons_succ, List.getElem?_nil, List.set_cons_zero, List.set_cons_succ, Nat.reduceAdd, Nat.reduceSub, Nat.zero_add, if_true, if_false, reduceIte, reduceCtorEq, Bool.false_eq_true, decide_eq_true_eq, tDrop, cMin2, cJoin, iList, tDNewK, tLc_eq, iStr, wipe])
    have bb2 : (!decide (s = .non) && !opq s h (tl l)) = true := bb
    refine kind_n rfl hv (by omega) ?_
    try dsimp only
    rw [bb2]
    simp only [Bool.not_true, Bool.false_eq_true, if_false]
    (try simp only [tNext, tFor_eq, cBl, tOp, tC, cI, cIc, cAdd, cVar, hEq, hNe, hIn, hNotIn, hLen, hSl, tM1, tBM, cT1, cT1f, cFind3, cSplit, cPart, rNewStrs, hIsS, hTru, tAsg, gName, gSub, tRet, tRetN, tCons, tNil, tTup, tLst, tCB, tNot, tAnd, tNotV, tAndV, tOrV, tOr, V.bl.injEq, V.int.injEq, V.str.injEq, exists_eq_left', exists_eq_left, exists_eq', true_and, and_true, cIsN, L2.start, gTup, gCons, gNil, nox_K, cx_K, tCallF, tSl, tPart, tNoPart, iEnum, RZ.iZipA, iRng1, iRng2, cAbs, List.map_cons, List.map_nil, List.length_cons, List.length_nil, List.replicate, List.cons_append, List.nil_append, List.getElem?_cons_zero, List.getElem?_cons_succ, List.getElem?_nil, List.set_cons_zero, List.set_cons_succ, Nat.reduceAdd, Nat.reduceSub, Nat.zero_add, if_true, if_false, reduceIte, reduceCtorEq, Bool.false_eq_true, decide_eq_true_eq, tDrop, cMin2, cJoin, iList, tDNewK, tLc_eq, iStr, wipe])
    try unfold tCKw
    (try simp only [tNext, tFor_eq, cBl, tOp, tC, cI, cIc, cAdd, cVar, hEq, hNe, hIn, hNotIn, hLen, hSl, tM1, tBM, cT1, cT1f, cFind3, cSplit, cPart, rNewStrs, hIsS, hTru, tAsg, gName, gSub, tRet, tRetN, tCons, tNil, tTup, tLst, tCB, tNot, tAnd, tNotV, tAndV, tOrV, tOr, V.bl.injEq, V.int.injEq, V.str.injEq, exists_eq_left', exists_eq_left, exists_eq', true_and, and_true, cIsN, L2.start, gTup, gCons, gNil, nox_K, cx_K, tCallF, tSl, tPart, tNoPart, iEnum, RZ.iZipA, iRng1, iRng2, cAbs, List.map_cons, List.map_nil, List.length_cons, List.length_nil, List.replicate, List.cons_append, List.nil_append, List.getElem?_cons_zero, List.getElem?_cons_succ, List.getElem?_nil, List.set_cons_zero, List.set_cons_succ, Nat.reduceAdd, Nat.reduceSub, Nat.zero_add, if_true, if_false, reduceIte, reduceCtorEq, Bool.false_eq_true, decide_eq_true_eq, tDrop, cMin2, cJoin, iList, tDNewK, tLc_eq, iStr, wipe])
    refine ⟨_, ws, hv, hw, ov, ow, bb, fun pf H1 fl => ?_⟩
    obtain ⟨as, e, t⟩ := fl.at_
    refine ⟨pf, as.map V.ref, .non, rfl, rfl, ?_⟩
    exact min_urls as _ none none H1 t (fun c hc => (hlead c hc).1) e trivial fun H' x => q H' (fl.ext.tr x)
end
end Da
set_option Elab.async false
set_option linter.all false
set_option maxRecDepth 100000
set_option maxHeartbeats 4000000
namespace Da
open PySem PySem.Spec PyProof.Rows L2 Hd Xs Fx Mi Ms Md Mq ClX Xr
open TL (tl joinL)
theorem SG_small : ∀ i < 7, (SG i).all (· < 256) = true := by decide +kernel
theorem isP_pv {i n : Nat} {v : V} (hi : i < 7) (h : isP i v = true) (hl : Lv n v) (hn : n ≤ 3000) : PV v := by
  rcases hl with rfl | ⟨t, rfl, ht⟩
  · exact .inl rfl
  · refine .inr ⟨t, rfl, by omega, fun c hc => ?_⟩
    have hw : wP i (tl t) = none := Option.isNone_iff_eq_none.mp h
    rcases wP_all hi hw c hc with e | e
    · rw [e]; decide
    · exact of_decide_eq_true (List.all_eq_true.mp (SG_small i hi) c (List.contains_iff_mem.mp e))
theorem OkU.pv {n : Nat} {vs : List V} (h : OkU n vs) (hn : n ≤ 3000) : ∀ v ∈ vs, PV v := by
  obtain ⟨⟨s, u, h', p, l, q, f, rfl⟩, d, hl⟩ := h
  have d := due_iff.mp d
  intro v hv
  have hlv := hl v hv
  simp only [List.mem_cons, List.not_mem_nil, or_false] at hv
  rcases hv with rfl | rfl | rfl | rfl | rfl | rfl | rfl
  · exact isP_pv (i := 0) (by decide) d.p0 hlv hn
  · exact isP_pv (i := 1) (by decide) d.p1 hlv hn
  · exact isP_pv (i := 2) (by decide) d.p2 hlv hn
  · exact isP_pv (i := 3) (by decide) d.p3 hlv hn
  · exact isP_pv (i := 4) (by decide) d.p4 hlv hn
  · exact isP_pv (i := 5) (by decide) d.p5 hlv hn
  · exact isP_pv (i := 6) (by decide) d.p6 hlv hn
/-- a text that stands for part i -/
theorem OkU.of {n : Nat} {s u h p q f : V} {l : Str} (d : Due s u h p (.str l) q f) (hl : ∀ v ∈ [s, u, h, p, .str l, q, f], Lv n v) : OkU n [s, u, h, p, .str l, q, f] := ⟨⟨_, _, _, _, _, _, _, rfl⟩, due_iff.mpr d, hl⟩
def spParts (K : PySem.W.Frag) : Sp := fun vs H Q _ => match vs with
  | [.ref a] => ∃ xs, UrlAt K H a xs ∧ xs.length = 7 ∧ ∀ p H', Ext H H' → H p = none → H' p = some (.tup xs) → Q (.ref p) H'
  | _ => False
def spUrl (K : PySem.W.Frag) : Sp := fun vs H Q _ => match vs with
  | [.ref p] => ∃ n xs, H p = some (.tup xs) ∧ OkU n xs ∧ n ≤ (100000 : Nat) ∧ ∀ u H', Ext H H' → UrlAt K H' u xs → H u = none → Q (.ref u) H'
  | _ => False
theorem url_ok {K : PySem.W.Frag} {H : Hp} {p : Addr} {n : Nat} {xs : List V} {Q : VK} {E : XK} (hp : H p = some (.tup xs)) (o : OkU n xs) (hn : n ≤ (100000 : Nat)) (q : ∀ u H', Ext H H' → UrlAt K H' u xs → H u = none → Q (.ref u) H') : spUrl K [.ref p] H Q E := ⟨n, xs, hp, o, hn, q⟩
theorem parts_ok {K : PySem.W.Frag} {H : Hp} {a : Addr} {xs : List V} {Q : VK} {E : XK} (hu : UrlAt K H a xs) (hl : xs.length = 7) (q : ∀ p H', Ext H H' → H p = none → H' p = some (.tup xs) → Q (.ref p) H') : spParts K [.ref a] H Q E := ⟨xs, hu, hl, q⟩
def spLeads (K : PySem.W.Frag) : Sp := fun vs H Q _ => match vs with
  | [.ref a, .ref b, .ref g] => ∃ vs ws gs, UrlAt K H a vs ∧ UrlAt K H b ws ∧ UrlAt K H g gs ∧ OkU 40000 vs ∧ OkU 40000 ws ∧ OkU 3000 gs ∧ OkU 3000 (joinV vs ws) ∧ isB vs = true ∧ ∀ H', Ext H H' → Q (.bl (decide (joinV vs ws = gs))) H'
  | _ => False
/-- an authority's three parts -/
structure Au3 (u h g : V) : Prop where
  p1 : isP 1 u = true
  p2 : isP 2 h = true
  p3 : isP 3 g = true
  n : h ≠ .non
  l1 : Lv 10 u
  l2 : Lv 10 h
  l3 : Lv 10 g
def spAuth : Sp := fun vs H Q _ => match vs with
  | [.ref a] => ∃ m, Bg m H a ∧ m ≤ 100000 ∧ ∀ p u h g H', H' p = some (.tup [u, h, g]) → Au3 u h g → Bg (m + 1) H' a → Kp a H H' → Q (.ref p) H'
  | _ => False
def spTail : Sp := fun vs H Q _ => match vs with
  | [.ref a] => ∃ m, Bg m H a ∧ m ≤ 100000 ∧ ∀ v H', isP 5 v = true → Lv 10 v → Bg (m + 1) H' a → Kp a H H' → Q v H'
  | _ => False
theorem auth_ok {m : Nat} {H : Hp} {a : Addr} {Q : VK} {E : XK} (hb : Bg m H a) (hm : m ≤ 100000) (q : ∀ p u h g H', H' p = some (.tup [u, h, g]) → Au3 u h g → Bg (m + 1) H' a → Kp a H H' → Q (.ref p) H') : spAuth [.ref a] H Q E := ⟨m, hb, hm, q⟩
theorem tail_ok {m : Nat} {H : Hp} {a : Addr} {Q : VK} {E : XK} (hb : Bg m H a) (hm : m ≤ 100000) (q : ∀ v H', isP 5 v = true → Lv 10 v → Bg (m + 1) H' a → Kp a H H' → Q v H') : spTail [.ref a] H Q E := ⟨m, hb, hm, q⟩
/-- the scheme is not the one that is put in -/
def NZ (xs : List V) : Prop := xs.head? ≠ some (V.str (Str.ofString "zz"))
theorem nz {s : V} {r : List V} (h : s ≠ V.str (Str.ofString "zz")) : NZ (s :: r) := fun e => h (Option.some.inj e)
def spDBase : Sp := fun vs H Q _ => match vs with
  | [.ref a] => ∃ m, Bg m H a ∧ m ≤ 80000 ∧ ∀ p xs H', H' p = some (.tup xs) → H p = none → p ≠ a → OkU 300 xs ∧ NZ xs → isB xs = true → Bg (m + 30) H' a → Kp a H H' → Q (.ref p) H'
  | _ => False
theorem dbase_ok {m : Nat} {H : Hp} {a : Addr} {Q : VK} {E : XK} (hb : Bg m H a) (hm : m ≤ 80000) (q : ∀ p xs H', H' p = some (.tup xs) → H p = none → p ≠ a → OkU 300 xs ∧ NZ xs → isB xs = true → Bg (m + 30) H' a → Kp a H H' → Q (.ref p) H') : spDBase [.ref a] H Q E := ⟨m, hb, hm, q⟩
section
variable {P : Program} {w : World} {K : PySem.W.Frag} {mg : Str → Option Value} {base : Heap}
theorem ok__law_url (c : Ct w K mg) : OkF P w K mg base CX0 8 (He.ga K "_law_url") ["parts"] (spUrl K) := by
  obtain ⟨fd, F⟩ := F__law_url c
  refine ⟨fd, F.ok sc__law_url (fun vs H Q E h => ?_) (fun cdv A outer s H vs Q E hr h => ⟨_, PSs.nox ((pss_one (ps_ret (pe_cmethN (E := E0) (ks := ["scheme", "user", "host", "port", "path", "query", "fragment"]) (pe_glob (v := .ref (He.ga K "Url")) rfl (g_Url c) rfl) (read_Url c) (cm_Url_of c) (ok_Url_of c).choose_spec.1 (ok_Url_of c).choose_spec.2 (hr.mono (by decide)) (passes_call takes0 (fun _ _ _ _ z => z)) (pk_cons (hix (cv 0) pe_int) (pk_cons (hix (cv 0) pe_int) (pk_cons (hix (cv 0) pe_int) (pk_cons (hix (cv 0) pe_int) (pk_cons (hix (cv 0) pe_int) (pk_cons (hix (cv 0) pe_int) (pk_cons (hix (cv 0) pe_int) pk_nil))))))) (by decide +kernel) (by decide +kernel))))), ?_⟩), F.bindsN fun _ _ _ _ _ _ us hl => match us, hl with | [_], _ => rfl⟩
  · unfold spUrl at h
    split at h
    · rfl
    · exact h.elim
  · unfold spUrl at h
    split at h
    case h_2 => exact h.elim
    rename_i p
    obtain ⟨n, xs, hp, o, hn, q⟩ := h
    obtain ⟨s, u, hh, g, l, qq, f, rfl⟩ := o.ex
    unfold tRet tCMethN
    (try simp only [tSeq, tNext, tIfS, tFor_eq, cBl, tOp, tC, cI, cIc, cAdd, cVar, hEq, hNe, hIn, hNotIn, hLen, hSl, tM1, tBM, cT1, cT1f, cFind3, cSplit, cPart, rNewStrs, hIsS, hTru, tAsg, gName, gSub, tRet, tRetN, tCons, tNil, tTup, tLst, tCB, tNot, tAnd, tNotV, tAndV, tOrV, tOr, V.bl.injEq, V.int.injEq, V.str.injEq, exists_eq_left', exists_eq_left, exists_eq', true_and, and_true, cIsN, L2.start, gTup, gCons, gNil, nox_K, cx_K, tCallF, tSl, tPart, tNoPart, iEnum, RZ.iZipA, iRng1, iRng2, cAbs, List.map_cons, List.map_nil, List.length_cons, List.length_nil, List.replicate, List.cons_append, List.nil_append, List.getElem?_cons_zero, List.getElem?_cons_succ, List.getElem?_nil, List.set_cons_zero, List.set_cons_succ, Nat.reduceAdd, Nat.reduceSub, Nat.zero_add, if_true, if_false, reduceIte, reduceCtorEq, Bool.false_eq_true, decide_eq_true_eq, tDrop, cMin2, cJoin, iList, tDNewK, tLc_eq, iStr, wipe])
    simp only [hIx, seqAt_tup hp]
    have ekw : ∀ a0 a1 a2 a3 a4 a5 a6 : V, kwVals ofDfl (V.ref (He.ga K "Url")) ([("scheme" : Str), "user", "host", "port", "path", "query", "fragment"].zip [a0, a1, a2, a3, a4, a5, a6]) = [.ref (uC K), a0, a1, a2, a3, a4, a5, a6] := fun _ _ _ _ _ _ _ => by rfl
    show spOf K (kwVals ofDfl (V.ref (He.ga K "Url")) ([("scheme" : Str), "user", "host", "port", "path", "query", "fragment"].zip [s, u, hh, g, .str l, qq, f])) H Q _
    rw [ekw]
    refine ⟨rfl, fun v hv => (o.len v hv).av hn, ?_⟩
    rw [o.due]
    exact fun a H' e hu h0 => q a H' e hu h0
theorem ok__law_authority (c : Ct w K mg) : OkF P w K mg base CX0 2 (He.ga K "_law_authority") ["bag"] (spAuth) := by
  obtain ⟨fd, F⟩ := F__law_authority c
  refine ⟨fd, F.ok sc__law_authority (fun vs H Q E h => ?_) (fun cdv A outer s H vs Q E hr h => ⟨_, PSs.nox ((pss_cons (ps_set (i := 1) (sc__law_authority).nd rfl (Or.inl rfl) (pe_lst (pa_cons (pe_tup (pa_cons pe_non (pa_cons pe_str (pa_cons pe_non pa_nil)))) (pa_cons (pe_tup (pa_cons pe_non (pa_cons pe_str (pa_cons pe_non pa_nil)))) (pa_cons (pe_tup (pa_cons pe_str (pa_cons pe_str (pa_cons pe_str pa_nil)))) (pa_cons (pe_tup (pa_cons pe_str (pa_cons pe_str (pa_cons pe_str pa_nil)))) (pa_cons (pe_tup (pa_cons pe_non (pa_cons pe_str (pa_cons pe_str pa_nil)))) pa_nil))))))) (pss_one (ps_ret (hix (cv 1) (pf (ok__law_take c) (hr.mono (by decide)) (g__law_take c) (k__law_take c) pass0 (pa_cons (cv 0) (pa_cons pe_int pa_nil)))))))), ?_⟩), F.bindsN fun _ _ _ _ _ _ us hl => match us, hl with | [_], _ => rfl⟩
  · unfold spAuth at h
    split at h
    · rfl
    · exact h.elim
  · unfold spAuth at h
    split at h
    case h_2 => exact h.elim
    rename_i a
    obtain ⟨m, hb, hm, q⟩ := h
    (try simp only [tSeq, tNext, tIfS, tFor_eq, cBl, tOp, tC, cI, cIc, cAdd, cVar, hEq, hNe, hIn, hNotIn, hLen, hSl, tM1, tBM, cT1, cT1f, cFind3, cSplit, cPart, rNewStrs, hIsS, hTru, tAsg, gName, gSub, tRet, tRetN, tCons, tNil, tTup, tLst, tCB, tNot, tAnd, tNotV, tAndV, tOrV, tOr, V.bl.injEq, V.int.injEq, V.str.injEq, exists_eq_left', exists_eq_left, exists_eq', true_and, and_true, cIsN, L2.start, gTup, gCons, gNil, nox_K, cx_K, tCallF, tSl, tPart, tNoPart, iEnum, RZ.iZipA, iRng1, iRng2, cAbs, List.map_cons, List.map_nil, List.length_cons, List.length_nil, List.replicate, List.cons_append, List.nil_append, List.getElem?_cons_zero, List.getElem?_cons_succ, List.getElem?_nil, List.set_cons_zero, List.set_cons_succ, Nat.reduceAdd, Nat.reduceSub, Nat.zero_add, if_true, if_false, reduceIte, reduceCtorEq, Bool.false_eq_true, decide_eq_true_eq, tDrop, cMin2, cJoin, iList, tDNewK, tLc_eq, iStr, wipe])
    refine ⟨by decide, fun p1 hp1 => ⟨by decide, fun p2 hp2 => ⟨by decide, fun p3 hp3 => ⟨by decide, fun p4 hp4 => ⟨by decide, fun p5 hp5 => ⟨by decide, fun p6 hp6 => ?_⟩⟩⟩⟩⟩⟩
    have n1 := hb.ne hp1
    have n2 : p2 ≠ a := Bg.ne (by exact (hb.fresh hp1)) hp2
    have n3 : p3 ≠ a := Bg.ne (by exact ((hb.fresh hp1).fresh hp2)) hp3
    have n4 : p4 ≠ a := Bg.ne (by exact (((hb.fresh hp1).fresh hp2).fresh hp3)) hp4
    have n5 : p5 ≠ a := Bg.ne (by exact ((((hb.fresh hp1).fresh hp2).fresh hp3).fresh hp4)) hp5
    have n6 : p6 ≠ a := Bg.ne (by exact (((((hb.fresh hp1).fresh hp2).fresh hp3).fresh hp4).fresh hp5)) hp6
    refine take_ok (by exact (((((hb.fresh hp1).fresh hp2).fresh hp3).fresh hp4).fresh hp5).fresh hp6) hm (by decide) (by decide) fun d H1 d0 d1 hb1 hk1 => ?_
    refine hIx_all (hk1 _ _ n6 upd_self) d0 d1 fun v hv => ?_
    have hk : Kp a H H1 := Kp.trans (by exact (((((Kp.refl.fresh hp1).fresh hp2).fresh hp3).fresh hp4).fresh hp5).fresh hp6) hk1
    have e1 := hk1 _ _ n1 (upd_old (upd_old (upd_old (upd_old (upd_old upd_self hp2) hp3) hp4) hp5) hp6)
    have e2 := hk1 _ _ n2 (upd_old (upd_old (upd_old (upd_old upd_self hp3) hp4) hp5) hp6)
    have e3 := hk1 _ _ n3 (upd_old (upd_old (upd_old upd_self hp4) hp5) hp6)
    have e4 := hk1 _ _ n4 (upd_old (upd_old upd_self hp5) hp6)
    have e5 := hk1 _ _ n5 (upd_old upd_self hp6)
    have ln : Lv 10 V.non := .inl rfl
    have ls : ∀ s : String, (Str.ofString s).length ≤ 10 → Lv 10 (V.str (Str.ofString s)) := fun s h => .inr ⟨_, rfl, h⟩
    simp only [List.mem_cons, List.not_mem_nil, or_false] at hv
    rcases hv with rfl | rfl | rfl | rfl | rfl
    · exact q _ _ _ _ _ e1 ⟨by decide +kernel, by decide +kernel, by decide +kernel, V.noConfusion, ln, ls _ (by decide), ln⟩ hb1 hk
    · exact q _ _ _ _ _ e2 ⟨by decide +kernel, by decide +kernel, by decide +kernel, V.noConfusion, ln, ls _ (by decide), ln⟩ hb1 hk
    · exact q _ _ _ _ _ e3 ⟨by decide +kernel, by decide +kernel, by decide +kernel, V.noConfusion, ls _ (by decide), ls _ (by decide), ls _ (by decide)⟩ hb1 hk
    · exact q _ _ _ _ _ e4 ⟨by decide +kernel, by decide +kernel, by decide +kernel, V.noConfusion, ls _ (by decide), ls _ (by decide), ls _ (by decide)⟩ hb1 hk
    · exact q _ _ _ _ _ e5 ⟨by decide +kernel, by decide +kernel, by decide +kernel, V.noConfusion, ln, ls _ (by decide), ls _ (by decide)⟩ hb1 hk
theorem ok__law_tail (c : Ct w K mg) : OkF P w K mg base CX0 2 (He.ga K "_law_tail") ["bag"] (spTail) := by
  obtain ⟨fd, F⟩ := F__law_tail c
  refine ⟨fd, F.ok sc__law_tail (fun vs H Q E h => ?_) (fun cdv A outer s H vs Q E hr h => ⟨_, PSs.nox ((pss_one (ps_ret (hix (pe_lst (pa_cons pe_non (pa_cons pe_non (pa_cons pe_str (pa_cons pe_str (pa_cons pe_str (pa_cons pe_str pa_nil))))))) (pf (ok__law_take c) (hr.mono (by decide)) (g__law_take c) (k__law_take c) pass0 (pa_cons (cv 0) (pa_cons pe_int pa_nil))))))), ?_⟩), F.bindsN fun _ _ _ _ _ _ us hl => match us, hl with | [_], _ => rfl⟩
  · unfold spTail at h
    split at h
    · rfl
    · exact h.elim
  · unfold spTail at h
    split at h
    case h_2 => exact h.elim
    rename_i a
    obtain ⟨m, hb, hm, q⟩ := h
    (try simp only [tSeq, tNext, tIfS, tFor_eq, cBl, tOp, tC, cI, cIc, cAdd, cVar, hEq, hNe, hIn, hNotIn, hLen, hSl, tM1, tBM, cT1, cT1f, cFind3, cSplit, cPart, rNewStrs, hIsS, hTru, tAsg, gName, gSub, tRet, tRetN, tCons, tNil, tTup, tLst, tCB, tNot, tAnd, tNotV, tAndV, tOrV, tOr, V.bl.injEq, V.int.injEq, V.str.injEq, exists_eq_left', exists_eq_left, exists_eq', true_and, and_true, cIsN, L2.start, gTup, gCons, gNil, nox_K, cx_K, tCallF, tSl, tPart, tNoPart, iEnum, RZ.iZipA, iRng1, iRng2, cAbs, List.map_cons, List.map_nil, List.length_cons, List.length_nil, List.replicate, List.cons_append, List.nil_append, List.getElem?_cons_zero, List.getElem?_cons_succ, List.getElem?_nil, List.set_cons_zero, List.set_cons_succ, Nat.reduceAdd, Nat.reduceSub, Nat.zero_add, if_true, if_false, reduceIte, reduceCtorEq, Bool.false_eq_true, decide_eq_true_eq, tDrop, cMin2, cJoin, iList, tDNewK, tLc_eq, iStr, wipe])
    refine ⟨by decide, fun p hp => ?_⟩
    refine take_ok (hb.fresh hp) hm (by decide) (by decide) fun d H1 d0 d1 hb1 hk1 => ?_
    refine hIx_all (hk1 _ _ (hb.ne hp) upd_self) d0 d1 fun v hv => ?_
    have hk : Kp a H H1 := (Kp.refl.fresh hp).trans hk1
    simp only [List.mem_cons, List.not_mem_nil, or_false] at hv
    rcases hv with rfl | rfl | rfl | rfl | rfl | rfl
    · exact q _ _ (by decide +kernel) (.inl rfl) hb1 hk
    · exact q _ _ (by decide +kernel) (.inl rfl) hb1 hk
    all_goals exact q _ _ (by decide +kernel) (.inr ⟨_, rfl, by decide⟩) hb1 hk
end
end Da
set_option Elab.async false
set_option linter.all false
set_option maxRecDepth 100000
set_option maxHeartbeats 4000000
namespace Da
open PySem PySem.Spec PyProof.Rows L2 Hd Xs Fx Mi Ms Md Mq Mv ClX Xr
open TL (tl joinL)
theorem leads_u {K : PySem.W.Frag} {H : Hp} {a b g : Addr} {n m : Nat} {vs ws gs : List V} {Q : VK} {E : XK} (ha : UrlAt K H a vs) (hb : UrlAt K H b ws) (hg : UrlAt K H g gs) (oa : OkU n vs) (ob : OkU m ws) (og : OkU 3000 gs) (oj : OkU 3000 (joinV vs ws)) (hn : n ≤ 40000) (hm : m ≤ 40000) (bb : isB vs = true) (q : ∀ H', Ext H H' → Q (.bl (decide (joinV vs ws = gs))) H') :
    spLeads K [.ref a, .ref b, .ref g] H Q E := ⟨vs, ws, gs, ha, hb, hg, oa.mono hn, ob.mono hm, og, oj, bb, q⟩
theorem ne_u {K : PySem.W.Frag} {H : Hp} {a b : Addr} {n m : Nat} {vs ws : List V} {Q : VK} {neg : Bool} (ha : UrlAt K H a vs) (hb : UrlAt K H b ws) (oa : OkU n vs) (ob : OkU m ws) (hn : n ≤ 3000) (hm : m ≤ 3000) (q : Q (.bl (if neg then !decide (vs = ws) else decide (vs = ws))) H) : rEqO (He.ga K "Url") (spEqU K) neg (.ref a) (.ref b) H Q := by
  obtain ⟨dx, T, h1, h2⟩ := id ha
  obtain ⟨dy, T2, h3, h4⟩ := id hb
  exact ⟨a, dx, _, rfl, h1, .inl ⟨b, dy, _, rfl, h3⟩, _, ha, oa.l7, oa.pv hn, .inl ⟨b, ws, rfl, hb, ob.l7, ob.pv hm, ⟨_, rfl, q⟩⟩⟩
/-- what a reference leads to -/
structure Found (vs ws : List V) (S U A P : V) (L : Str) (Q F : V) : Prop where
  e : joinV vs ws = [S, U, A, P, .str L, Q, F]
  s : S ≠ .non
  f : F = ws.getD 6 .non
  c : clB A (.str L) = true ∨ (ws.getD 0 .non = .non ∧ ws.getD 2 .non = .non ∧ ws.getD 4 .non = eV ∧ ∃ q f, vs = [S, U, A, P, .str L, q, f] ∧ (Q = q ∨ Q ≠ .non))
theorem found_of {n m : Nat} {vs ws : List V} (ov : OkU n vs) (ow : OkU m ws) (bb : isB vs = true) : ∃ S U A P L Q F, Found vs ws S U A P L Q F := by
  obtain ⟨⟨s, u, h, p, l, qq, f, rfl⟩, dv, lv⟩ := id ov
  obtain ⟨⟨s', u', h', p', l', q', f', rfl⟩, dw, lw⟩ := id ow
  have hs := (isB_iff.mp bb).1
  have jv : joinV [s, u, h, p, .str l, qq, f] [s', u', h', p', .str l', q', f'] = (if s' ≠ .non then [s', u', h', p', mkT (cln (hasA h') (tl l')), q', f'] else if h' ≠ .non then [s, u', h', p', mkT (cln true (tl l')), q', f'] else if tl l' = [] then [s, u, h, p, .str l, if q' = .non then qq else q', f']
      else [s, u, h, p, mkT (cln (hasA h) (if (tl l').take 1 = [47] then tl l' else fld (tl l) ++ tl l')), q', f']) := rfl
  have cc : ∀ (A : V) (x : T), clB A (mkT (cln (hasA A) x)) = true := fun A x => by
    unfold clB
    rw [oT_mkT, cln_cln, decide_eq_true rfl]
  by_cases c1 : s' ≠ .non
  · rw [if_pos c1] at jv
    exact ⟨s', u', h', p', _, q', f', jv, c1, rfl, .inl (cc _ _)⟩
  · rw [if_neg c1] at jv
    by_cases c2 : h' ≠ .non
    · rw [if_pos c2] at jv
      have hA : hasA h' = true := by unfold hasA; rw [decide_eq_false c2]; rfl
      refine ⟨s, u', h', p', _, q', f', jv, hs, rfl, .inl ?_⟩
      have := cc h' (tl l')
      rw [hA] at this
      exact this
    · rw [if_neg c2] at jv
      by_cases c3 : tl l' = []
      · rw [if_pos c3] at jv
        refine ⟨s, u, h, p, l, _, f', jv, hs, rfl, .inr ⟨Classical.not_not.mp c1, Classical.not_not.mp c2, ?_, qq, f, rfl, ?_⟩⟩
        · show V.str l' = V.str (Str.ofString "")
          rw [show l' = Str.ofString "" from TL.ext_tl (by rw [c3]; rfl)]
        · by_cases c4 : q' = .non
          · rw [if_pos c4]; exact .inl rfl
          · rw [if_neg c4]; exact .inr c4
      · rw [if_neg c3] at jv
        exact ⟨s, u, h, p, _, q', f', jv, hs, rfl, .inl (cc _ _)⟩
theorem Found.lead {vs ws : List V} {S U A P : V} {L : Str} {Q F : V} (h : Found vs ws S U A P L Q F) (hv : vs.length = 7) : leadL vs [S, U, A, P, .str L, Q, F] ≠ [] := by
  rcases h.c with hc | ⟨_, _, _, q, f, rfl, hq⟩
  · unfold leadL
    rw [show lead1 [S, U, A, P, .str L, Q, F] = (if clB A (.str L) = true ∧ S ≠ .non then [[S, U, A, P, .str L, Q, F]] else []) from rfl, if_pos ⟨hc, h.s⟩]
    simp
  · unfold leadL
    rw [if_pos (sameS_iff.mpr rfl), if_pos (sameA_iff.mpr ⟨rfl, rfl, rfl⟩)]
    rw [show lead3 [S, U, A, P, .str L, q, f] [S, U, A, P, .str L, Q, F] = (if V.str L = V.str L ∧ Q = q then [restV eV .non F] else []) from rfl, show lead4 [S, U, A, P, .str L, q, f] [S, U, A, P, .str L, Q, F] = (if V.str L = V.str L ∧ Q ≠ .non then [restV eV Q F] else []) from rfl]
    rcases hq with hq | hq
    · rw [if_pos ⟨rfl, hq⟩]; simp
    · rw [if_pos (show V.str L = V.str L ∧ Q ≠ .non from ⟨rfl, hq⟩)]; simp
theorem join_self {xs : List V} {S U A P : V} {L : Str} {Q F : V} (hx : xs.length = 7) (hs : S ≠ .non) (hc : clB A (.str L) = true) : joinV xs [S, U, A, P, .str L, Q, F] = [S, U, A, P, .str L, Q, F] := by
  match xs, hx with
  | [a0, a1, a2, a3, a4, a5, a6], _ =>
    show (if S ≠ .non then [S, U, A, P, mkT (cln (hasA A) (tl L)), Q, F] else _) = _
    rw [if_pos hs]
    have : cln (hasA A) (tl L) = tl L := of_decide_eq_true hc
    rw [this, ← mkT_tl]
theorem join_empty {S U A P : V} {L : Str} {Q F f : V} : joinV [S, U, A, P, .str L, Q, F] [.non, .non, .non, .non, eV, .non, f] = [S, U, A, P, .str L, Q, f] := by
  rfl
theorem UrlAt.kpB {K : PySem.W.Frag} {H H' : Hp} {a b : Addr} {m : Nat} {vs : List V} (h : UrlAt K H a vs) (hb : Bg m H b) (k : Kp b H H') : UrlAt K H' a vs := by
  obtain ⟨dx, Ta, h1, h2⟩ := h
  obtain ⟨x, y, z, h3, _⟩ := hb
  refine ⟨dx, Ta, k _ _ (fun e => ?_) h1, k _ _ (fun e => ?_) h2⟩
  · subst e; rw [h1] at h3; cases h3
  · subst e; rw [h2] at h3; cases h3
end Da
set_option Elab.async false
set_option linter.all false
set_option maxRecDepth 100000
set_option maxHeartbeats 4000000
namespace Da
open PySem PySem.Spec PyProof.Rows L2 Hd Xs Fx Mi Ms Md Mq ClX Xr
open TL (tl joinL)
/-- no authority, or one -/
def AuO (u h g : V) : Prop := (u = .non ∧ h = .non ∧ g = .non) ∨ Au3 u h g
theorem AuO.p1 {u h g : V} (a : AuO u h g) : isP 1 u = true := by
  rcases a with ⟨rfl, _, _⟩ | a
  · decide +kernel
  · exact a.p1
theorem AuO.p2 {u h g : V} (a : AuO u h g) : isP 2 h = true := by
  rcases a with ⟨_, rfl, _⟩ | a
  · decide +kernel
  · exact a.p2
theorem AuO.p3 {u h g : V} (a : AuO u h g) : isP 3 g = true := by
  rcases a with ⟨_, _, rfl⟩ | a
  · decide +kernel
  · exact a.p3
theorem AuO.l1 {u h g : V} (a : AuO u h g) : Lv 10 u := by
  rcases a with ⟨rfl, _, _⟩ | a
  · exact .inl rfl
  · exact a.l1
theorem AuO.l2 {u h g : V} (a : AuO u h g) : Lv 10 h := by
  rcases a with ⟨_, rfl, _⟩ | a
  · exact .inl rfl
  · exact a.l2
theorem AuO.l3 {u h g : V} (a : AuO u h g) : Lv 10 g := by
  rcases a with ⟨_, _, rfl⟩ | a
  · exact .inl rfl
  · exact a.l3
theorem AuO.n1 {u h g : V} (a : AuO u h g) (e : h = .non) : u = .non := by
  rcases a with ⟨rfl, _, _⟩ | a
  · rfl
  · exact absurd e a.n
theorem AuO.n2 {u h g : V} (a : AuO u h g) (e : h = .non) : g = .non := by
  rcases a with ⟨_, _, rfl⟩ | a
  · rfl
  · exact absurd e a.n
/-- the parts that were drawn are a URL's -/
theorem mkU {s u h g q f : V} {t : Str} (hs : isP 0 s = true) (a : AuO u h g) (ht : Nw PS (tl t)) (hq : isP 5 q = true) (hf : isP 6 f = true) (hp : poss (isNo s) (isNo h) (tl t) = true) (ls : Lv 10 s) (lq : Lv 10 q) (lf : Lv 10 f) (lt : t.length ≤ 300) : OkU 300 [s, u, h, g, .str t, q, f] := by
  refine OkU.of ⟨hs, a.p1, a.p2, a.p3, isP4.mpr ht, hq, hf, a.n1, a.n2, hp⟩ fun v hv => ?_
  simp only [List.mem_cons, List.not_mem_nil, or_false] at hv
  rcases hv with rfl | rfl | rfl | rfl | rfl | rfl | rfl
  · exact ls.mono (by decide)
  · exact a.l1.mono (by decide)
  · exact a.l2.mono (by decide)
  · exact a.l3.mono (by decide)
  · exact .inr ⟨_, rfl, lt⟩
  · exact lq.mono (by decide)
  · exact lf.mono (by decide)
section
variable {P : Program} {w : World} {K : PySem.W.Frag} {mg : Str → Option Value} {base : Heap}
theorem ok__law_base (c : Ct w K mg) : OkF P w K mg base CX0 4 (He.ga K "_law_base") ["bag"] (spDBase) := by
  obtain ⟨fd, F⟩ := F__law_base c
  refine ⟨fd, F.ok sc__law_base (fun vs H Q E h => ?_) (fun cdv A outer s H vs Q E hr h => ⟨_, PSs.nox ((pss_cons (ps_asg (pe_tup (pa_cons (hix (pe_lst (pa_cons pe_str (pa_cons pe_str (pa_cons pe_str pa_nil)))) (pf (ok__law_take c) (hr.mono (by decide)) (g__law_take c) (k__law_take c) pass0 (pa_cons (cv 0) (pa_cons pe_int pa_nil)))) (pa_cons pe_non (pa_cons pe_non (pa_cons pe_non pa_nil))))) (pg_tup (n := 4) rfl (pgs_cons (pg_name (i := 1) (sc__law_base).nd rfl (Or.inl rfl)) (pgs_cons (pg_name (i := 2) (sc__law_base).nd rfl (Or.inl rfl)) (pgs_cons (pg_name (i := 3) (sc__law_base).nd rfl (Or.inl rfl)) (pgs_cons (pg_name (i := 4) (sc__law_base).nd rfl (Or.inl rfl)) pgs_nil)))))) (pss_cons (ps_if (ctc co_gt (pf (ok__law_take c) (hr.mono (by decide)) (g__law_take c) (k__law_take c) pass0 (pa_cons (cv 0) (pa_cons pe_int pa_nil))) pe_int (by rfl)) (pss_one (ps_asg (pf (ok__law_authority c) (hr.mono (by decide)) (g__law_authority c) (k__law_authority c) pass0 (pa_cons (cv 0) pa_nil)) (pg_tup (n := 3) rfl (pgs_cons (pg_name (i := 2) (sc__law_base).nd rfl (Or.inl rfl)) (pgs_cons (pg_name (i := 3) (sc__law_base).nd rfl (Or.inl rfl)) (pgs_cons (pg_name (i := 4) (sc__law_base).nd rfl (Or.inl rfl)) pgs_nil)))))) pss_nil) (pss_cons (ps_set (i := 5) (sc__law_base).nd rfl (Or.inl rfl) (pf (ok__law_rooted c) (hr.mono (by decide)) (g__law_rooted c) (k__law_rooted c) pass0 (pa_cons (cv 0) (pa_cons pe_int (pa_cons (pe_cmpR co_notN (cv 3) pe_non (by rfl)) pa_nil))))) (pss_cons (ps_if (PW.pt (pw_and (ctc co_notN (cv 3) pe_non (by rfl)) (pw_and1 (ctc (ho_eq (hu64 hr)) (pf (ok__law_take c) (hr.mono (by decide)) (g__law_take c) (k__law_take c) pass0 (pa_cons (cv 0) (pa_cons pe_int pa_nil))) pe_int (by rfl))))) (pss_one (ps_set (i := 5) (sc__law_base).nd rfl (Or.inl rfl) pe_str)) pss_nil) (pss_one (ps_ret (pe_tup (pa_cons (cv 1) (pa_cons (cv 2) (pa_cons (cv 3) (pa_cons (cv 4) (pa_cons (cv 5) (pa_cons (pf (ok__law_tail c) (hr.mono (by decide)) (g__law_tail c) (k__law_tail c) pass0 (pa_cons (cv 0) pa_nil)) (pa_cons (hix (pe_lst (pa_cons pe_non (pa_cons pe_str pa_nil))) (pf (ok__law_take c) (hr.mono (by decide)) (g__law_take c) (k__law_take c) pass0 (pa_cons (cv 0) (pa_cons pe_int pa_nil)))) pa_nil))))))))))))))), ?_⟩), F.bindsN fun _ _ _ _ _ _ us hl => match us, hl with | [_], _ => rfl⟩
  · unfold spDBase at h
    split at h
    · rfl
    · exact h.elim
  · unfold spDBase at h
    split at h
    case h_2 => exact h.elim
    rename_i a
    obtain ⟨m, hb, hm, q⟩ := h
    have sl := sl
    refine seqStep ?_
    (try simp only [tNext, tFor_eq, cBl, tOp, tC, cI, cIc, cAdd, cVar, hEq, hNe, hIn, hNotIn, hLen, hSl, tM1, tBM, cT1, cT1f, cFind3, cSplit, cPart, rNewStrs, hIsS, hTru, tAsg, gName, gSub, tRet, tRetN, tCons, tNil, tTup, tLst, tCB, tNot, tAnd, tNotV, tAndV, tOrV, tOr, V.bl.injEq, V.int.injEq, V.str.injEq, exists_eq_left', exists_eq_left, exists_eq', true_and, and_true, cIsN, L2.start, gTup, gCons, gNil, nox_K, cx_K, tCallF, tSl, tPart, tNoPart, iEnum, RZ.iZipA, iRng1, iRng2, cAbs, List.map_cons, List.map_nil, List.length_cons, List.length_nil, List.replicate, List.cons_append, List.nil_append, List.getElem?_cons_zero, List.getElem?_cons_succ, List.getElem?_nil, List.set_cons_zero, List.set_cons_succ, Nat.reduceAdd, Nat.reduceSub, Nat.zero_add, if_true, if_false, reduceIte, reduceCtorEq, Bool.false_eq_true, decide_eq_true_eq, tDrop, cMin2, cJoin, iList, tDNewK, tLc_eq, iStr, wipe])
    refine ⟨by decide, fun p0 hp0 => ?_⟩
    refine take_ok (hb.fresh hp0) (by omega) (by decide) (by decide) fun d H1 d0 d1 hb1 hk1 => ?_
    refine hIx_all (hk1 _ _ (hb.ne hp0) upd_self) d0 d1 fun wd hwd => ?_
    have hk1 : Kp a H H1 := (Kp.refl.fresh hp0).trans hk1
    have hw : isP 0 wd = true ∧ wd ≠ .non ∧ Lv 10 wd ∧ wd ≠ V.str (Str.ofString "zz") := by
      simp only [List.mem_cons, List.not_mem_nil, or_false] at hwd
      rcases hwd with rfl | rfl | rfl
      all_goals exact ⟨by decide +kernel, V.noConfusion, .inr ⟨_, rfl, by decide⟩, by decide +kernel⟩
    refine ⟨by decide, fun p1 hp1 => ?_⟩
    refine ⟨_, _, rfl, .inl (Rd.of upd_self), rfl, _, _, rfl, _, _, rfl, _, _, rfl, _, _, rfl, rfl, ?_⟩
    have hb2 := hb1.fresh (o := .tup [wd, .non, .non, .non]) hp1
    have hk2 := hk1.fresh (o := .tup [wd, .non, .non, .non]) hp1
    generalize upd H1 p1 (.tup [wd, .non, .non, .non]) = H2 at *
    refine seqCps (fun σ H' => ∃ u h g, σ = [some (.ref a), some wd, some u, some h, some g, none] ∧ AuO u h g ∧ Bg (m + 3) H' a ∧ Kp a H H') (fun Nx hN => ?_) ?_
    · unfold tIfS
      (try simp only [tNext, tFor_eq, cBl, tOp, tC, cI, cIc, cAdd, cVar, hEq, hNe, hIn, hNotIn, hLen, hSl, tM1, tBM, cT1, cT1f, cFind3, cSplit, cPart, rNewStrs, hIsS, hTru, tAsg, gName, gSub, tRet, tRetN, tCons, tNil, tTup, tLst, tCB, tNot, tAnd, tNotV, tAndV, tOrV, tOr, V.bl.injEq, V.int.injEq, V.str.injEq, exists_eq_left', exists_eq_left, exists_eq', true_and, and_true, cIsN, L2.start, gTup, gCons, gNil, nox_K, cx_K, tCallF, tSl, tPart, tNoPart, iEnum, RZ.iZipA, iRng1, iRng2, cAbs, List.map_cons, List.map_nil, List.length_cons, List.length_nil, List.replicate, List.cons_append, List.nil_append, List.getElem?_cons_zero, List.getElem?_cons_succ, List.getElem?_nil, List.set_cons_zero, List.set_cons_succ, Nat.reduceAdd, Nat.reduceSub, Nat.zero_add, if_true, if_false, reduceIte, reduceCtorEq, Bool.false_eq_true, decide_eq_true_eq, tDrop, cMin2, cJoin, iList, tDNewK, tLc_eq, iStr, wipe])
      refine take_ok hb2 (by omega) (by decide) (by decide) fun d2 H3 d20 d21 hb3 hk3 => ?_
      try dsimp only
      split
      · try dsimp only
        refine auth_ok hb3 (by omega) fun p u h g H4 hp ha hb4 hk4 => ?_
        refine ⟨_, _, rfl, .inl (Rd.of hp), rfl, _, _, rfl, _, _, rfl, _, _, rfl, rfl, ?_⟩
        exact hN _ _ ⟨u, h, g, rfl, .inr ha, hb4, (hk2.trans hk3).trans hk4⟩
      · exact hN _ _ ⟨_, _, _, rfl, .inl ⟨rfl, rfl, rfl⟩, hb3.mono (by omega), hk2.trans hk3⟩
    · rintro σ H3 ⟨u, h, g, rfl, ha, hb3, hk3⟩
      refine seqStep ?_
      (try simp only [tNext, tFor_eq, cBl, tOp, tC, cI, cIc, cAdd, cVar, hEq, hNe, hIn, hNotIn, hLen, hSl, tM1, tBM, cT1, cT1f, cFind3, cSplit, cPart, rNewStrs, hIsS, hTru, tAsg, gName, gSub, tRet, tRetN, tCons, tNil, tTup, tLst, tCB, tNot, tAnd, tNotV, tAndV, tOrV, tOr, V.bl.injEq, V.int.injEq, V.str.injEq, exists_eq_left', exists_eq_left, exists_eq', true_and, and_true, cIsN, L2.start, gTup, gCons, gNil, nox_K, cx_K, tCallF, tSl, tPart, tNoPart, iEnum, RZ.iZipA, iRng1, iRng2, cAbs, List.map_cons, List.map_nil, List.length_cons, List.length_nil, List.replicate, List.cons_append, List.nil_append, List.getElem?_cons_zero, List.getElem?_cons_succ, List.getElem?_nil, List.set_cons_zero, List.set_cons_succ, Nat.reduceAdd, Nat.reduceSub, Nat.zero_add, if_true, if_false, reduceIte, reduceCtorEq, Bool.false_eq_true, decide_eq_true_eq, tDrop, cMin2, cJoin, iList, tDNewK, tLc_eq, iStr, wipe])
      refine rooted_ok hb3 (by omega) (by decide) (by decide) fun t H4 ht hg hr4 hb4 hk4 => ?_
      have hk4 := hk3.trans hk4
      refine seqCps (fun σ H' => ∃ t : Str, σ = [some (.ref a), some wd, some u, some h, some g, some (.str t)] ∧ t.length ≤ 200 ∧ Nw PS (tl t) ∧ (h = .non → (tl t).take 1 = [47] ∧ (tl t).take 2 ≠ [47, 47]) ∧ (tl t = [] ∨ (tl t).take 1 = [47]) ∧ Bg (m + 20) H' a ∧ Kp a H H') (fun Nx hN => ?_) ?_
      · try unfold tIfS
        (try simp only [tNext, tFor_eq, cBl, tOp, tC, cI, cIc, cAdd, cVar, hEq, hNe, hIn, hNotIn, hLen, hSl, tM1, tBM, cT1, cT1f, cFind3, cSplit, cPart, rNewStrs, hIsS, hTru, tAsg, gName, gSub, tRet, tRetN, tCons, tNil, tTup, tLst, tCB, tNot, tAnd, tNotV, tAndV, tOrV, tOr, V.bl.injEq, V.int.injEq, V.str.injEq, exists_eq_left', exists_eq_left, exists_eq', true_and, and_true, cIsN, L2.start, gTup, gCons, gNil, nox_K, cx_K, tCallF, tSl, tPart, tNoPart, iEnum, RZ.iZipA, iRng1, iRng2, cAbs, List.map_cons, List.map_nil, List.length_cons, List.length_nil, List.replicate, List.cons_append, List.nil_append, List.getElem?_cons_zero, List.getElem?_cons_succ, List.getElem?_nil, List.set_cons_zero, List.set_cons_succ, Nat.reduceAdd, Nat.reduceSub, Nat.zero_add, if_true, if_false, reduceIte, reduceCtorEq, Bool.false_eq_true, decide_eq_true_eq, tDrop, cMin2, cJoin, iList, tDNewK, tLc_eq, iStr, wipe])
        have fin : ∀ H', Bg (m + 20) H' a → Kp a H H' → Nx [some (.ref a), some wd, some u, some h, some g, some (.str t)] H' := fun H' hb' hk' =>
          hN _ _ ⟨t, rfl, ht, hr4.2.1, fun e => ⟨hr4.1, hr4.2.2 (by rw [decide_eq_true e]; rfl)⟩, .inr hr4.1, hb', hk'⟩
        by_cases hh : h = .non
        · rw [decide_eq_true hh]
          simp only [Bool.not_true, Bool.false_eq_true, if_false]
          exact fin _ (hb4.mono (by omega)) hk4
        · rw [decide_eq_false hh]
          simp only [Bool.not_false, if_true]
          refine take_ok hb4 (by omega) (by decide) (by decide) fun d5 H5 d50 d51 hb5 hk5 => ?_
          try dsimp only
          split
          · exact hN _ _ ⟨_, rfl, by decide, Nw.nil, fun e => absurd e hh, .inl rfl, hb5.mono (by omega), hk4.trans hk5⟩
          · exact fin _ (hb5.mono (by omega)) (hk4.trans hk5)
      · rintro σ H5 ⟨t, rfl, ht, hn, h0, h1, hb5, hk5⟩
        (try simp only [tSeq, tNext, tIfS, tFor_eq, cBl, tOp, tC, cI, cIc, cAdd, cVar, hEq, hNe, hIn, hNotIn, hLen, hSl, tM1, tBM, cT1, cT1f, cFind3, cSplit, cPart, rNewStrs, hIsS, hTru, tAsg, gName, gSub, tRet, tRetN, tCons, tNil, tTup, tLst, tCB, tNot, tAnd, tNotV, tAndV, tOrV, tOr, V.bl.injEq, V.int.injEq, V.str.injEq, exists_eq_left', exists_eq_left, exists_eq', true_and, and_true, cIsN, L2.start, gTup, gCons, gNil, nox_K, cx_K, tCallF, tSl, tPart, tNoPart, iEnum, RZ.iZipA, iRng1, iRng2, cAbs, List.map_cons, List.map_nil, List.length_cons, List.length_nil, List.replicate, List.cons_append, List.nil_append, List.getElem?_cons_zero, List.getElem?_cons_succ, List.getElem?_nil, List.set_cons_zero, List.set_cons_succ, Nat.reduceAdd, Nat.reduceSub, Nat.zero_add, if_true, if_false, reduceIte, reduceCtorEq, Bool.false_eq_true, decide_eq_true_eq, tDrop, cMin2, cJoin, iList, tDNewK, tLc_eq, iStr, wipe])
        refine tail_ok hb5 (by omega) fun v H6 hv lv hb6 hk6 => ?_
        refine ⟨by decide, fun p2 hp2 => ?_⟩
        refine take_ok (hb6.fresh hp2) (by omega) (by decide) (by decide) fun d7 H7 d70 d71 hb7 hk7 => ?_
        refine hIx_all (hk7 _ _ (hb6.ne hp2) upd_self) d70 d71 fun fr hfr => ?_
        have hk7 : Kp a H H7 := ((hk5.trans hk6).fresh hp2).trans hk7
        have hf : isP 6 fr = true ∧ Lv 10 fr := by
          simp only [List.mem_cons, List.not_mem_nil, or_false] at hfr
          rcases hfr with rfl | rfl
          · exact ⟨by decide +kernel, .inl rfl⟩
          · exact ⟨by decide +kernel, .inr ⟨_, rfl, by decide⟩⟩
        refine ⟨by decide, fun p3 hp3 => ?_⟩
        refine q _ _ _ upd_self (hk7.none (hb7.ne hp3) hp3) (hb7.ne hp3) ⟨mkU hw.1 ha hn hv hf.1 ?_ hw.2.2.1 lv hf.2 (by omega), nz hw.2.2.2⟩ ?_ ((hb7.fresh hp3).mono (by omega)) (hk7.fresh hp3)
        · by_cases hh : h = .non
          · obtain ⟨a1, a2⟩ := h0 hh
            exact poss_slash a1 fun _ => a2
          · rw [show isNo h = false from decide_eq_false hh]
            exact poss_host.mpr h1
        · exact isB_iff.mpr ⟨hw.2.1, fun e => (h0 e).1⟩
end
end Da
set_option Elab.async false
set_option linter.all false
set_option maxRecDepth 100000
set_option maxHeartbeats 4000000
namespace Da
open PySem PySem.Spec PyProof.Rows L2 Hd Xs Fx Mi Ms Md Mq ClX Xr
open TL (tl joinL)
def spDRef : Sp := fun vs H Q _ => match vs with
  | [.ref a] => ∃ m, Bg m H a ∧ m ≤ 80000 ∧ ∀ p xs H', H' p = some (.tup xs) → H p = none → p ≠ a → OkU 300 xs ∧ NZ xs → Bg (m + 30) H' a → Kp a H H' → Q (.ref p) H'
  | _ => False
theorem dref_ok {m : Nat} {H : Hp} {a : Addr} {Q : VK} {E : XK} (hb : Bg m H a) (hm : m ≤ 80000) (q : ∀ p xs H', H' p = some (.tup xs) → H p = none → p ≠ a → OkU 300 xs ∧ NZ xs → Bg (m + 30) H' a → Kp a H H' → Q (.ref p) H') : spDRef [.ref a] H Q E := ⟨m, hb, hm, q⟩
theorem cut_bef (c : Nat) : ∀ l : T, ∃ ps, cut c l = bef c l :: ps
  | [] => ⟨[], rfl⟩
  | d :: r => by
    by_cases h : d = c
    · subst h
      exact ⟨cut d r, by rw [cut_hit, bef_hit]⟩
    · obtain ⟨ps, e⟩ := cut_bef c r
      exact ⟨ps, by rw [cut_miss h, e, bef_miss h]⟩
theorem split_first (t : Str) : ∃ z zs, Txt.split t (Str.ofString "/") = z :: zs ∧ tl z = bef 47 (tl t) := by
  have e := split_cut t 47 (by decide)
  obtain ⟨ps, e2⟩ := cut_bef 47 (tl t)
  rw [e2] at e
  change (Txt.split t (Str.ofString "/")).map tl = _ at e
  cases z : Txt.split t (Str.ofString "/") with
  | nil => rw [z] at e; cases e
  | cons y ys => rw [z] at e; exact ⟨y, ys, rfl, (List.cons.inj e).1⟩
theorem poss_no {sN : Bool} {l : T} (h2 : l.take 2 ≠ [47, 47]) (h : sN = true → (bef 47 l).contains 58 = false) : poss sN true l = true := by
  unfold poss
  rw [if_neg (by decide), if_neg h2]
  cases sN with
  | false => rfl
  | true => rw [h rfl]; rfl
theorem AuO.no : AuO .non .non .non := .inl ⟨rfl, rfl, rfl⟩
section
variable {P : Program} {w : World} {K : PySem.W.Frag} {mg : Str → Option Value} {base : Heap}
theorem ok__law_reference (c : Ct w K mg) : OkF P w K mg base CX0 4 (He.ga K "_law_reference") ["bag"] (spDRef) := by
  obtain ⟨fd, F⟩ := F__law_reference c
  refine ⟨fd, F.ok sc__law_reference (fun vs H Q E h => ?_) (fun cdv A outer s H vs Q E hr h => ⟨_, PSs.nox ((pss_cons (ps_par3 (i := 1) (j := 2) (l := 3) (by rfl) (sc__law_reference).nd rfl rfl rfl (by decide) (by decide) (by decide) rfl rfl rfl (pa_cons (pf (ok__law_take c) (hr.mono (by decide)) (g__law_take c) (k__law_take c) pass0 (pa_cons (cv 0) (pa_cons pe_int pa_nil))) (pa_cons (pf (ok__law_tail c) (hr.mono (by decide)) (g__law_tail c) (k__law_tail c) pass0 (pa_cons (cv 0) pa_nil)) (pa_cons (hix (pe_lst (pa_cons pe_non (pa_cons pe_non (pa_cons pe_str (pa_cons pe_str pa_nil))))) (pf (ok__law_take c) (hr.mono (by decide)) (g__law_take c) (k__law_take c) pass0 (pa_cons (cv 0) (pa_cons pe_int pa_nil)))) pa_nil))) (by rfl)) (pss_cons (ps_if (ctc (ho_eq (hu64 hr)) (cv 1) pe_int (by rfl)) (pss_cons (ps_set (i := 4) (sc__law_reference).nd rfl (Or.inl rfl) (hix (pe_lst (pa_cons pe_str (pa_cons pe_str (pa_cons pe_str (pa_cons pe_str (pa_cons (pe_op co_add (pe_op co_add pe_str (pf (ok__law_segment c) (hr.mono (by decide)) (g__law_segment c) (k__law_segment c) pass0 (pa_cons (cv 0) pa_nil))) pe_str) (pa_cons pe_str pa_nil))))))) (pf (ok__law_take c) (hr.mono (by decide)) (g__law_take c) (k__law_take c) pass0 (pa_cons (cv 0) (pa_cons pe_int pa_nil))))) (pss_cons (ps_set (i := 4) (sc__law_reference).nd rfl (Or.inl rfl) (pe_ifExp (ctc (ho_eq (hu64 hr)) (pe_slice hs_any (cv 4) po_none (po_some pe_int)) pe_str (by rfl)) (pe_op co_add pe_str (cv 4)) (cv 4))) (pss_one (ps_ret (pe_tup (pa_cons (hix (pe_lst (pa_cons pe_str (pa_cons pe_str pa_nil))) (pf (ok__law_take c) (hr.mono (by decide)) (g__law_take c) (k__law_take c) pass0 (pa_cons (cv 0) (pa_cons pe_int pa_nil)))) (pa_cons pe_non (pa_cons pe_non (pa_cons pe_non (pa_cons (cv 4) (pa_cons (cv 2) (pa_cons (cv 3) pa_nil)))))))))))) pss_nil) (pss_cons (ps_if (ctc (ho_eq (hu64 hr)) (cv 1) pe_int (by rfl)) (pss_cons (ps_set (i := 4) (sc__law_reference).nd rfl (Or.inl rfl) (hix (pe_lst (pa_cons pe_str (pa_cons (pf (ok__law_rooted c) (hr.mono (by decide)) (g__law_rooted c) (k__law_rooted c) pass0 (pa_cons (cv 0) (pa_cons pe_int (pa_cons pe_bl pa_nil)))) pa_nil))) (pf (ok__law_take c) (hr.mono (by decide)) (g__law_take c) (k__law_take c) pass0 (pa_cons (cv 0) (pa_cons pe_int pa_nil))))) (pss_one (ps_ret (pe_op co_add (pe_op co_add (pe_tup (pa_cons (hix (pe_lst (pa_cons pe_str (pa_cons pe_non (pa_cons pe_non pa_nil)))) (pf (ok__law_take c) (hr.mono (by decide)) (g__law_take c) (k__law_take c) pass0 (pa_cons (cv 0) (pa_cons pe_int pa_nil)))) pa_nil)) (pf (ok__law_authority c) (hr.mono (by decide)) (g__law_authority c) (k__law_authority c) pass0 (pa_cons (cv 0) pa_nil))) (pe_tup (pa_cons (cv 4) (pa_cons (cv 2) (pa_cons (cv 3) pa_nil)))))))) pss_nil) (pss_cons (ps_if (ctc (ho_eq (hu64 hr)) (cv 1) pe_int (by rfl)) (pss_one (ps_ret (pe_tup (pa_cons pe_non (pa_cons pe_non (pa_cons pe_non (pa_cons pe_non (pa_cons (pf (ok__law_rooted c) (hr.mono (by decide)) (g__law_rooted c) (k__law_rooted c) pass0 (pa_cons (cv 0) (pa_cons pe_int (pa_cons pe_bl pa_nil)))) (pa_cons (cv 2) (pa_cons (cv 3) pa_nil)))))))))) pss_nil) (pss_cons (ps_if (ctc (ho_eq (hu64 hr)) (cv 1) pe_int (by rfl)) (pss_one (ps_ret (pe_tup (pa_cons pe_non (pa_cons pe_non (pa_cons pe_non (pa_cons pe_non (pa_cons pe_str (pa_cons (cv 2) (pa_cons (cv 3) pa_nil)))))))))) pss_nil) (pss_cons (ps_set (i := 4) (sc__law_reference).nd rfl (Or.inl rfl) (pe_m1 PySem.F.slot_str_join PySem.F.type_str_join hm_join pe_str (pe_lc rfl (sc__law_reference).nd (pi_range1 rfl (b_range c) (pa_cons (pe_op co_add pe_int (pf (ok__law_take c) (hr.mono (by decide)) (g__law_take c) (k__law_take c) pass0 (pa_cons (cv 0) (pa_cons pe_int pa_nil)))) pa_nil)) (blkOk_by (own := [("k", 5)]) (by rfl)) (fun _ _ _ _ _ => pg_name (i := 5) (sc__law_reference).nd rfl (Or.inl rfl)) (fun _ _ _ _ _ => pts_nil) (fun _ _ _ _ _ => (pf (ok__law_segment c) (hr.mono (by decide)) (g__law_segment c) (k__law_segment c) pass0 (pa_cons (cv 0) pa_nil)))))) (pss_cons (ps_set (i := 6) (sc__law_reference).nd rfl (Or.inl rfl) (hix (pe_m1 PySem.F.slot_str_split PySem.F.type_str_split cm_split (cv 4) pe_str) pe_int)) (pss_one (ps_ret (pe_tup (pa_cons pe_non (pa_cons pe_non (pa_cons pe_non (pa_cons pe_non (pa_cons (pe_ifExp (PW.pt (pw_or (ctc (ho_eq (hu64 hr)) (cv 6) pe_str (by rfl)) (pw_or1 (ctc ho_in pe_str (cv 6) (by rfl))))) (pe_op co_add pe_str (cv 4)) (cv 4)) (pa_cons (cv 2) (pa_cons (cv 3) pa_nil)))))))))))))))))), ?_⟩), F.bindsN fun _ _ _ _ _ _ us hl => match us, hl with | [_], _ => rfl⟩
  · unfold spDRef at h
    split at h
    · rfl
    · exact h.elim
  · unfold spDRef at h
    split at h
    case h_2 => exact h.elim
    rename_i a
    obtain ⟨m, hb, hm, q⟩ := h
    have sl := sl
    have e0 : tl (Str.ofString "") = [] := rfl
    have iN : isP 0 V.non = true := by decide +kernel
    have lN : Lv 10 V.non ∧ V.non ≠ V.str (Str.ofString "zz") := ⟨.inl rfl, V.noConfusion⟩
    refine seqStep ?_
    try unfold tPar3
    (try simp only [tNext, tFor_eq, cBl, tOp, tC, cI, cIc, cAdd, cVar, hEq, hNe, hIn, hNotIn, hLen, hSl, tM1, tBM, cT1, cT1f, cFind3, cSplit, cPart, rNewStrs, hIsS, hTru, tAsg, gName, gSub, tRet, tRetN, tCons, tNil, tTup, tLst, tCB, tNot, tAnd, tNotV, tAndV, tOrV, tOr, V.bl.injEq, V.int.injEq, V.str.injEq, exists_eq_left', exists_eq_left, exists_eq', true_and, and_true, cIsN, L2.start, gTup, gCons, gNil, nox_K, cx_K, tCallF, tSl, tPart, tNoPart, iEnum, RZ.iZipA, iRng1, iRng2, cAbs, List.map_cons, List.map_nil, List.length_cons, List.length_nil, List.replicate, List.cons_append, List.nil_append, List.getElem?_cons_zero, List.getElem?_cons_succ, List.getElem?_nil, List.set_cons_zero, List.set_cons_succ, Nat.reduceAdd, Nat.reduceSub, Nat.zero_add, if_true, if_false, reduceIte, reduceCtorEq, Bool.false_eq_true, decide_eq_true_eq, tDrop, cMin2, cJoin, iList, tDNewK, tLc_eq, iStr, wipe])
    refine take_ok hb (by omega) (by decide) (by decide) fun kd H1 k0 k1 hb1 hk1 => ?_
    refine tail_ok hb1 (by omega) fun qt H2 hqt lqt hb2 hk2 => ?_
    have hk2 := hk1.trans hk2
    refine ⟨by decide, fun p2 hp2 => ?_⟩
    refine take_ok (hb2.fresh hp2) (by omega) (by decide) (by decide) fun d3 H3 d30 d31 hb3 hk3 => ?_
    refine hIx_all (hk3 _ _ (hb2.ne hp2) upd_self) d30 d31 fun mk hmk => ?_
    have hk3 : Kp a H H3 := (hk2.fresh hp2).trans hk3
    have hmk : isP 6 mk = true ∧ Lv 10 mk := by
      simp only [List.mem_cons, List.not_mem_nil, or_false] at hmk
      rcases hmk with rfl | rfl | rfl | rfl
      · exact ⟨by decide +kernel, .inl rfl⟩
      · exact ⟨by decide +kernel, .inl rfl⟩
      · exact ⟨by decide +kernel, .inr ⟨_, rfl, by decide⟩⟩
      · exact ⟨by decide +kernel, .inr ⟨_, rfl, by decide⟩⟩
    refine ⟨_, _, _, rfl, ?_⟩
    -- the end: a tuple of seven
    have fin : ∀ (H' : Hp) (s u h g : V) (t : Str) (k : Nat), Bg k H' a → k ≤ m + 30 → Kp a H H' → isP 0 s = true → Lv 10 s ∧ s ≠ V.str (Str.ofString "zz") → AuO u h g → Nw PS (tl t) → t.length ≤ 300 → poss (isNo s) (isNo h) (tl t) = true → ∀ p, H' p = none → Q (.ref p) (upd H' p (.tup [s, u, h, g, .str t, qt, mk])) :=
      fun H' s u h g t k hb' hkm hk' hs ls ha hn hl hp p hp0 => q _ _ _ upd_self (hk'.none (hb'.ne hp0) hp0) (hb'.ne hp0) ⟨mkU hs ha hn hqt hmk.1 hp ls.1 lqt hmk.2 hl, nz ls.2⟩ ((hb'.fresh hp0).mono hkm) (hk'.fresh hp0)
    refine seqStep ?_
    try unfold tIfS
    (try simp only [tNext, tFor_eq, cBl, tOp, tC, cI, cIc, cAdd, cVar, hEq, hNe, hIn, hNotIn, hLen, hSl, tM1, tBM, cT1, cT1f, cFind3, cSplit, cPart, rNewStrs, hIsS, hTru, tAsg, gName, gSub, tRet, tRetN, tCons, tNil, tTup, tLst, tCB, tNot, tAnd, tNotV, tAndV, tOrV, tOr, V.bl.injEq, V.int.injEq, V.str.injEq, exists_eq_left', exists_eq_left, exists_eq', true_and, and_true, cIsN, L2.start, gTup, gCons, gNil, nox_K, cx_K, tCallF, tSl, tPart, tNoPart, iEnum, RZ.iZipA, iRng1, iRng2, cAbs, List.map_cons, List.map_nil, List.length_cons, List.length_nil, List.replicate, List.cons_append, List.nil_append, List.getElem?_cons_zero, List.getElem?_cons_succ, List.getElem?_nil, List.set_cons_zero, List.set_cons_succ, Nat.reduceAdd, Nat.reduceSub, Nat.zero_add, if_true, if_false, reduceIte, reduceCtorEq, Bool.false_eq_true, decide_eq_true_eq, tDrop, cMin2, cJoin, iList, tDNewK, tLc_eq, iStr, wipe])
    by_cases c0 : kd = 0
    · rw [if_pos c0]
      refine seqStep ?_
      (try simp only [tNext, tFor_eq, cBl, tOp, tC, cI, cIc, cAdd, cVar, hEq, hNe, hIn, hNotIn, hLen, hSl, tM1, tBM, cT1, cT1f, cFind3, cSplit, cPart, rNewStrs, hIsS, hTru, tAsg, gName, gSub, tRet, tRetN, tCons, tNil, tTup, tLst, tCB, tNot, tAnd, tNotV, tAndV, tOrV, tOr, V.bl.injEq, V.int.injEq, V.str.injEq, exists_eq_left', exists_eq_left, exists_eq', true_and, and_true, cIsN, L2.start, gTup, gCons, gNil, nox_K, cx_K, tCallF, tSl, tPart, tNoPart, iEnum, RZ.iZipA, iRng1, iRng2, cAbs, List.map_cons, List.map_nil, List.length_cons, List.length_nil, List.replicate, List.cons_append, List.nil_append, List.getElem?_cons_zero, List.getElem?_cons_succ, List.getElem?_nil, List.set_cons_zero, List.set_cons_succ, Nat.reduceAdd, Nat.reduceSub, Nat.zero_add, if_true, if_false, reduceIte, reduceCtorEq, Bool.false_eq_true, decide_eq_true_eq, tDrop, cMin2, cJoin, iList, tDNewK, tLc_eq, iStr, wipe])
      refine seg_ok hb3 (by omega) fun t H4 ht hst hb4 hk4 => ?_
      have hk4 := hk3.trans hk4
      have e1 : (Str.ofString "/").length = 1 := rfl
      have e2 : (Str.ofString "/..").length = 3 := rfl
      have eD : (Str.ofString "/.").length = 2 := rfl
      refine ⟨by omega, by rw [la]; omega, by decide, fun p5 hp5 => ?_⟩
      refine take_ok (hb4.fresh hp5) (by omega) (by decide) (by decide) fun d6 H6 d60 d61 hb6 hk6 => ?_
      refine hIx_all (hk6 _ _ (hb4.ne hp5) upd_self) d60 d61 fun v hv => ?_
      have hk6 : Kp a H H6 := (hk4.fresh hp5).trans hk6
      obtain ⟨t2, rfl, ht2, hn2⟩ : ∃ t2 : Str, v = .str t2 ∧ t2.length ≤ 20 ∧ Nw PS (tl t2) := by
        simp only [List.mem_cons, List.not_mem_nil, or_false] at hv
        rcases hv with rfl | rfl | rfl | rfl | rfl | rfl
        · exact ⟨_, rfl, by decide, Nw.nil⟩
        · exact ⟨_, rfl, by decide, Nw.lit (by decide +kernel)⟩
        · exact ⟨_, rfl, by decide, Nw.lit (by decide +kernel)⟩
        · exact ⟨_, rfl, by decide, Nw.lit (by decide +kernel)⟩
        · refine ⟨_, rfl, by rw [la, la]; omega, ?_⟩
          rw [TL.tl_append, TL.tl_append]
          exact ((Nw.lit (by decide +kernel)).app hst.2).app (Nw.lit (by decide +kernel))
        · exact ⟨_, rfl, by decide, Nw.lit (by decide +kernel)⟩
      (try simp only [tNext, tFor_eq, cBl, tOp, tC, cI, cIc, cAdd, cVar, hEq, hNe, hIn, hNotIn, hLen, hSl, tM1, tBM, cT1, cT1f, cFind3, cSplit, cPart, rNewStrs, hIsS, hTru, tAsg, gName, gSub, tRet, tRetN, tCons, tNil, tTup, tLst, tCB, tNot, tAnd, tNotV, tAndV, tOrV, tOr, V.bl.injEq, V.int.injEq, V.str.injEq, exists_eq_left', exists_eq_left, exists_eq', true_and, and_true, cIsN, L2.start, gTup, gCons, gNil, nox_K, cx_K, tCallF, tSl, tPart, tNoPart, iEnum, RZ.iZipA, iRng1, iRng2, cAbs, List.map_cons, List.map_nil, List.length_cons, List.length_nil, List.replicate, List.cons_append, List.nil_append, List.getElem?_cons_zero, List.getElem?_cons_succ, List.getElem?_nil, List.set_cons_zero, List.set_cons_succ, Nat.reduceAdd, Nat.reduceSub, Nat.zero_add, if_true, if_false, reduceIte, reduceCtorEq, Bool.false_eq_true, decide_eq_true_eq, tDrop, cMin2, cJoin, iList, tDNewK, tLc_eq, iStr, wipe])
      refine seqCps (fun σ H' => ∃ t3 : Str, H' = H6 ∧ (∃ u6 u7, σ = [some (.ref a), some (.int kd), some qt, some mk, some (.str t3), u6, u7]) ∧ t3.length ≤ 30 ∧ Nw PS (tl t3) ∧ (tl t3).take 2 ≠ [47, 47]) (fun Nx hN => ?_) ?_
      · try unfold tIf
        (try simp only [tNext, tFor_eq, cBl, tOp, tC, cI, cIc, cAdd, cVar, hEq, hNe, hIn, hNotIn, hLen, hSl, tM1, tBM, cT1, cT1f, cFind3, cSplit, cPart, rNewStrs, hIsS, hTru, tAsg, gName, gSub, tRet, tRetN, tCons, tNil, tTup, tLst, tCB, tNot, tAnd, tNotV, tAndV, tOrV, tOr, V.bl.injEq, V.int.injEq, V.str.injEq, exists_eq_left', exists_eq_left, exists_eq', true_and, and_true, cIsN, L2.start, gTup, gCons, gNil, nox_K, cx_K, tCallF, tSl, tPart, tNoPart, iEnum, RZ.iZipA, iRng1, iRng2, cAbs, List.map_cons, List.map_nil, List.length_cons, List.length_nil, List.replicate, List.cons_append, List.nil_append, List.getElem?_cons_zero, List.getElem?_cons_succ, List.getElem?_nil, List.set_cons_zero, List.set_cons_succ, Nat.reduceAdd, Nat.reduceSub, Nat.zero_add, if_true, if_false, reduceIte, reduceCtorEq, Bool.false_eq_true, decide_eq_true_eq, tDrop, cMin2, cJoin, iList, tDNewK, tLc_eq, iStr, wipe])
        refine ⟨by omega, ?_⟩
        split
        · refine ⟨by omega, hN _ _ ⟨_, rfl, ⟨_, _, rfl⟩, by rw [la]; omega, ?_, ?_⟩⟩
          · rw [TL.tl_append]
            exact (Nw.lit (by decide +kernel)).app hn2
          · rw [TL.tl_append]
            exact fun e => absurd (List.cons.inj (List.cons.inj e).2).1 (by decide)
        · rename_i n
          exact hN _ _ ⟨_, rfl, ⟨_, _, rfl⟩, by omega, hn2, fun e => n (slashes_of.mpr e)⟩
      · rintro σ H7 ⟨t3, rfl, ⟨u6, u7, rfl⟩, ht3, hn3, h23⟩
        (try simp only [tNext, tFor_eq, cBl, tOp, tC, cI, cIc, cAdd, cVar, hEq, hNe, hIn, hNotIn, hLen, hSl, tM1, tBM, cT1, cT1f, cFind3, cSplit, cPart, rNewStrs, hIsS, hTru, tAsg, gName, gSub, tRet, tRetN, tCons, tNil, tTup, tLst, tCB, tNot, tAnd, tNotV, tAndV, tOrV, tOr, V.bl.injEq, V.int.injEq, V.str.injEq, exists_eq_left', exists_eq_left, exists_eq', true_and, and_true, cIsN, L2.start, gTup, gCons, gNil, nox_K, cx_K, tCallF, tSl, tPart, tNoPart, iEnum, RZ.iZipA, iRng1, iRng2, cAbs, List.map_cons, List.map_nil, List.length_cons, List.length_nil, List.replicate, List.cons_append, List.nil_append, List.getElem?_cons_zero, List.getElem?_cons_succ, List.getElem?_nil, List.set_cons_zero, List.set_cons_succ, Nat.reduceAdd, Nat.reduceSub, Nat.zero_add, if_true, if_false, reduceIte, reduceCtorEq, Bool.false_eq_true, decide_eq_true_eq, tDrop, cMin2, cJoin, iList, tDNewK, tLc_eq, iStr, wipe])
        refine ⟨by decide, fun p8 hp8 => ?_⟩
        refine take_ok (hb6.fresh hp8) (by omega) (by decide) (by decide) fun d9 H9 d90 d91 hb9 hk9 => ?_
        refine hIx_all (hk9 _ _ (hb6.ne hp8) upd_self) d90 d91 fun s hs => ?_
        have hk9 : Kp a H H9 := (hk6.fresh hp8).trans hk9
        have hs : isP 0 s = true ∧ s ≠ .non ∧ Lv 10 s ∧ s ≠ V.str (Str.ofString "zz") := by
          simp only [List.mem_cons, List.not_mem_nil, or_false] at hs
          rcases hs with rfl | rfl
          all_goals exact ⟨by decide +kernel, V.noConfusion, .inr ⟨_, rfl, by decide⟩, by decide +kernel⟩
        refine ⟨by decide, ?_⟩
        refine fin H9 s _ _ _ t3 _ hb9 (by omega) hk9 hs.1 hs.2.2 AuO.no hn3 (by omega) ?_
        exact poss_no h23 fun e => absurd (of_decide_eq_true e) hs.2.1
    rw [if_neg c0]
    refine seqStep ?_
    try unfold tIfS
    (try simp only [tNext, tFor_eq, cBl, tOp, tC, cI, cIc, cAdd, cVar, hEq, hNe, hIn, hNotIn, hLen, hSl, tM1, tBM, cT1, cT1f, cFind3, cSplit, cPart, rNewStrs, hIsS, hTru, tAsg, gName, gSub, tRet, tRetN, tCons, tNil, tTup, tLst, tCB, tNot, tAnd, tNotV, tAndV, tOrV, tOr, V.bl.injEq, V.int.injEq, V.str.injEq, exists_eq_left', exists_eq_left, exists_eq', true_and, and_true, cIsN, L2.start, gTup, gCons, gNil, nox_K, cx_K, tCallF, tSl, tPart, tNoPart, iEnum, RZ.iZipA, iRng1, iRng2, cAbs, List.map_cons, List.map_nil, List.length_cons, List.length_nil, List.replicate, List.cons_append, List.nil_append, List.getElem?_cons_zero, List.getElem?_cons_succ, List.getElem?_nil, List.set_cons_zero, List.set_cons_succ, Nat.reduceAdd, Nat.reduceSub, Nat.zero_add, if_true, if_false, reduceIte, reduceCtorEq, Bool.false_eq_true, decide_eq_true_eq, tDrop, cMin2, cJoin, iList, tDNewK, tLc_eq, iStr, wipe])
    by_cases c1 : kd = 1
    · rw [if_pos c1]
      refine seqStep ?_
      (try simp only [tNext, tFor_eq, cBl, tOp, tC, cI, cIc, cAdd, cVar, hEq, hNe, hIn, hNotIn, hLen, hSl, tM1, tBM, cT1, cT1f, cFind3, cSplit, cPart, rNewStrs, hIsS, hTru, tAsg, gName, gSub, tRet, tRetN, tCons, tNil, tTup, tLst, tCB, tNot, tAnd, tNotV, tAndV, tOrV, tOr, V.bl.injEq, V.int.injEq, V.str.injEq, exists_eq_left', exists_eq_left, exists_eq', true_and, and_true, cIsN, L2.start, gTup, gCons, gNil, nox_K, cx_K, tCallF, tSl, tPart, tNoPart, iEnum, RZ.iZipA, iRng1, iRng2, cAbs, List.map_cons, List.map_nil, List.length_cons, List.length_nil, List.replicate, List.cons_append, List.nil_append, List.getElem?_cons_zero, List.getElem?_cons_succ, List.getElem?_nil, List.set_cons_zero, List.set_cons_succ, Nat.reduceAdd, Nat.reduceSub, Nat.zero_add, if_true, if_false, reduceIte, reduceCtorEq, Bool.false_eq_true, decide_eq_true_eq, tDrop, cMin2, cJoin, iList, tDNewK, tLc_eq, iStr, wipe])
      refine rooted_ok hb3 (by omega) (by decide) (by decide) fun t H4 ht hg hr hb4 hk4 => ?_
      have hk4 := hk3.trans hk4
      refine ⟨by decide, fun p5 hp5 => ?_⟩
      refine take_ok (hb4.fresh hp5) (by omega) (by decide) (by decide) fun d6 H6 d60 d61 hb6 hk6 => ?_
      refine hIx_all (hk6 _ _ (hb4.ne hp5) upd_self) d60 d61 fun v hv => ?_
      have hk6 : Kp a H H6 := (hk4.fresh hp5).trans hk6
      obtain ⟨t2, rfl, ht2, hn2, hp2'⟩ : ∃ t2 : Str, v = .str t2 ∧ t2.length ≤ 200 ∧ Nw PS (tl t2) ∧ (tl t2 = [] ∨ (tl t2).take 1 = [47]) := by
        simp only [List.mem_cons, List.not_mem_nil, or_false] at hv
        rcases hv with rfl | rfl
        · exact ⟨_, rfl, by decide, Nw.nil, .inl rfl⟩
        · exact ⟨_, rfl, ht, hr.2.1, .inr hr.1⟩
      (try simp only [tNext, tFor_eq, cBl, tOp, tC, cI, cIc, cAdd, cVar, hEq, hNe, hIn, hNotIn, hLen, hSl, tM1, tBM, cT1, cT1f, cFind3, cSplit, cPart, rNewStrs, hIsS, hTru, tAsg, gName, gSub, tRet, tRetN, tCons, tNil, tTup, tLst, tCB, tNot, tAnd, tNotV, tAndV, tOrV, tOr, V.bl.injEq, V.int.injEq, V.str.injEq, exists_eq_left', exists_eq_left, exists_eq', true_and, and_true, cIsN, L2.start, gTup, gCons, gNil, nox_K, cx_K, tCallF, tSl, tPart, tNoPart, iEnum, RZ.iZipA, iRng1, iRng2, cAbs, List.map_cons, List.map_nil, List.length_cons, List.length_nil, List.replicate, List.cons_append, List.nil_append, List.getElem?_cons_zero, List.getElem?_cons_succ, List.getElem?_nil, List.set_cons_zero, List.set_cons_succ, Nat.reduceAdd, Nat.reduceSub, Nat.zero_add, if_true, if_false, reduceIte, reduceCtorEq, Bool.false_eq_true, decide_eq_true_eq, tDrop, cMin2, cJoin, iList, tDNewK, tLc_eq, iStr, wipe])
      refine ⟨by decide, fun p8 hp8 => ?_⟩
      refine take_ok (hb6.fresh hp8) (by omega) (by decide) (by decide) fun d9 H9 d90 d91 hb9 hk9 => ?_
      refine hIx_all (hk9 _ _ (hb6.ne hp8) upd_self) d90 d91 fun s hs => ?_
      have hk9 : Kp a H H9 := (hk6.fresh hp8).trans hk9
      have hs : isP 0 s = true ∧ Lv 10 s ∧ s ≠ V.str (Str.ofString "zz") := by
        simp only [List.mem_cons, List.not_mem_nil, or_false] at hs
        rcases hs with rfl | rfl | rfl
        · exact ⟨by decide +kernel, .inr ⟨_, rfl, by decide⟩, by decide +kernel⟩
        · exact ⟨iN, lN⟩
        · exact ⟨iN, lN⟩
      refine ⟨by decide, fun p10 hp10 => ?_⟩
      have hb10 := hb9.fresh (o := .tup [s]) hp10
      have hk10 := hk9.fresh (o := .tup [s]) hp10
      have n10 := hb9.ne hp10
      have h10 : (upd H9 p10 (.tup [s])) p10 = some (.tup [s]) := upd_self
      generalize upd H9 p10 (.tup [s]) = H10 at *
      refine auth_ok hb10 (by omega) fun p11 u h g H11 hp11 ha hb11 hk11 => ?_
      have h10' := hk11 _ _ n10 h10
      have hk11 := hk10.trans hk11
      refine .inr ⟨_, _, _, _, rfl, rfl, .inl (Rd.of h10'), .inl (Rd.of hp11), List.cons_ne_nil _ _, by simp only [List.length_cons, List.length_nil]; omega, (fun e => nomatch e), fun _ p12 hp12 => ?_⟩
      refine ⟨by decide, fun p13 hp13 => ?_⟩
      refine .inr ⟨_, _, _, _, rfl, rfl, .inl (Rd.of (upd_old upd_self hp13)), .inl (Rd.of upd_self), by simp, by simp only [List.length_append, List.length_cons, List.length_nil]; omega, (fun e => nomatch e), fun _ p14 hp14 => ?_⟩
      refine fin _ s u h g t2 _ ((hb11.fresh hp12).fresh hp13) (by omega) ((hk11.fresh hp12).fresh hp13) hs.1 hs.2 (.inr ha) hn2 (by omega) ?_ p14 hp14
      rw [show isNo h = false from decide_eq_false ha.n]
      exact poss_host.mpr hp2'
    rw [if_neg c1]
    refine seqStep ?_
    try unfold tIfS
    (try simp only [tNext, tFor_eq, cBl, tOp, tC, cI, cIc, cAdd, cVar, hEq, hNe, hIn, hNotIn, hLen, hSl, tM1, tBM, cT1, cT1f, cFind3, cSplit, cPart, rNewStrs, hIsS, hTru, tAsg, gName, gSub, tRet, tRetN, tCons, tNil, tTup, tLst, tCB, tNot, tAnd, tNotV, tAndV, tOrV, tOr, V.bl.injEq, V.int.injEq, V.str.injEq, exists_eq_left', exists_eq_left, exists_eq', true_and, and_true, cIsN, L2.start, gTup, gCons, gNil, nox_K, cx_K, tCallF, tSl, tPart, tNoPart, iEnum, RZ.iZipA, iRng1, iRng2, cAbs, List.map_cons, List.map_nil, List.length_cons, List.length_nil, List.replicate, List.cons_append, List.nil_append, List.getElem?_cons_zero, List.getElem?_cons_succ, List.getElem?_nil, List.set_cons_zero, List.set_cons_succ, Nat.reduceAdd, Nat.reduceSub, Nat.zero_add, if_true, if_false, reduceIte, reduceCtorEq, Bool.false_eq_true, decide_eq_true_eq, tDrop, cMin2, cJoin, iList, tDNewK, tLc_eq, iStr, wipe])
    by_cases c2 : kd = 2
    · rw [if_pos c2]
      refine rooted_ok hb3 (by omega) (by decide) (by decide) fun t H4 ht hg hr hb4 hk4 => ?_
      exact ⟨by decide, fin H4 .non .non .non .non t _ hb4 (by omega) (hk3.trans hk4) iN lN AuO.no hr.2.1 (by omega) (poss_slash hr.1 fun _ => hr.2.2 rfl)⟩
    rw [if_neg c2]
    refine seqStep ?_
    try unfold tIfS
    (try simp only [tNext, tFor_eq, cBl, tOp, tC, cI, cIc, cAdd, cVar, hEq, hNe, hIn, hNotIn, hLen, hSl, tM1, tBM, cT1, cT1f, cFind3, cSplit, cPart, rNewStrs, hIsS, hTru, tAsg, gName, gSub, tRet, tRetN, tCons, tNil, tTup, tLst, tCB, tNot, tAnd, tNotV, tAndV, tOrV, tOr, V.bl.injEq, V.int.injEq, V.str.injEq, exists_eq_left', exists_eq_left, exists_eq', true_and, and_true, cIsN, L2.start, gTup, gCons, gNil, nox_K, cx_K, tCallF, tSl, tPart, tNoPart, iEnum, RZ.iZipA, iRng1, iRng2, cAbs, List.map_cons, List.map_nil, List.length_cons, List.length_nil, List.replicate, List.cons_append, List.nil_append, List.getElem?_cons_zero, List.getElem?_cons_succ, List.getElem?_nil, List.set_cons_zero, List.set_cons_succ, Nat.reduceAdd, Nat.reduceSub, Nat.zero_add, if_true, if_false, reduceIte, reduceCtorEq, Bool.false_eq_true, decide_eq_true_eq, tDrop, cMin2, cJoin, iList, tDNewK, tLc_eq, iStr, wipe])
    by_cases c3 : kd = 3
    · rw [if_pos c3]
      exact ⟨by decide, fin H3 .non .non .non .non _ _ hb3 (by omega) hk3 iN lN AuO.no Nw.nil (by decide) (by decide +kernel)⟩
    rw [if_neg c3]
    refine seqStep ?_
    (try simp only [tNext, tFor_eq, cBl, tOp, tC, cI, cIc, cAdd, cVar, hEq, hNe, hIn, hNotIn, hLen, hSl, tM1, tBM, cT1, cT1f, cFind3, cSplit, cPart, rNewStrs, hIsS, hTru, tAsg, gName, gSub, tRet, tRetN, tCons, tNil, tTup, tLst, tCB, tNot, tAnd, tNotV, tAndV, tOrV, tOr, V.bl.injEq, V.int.injEq, V.str.injEq, exists_eq_left', exists_eq_left, exists_eq', true_and, and_true, cIsN, L2.start, gTup, gCons, gNil, nox_K, cx_K, tCallF, tSl, tPart, tNoPart, iEnum, RZ.iZipA, iRng1, iRng2, cAbs, List.map_cons, List.map_nil, List.length_cons, List.length_nil, List.replicate, List.cons_append, List.nil_append, List.getElem?_cons_zero, List.getElem?_cons_succ, List.getElem?_nil, List.set_cons_zero, List.set_cons_succ, Nat.reduceAdd, Nat.reduceSub, Nat.zero_add, if_true, if_false, reduceIte, reduceCtorEq, Bool.false_eq_true, decide_eq_true_eq, tDrop, cMin2, cJoin, iList, tDNewK, tLc_eq, iStr, wipe])
    refine take_ok hb3 (by omega) (by decide) (by decide) fun d4 H4 d40 d41 hb4 hk4 => ?_
    have hk4 := hk3.trans hk4
    refine ⟨1 + d4, rfl, by omega, by omega, fun D hD => ?_⟩
    have hDa := hb4.ne hD
    have hD0 := hk4.none hDa hD
    refine lcp_range (fun i H' => ∃ ys : List Str, H' D = some (.lst (ys.map V.str)) ∧ (∀ y ∈ ys, y.length ≤ 6) ∧ (∀ y ∈ ys, Nw PS (tl y)) ∧ ys.length = i ∧ Bg (m + 4 + i) H' a ∧ Kp a H H') ⟨[], upd_self, fun _ h => (nomatch h), fun _ h => (nomatch h), rfl, (hb4.fresh hD).mono (by omega), hk4.fresh hD⟩ ?_ ?_
    · rintro i H5 hi ⟨ys, hl, hy, hg, hn, hb5, hk5⟩
      (try simp only [tSeq, tNext, tIfS, tFor_eq, cBl, tOp, tC, cI, cIc, cAdd, cVar, hEq, hNe, hIn, hNotIn, hLen, hSl, tM1, tBM, cT1, cT1f, cFind3, cSplit, cPart, rNewStrs, hIsS, hTru, tAsg, gName, gSub, tRet, tRetN, tCons, tNil, tTup, tLst, tCB, tNot, tAnd, tNotV, tAndV, tOrV, tOr, V.bl.injEq, V.int.injEq, V.str.injEq, exists_eq_left', exists_eq_left, exists_eq', true_and, and_true, cIsN, L2.start, gTup, gCons, gNil, nox_K, cx_K, tCallF, tSl, tPart, tNoPart, iEnum, RZ.iZipA, iRng1, iRng2, cAbs, List.map_cons, List.map_nil, List.length_cons, List.length_nil, List.replicate, List.cons_append, List.nil_append, List.getElem?_cons_zero, List.getElem?_cons_succ, List.getElem?_nil, List.set_cons_zero, List.set_cons_succ, Nat.reduceAdd, Nat.reduceSub, Nat.zero_add, if_true, if_false, reduceIte, reduceCtorEq, Bool.false_eq_true, decide_eq_true_eq, tDrop, cMin2, cJoin, iList, tDNewK, tLc_eq, iStr, wipe])
      simp only [tYes, if_true]
      refine seg_ok hb5 (by omega) fun t H6 ht hs hb6 hk6 => ?_
      refine ⟨ys.map V.str, hk6 _ _ hDa hl, by rw [List.length_map]; omega, ys ++ [t], by rw [List.map_append]; exact upd_self, fun y hm => ?_, fun y hm => ?_, by rw [List.length_append]; simp only [List.length_cons, List.length_nil]; omega, ?_, ?_⟩
      · rcases List.mem_append.mp hm with hm | hm
        · exact hy y hm
        · rw [List.mem_singleton.mp hm]; exact ht
      · rcases List.mem_append.mp hm with hm | hm
        · exact hg y hm
        · rw [List.mem_singleton.mp hm]; exact hs.2
      · obtain ⟨x, y, z, e, r⟩ := hb6
        exact ⟨x, y, z, by rw [upd_ne hDa.symm]; exact e, r⟩
      · exact (hk5.trans hk6).new hD0
    · rintro H5 ⟨ys, hl, hy, hg, hn, hb5, hk5⟩
      have hj := join_len (y := Str.ofString "/") hy
      have hs := sum_len hy
      have e1 : (Str.ofString "/").length = 1 := rfl
      have e3 : (Str.ofString "./").length = 2 := rfl
      have hn2 : ys.length ≤ 10 := by omega
      have hj2 : (Txt.join (Str.ofString "/") ys).length ≤ 70 := by
        rw [e1] at hj
        omega
      have hjn : Nw PS (tl (Txt.join (Str.ofString "/") ys)) := by
        rw [TL.join_eq, TL.tl_join]
        exact nwJ (by decide +kernel) _ fun p hp => by
          obtain ⟨z, hz, rfl⟩ := List.mem_map.mp hp
          exact hg z hz
      refine ⟨ys, .inl (.inl (Rd.of hl)), by rw [e1]; omega, ?_⟩
      generalize Txt.join (Str.ofString "/") ys = tj at *
      refine seqStep ?_
      (try simp only [tNext, tFor_eq, cBl, tOp, tC, cI, cIc, cAdd, cVar, hEq, hNe, hIn, hNotIn, hLen, hSl, tM1, tBM, cT1, cT1f, cFind3, cSplit, cPart, rNewStrs, hIsS, hTru, tAsg, gName, gSub, tRet, tRetN, tCons, tNil, tTup, tLst, tCB, tNot, tAnd, tNotV, tAndV, tOrV, tOr, V.bl.injEq, V.int.injEq, V.str.injEq, exists_eq_left', exists_eq_left, exists_eq', true_and, and_true, cIsN, L2.start, gTup, gCons, gNil, nox_K, cx_K, tCallF, tSl, tPart, tNoPart, iEnum, RZ.iZipA, iRng1, iRng2, cAbs, List.map_cons, List.map_nil, List.length_cons, List.length_nil, List.replicate, List.cons_append, List.nil_append, List.getElem?_cons_zero, List.getElem?_cons_succ, List.getElem?_nil, List.set_cons_zero, List.set_cons_succ, Nat.reduceAdd, Nat.reduceSub, Nat.zero_add, if_true, if_false, reduceIte, reduceCtorEq, Bool.false_eq_true, decide_eq_true_eq, tDrop, cMin2, cJoin, iList, tDNewK, tLc_eq, iStr, wipe])
      refine ⟨rfl, by omega, fun p6 hp6 => ?_⟩
      obtain ⟨z, zs, ez, etz⟩ := split_first tj
      refine hIx_lit (v := .str z) upd_self (by rw [ez]; exact atI_zero _ _) ?_
      have hb6 := hb5.fresh (o := .lst ((Txt.split tj (Str.ofString "/")).map V.str)) hp6
      have hk6 := hk5.fresh (o := .lst ((Txt.split tj (Str.ofString "/")).map V.str)) hp6
      generalize upd H5 p6 (.lst ((Txt.split tj (Str.ofString "/")).map V.str)) = H6 at *
      try unfold tIf
      (try simp only [tNext, tFor_eq, cBl, tOp, tC, cI, cIc, cAdd, cVar, hEq, hNe, hIn, hNotIn, hLen, hSl, tM1, tBM, cT1, cT1f, cFind3, cSplit, cPart, rNewStrs, hIsS, hTru, tAsg, gName, gSub, tRet, tRetN, tCons, tNil, tTup, tLst, tCB, tNot, tAnd, tNotV, tAndV, tOrV, tOr, V.bl.injEq, V.int.injEq, V.str.injEq, exists_eq_left', exists_eq_left, exists_eq', true_and, and_true, cIsN, L2.start, gTup, gCons, gNil, nox_K, cx_K, tCallF, tSl, tPart, tNoPart, iEnum, RZ.iZipA, iRng1, iRng2, cAbs, List.map_cons, List.map_nil, List.length_cons, List.length_nil, List.replicate, List.cons_append, List.nil_append, List.getElem?_cons_zero, List.getElem?_cons_succ, List.getElem?_nil, List.set_cons_zero, List.set_cons_succ, Nat.reduceAdd, Nat.reduceSub, Nat.zero_add, if_true, if_false, reduceIte, reduceCtorEq, Bool.false_eq_true, decide_eq_true_eq, tDrop, cMin2, cJoin, iList, tDNewK, tLc_eq, iStr, wipe])
      have two : Nw PS (tl (Str.ofString "./" ++ tj)) ∧ poss true true (tl (Str.ofString "./" ++ tj)) = true := by
        rw [TL.tl_append]
        refine ⟨(Nw.lit (by decide +kernel)).app hjn, poss_no (fun e => absurd (List.cons.inj e).1 (by decide)) fun _ => ?_⟩
        show (bef 47 (46 :: 47 :: tl tj)).contains 58 = false
        rw [bef_miss (by decide), bef_hit]
        decide
      have one : z ≠ Str.ofString "" → (tl z).contains 58 = false → poss true true (tl tj) = true := fun h1 h2 => by
        refine poss_no (fun e => ?_) fun _ => by rw [← etz]; exact h2
        refine h1 (TL.ext_tl ?_)
        rw [etz]
        match ht : tl tj, e with
        | c :: r, e =>
          have : c = 47 := (List.cons.inj e).1
          subst this
          rw [bef_hit]; rfl
      by_cases z0 : z = Str.ofString ""
      · rw [if_pos z0]
        refine ⟨by omega, by decide, fin _ .non .non .non .non _ _ hb6 (by omega) hk6 iN lN AuO.no two.1 (by rw [la]; omega) two.2⟩
      · rw [if_neg z0]
        cases z1 : isIn (Str.ofString ":") z with
        | true =>
          simp only [if_true]
          refine ⟨by omega, by decide, fin _ .non .non .non .non _ _ hb6 (by omega) hk6 iN lN AuO.no two.1 (by rw [la]; omega) two.2⟩
        | false =>
          simp only [Bool.false_eq_true, if_false]
          refine ⟨by decide, fin _ .non .non .non .non _ _ hb6 (by omega) hk6 iN lN AuO.no hjn (by omega) (one z0 ?_)⟩
          have : isIn (Str.ofString ":") z = (tl z).contains 58 := by
            rw [colon_one]; exact isIn_one 58 z
          rw [← this, z1]
end
end Da
set_option Elab.async false
set_option linter.all false
set_option maxRecDepth 100000
set_option maxHeartbeats 4000000
namespace Da
open PySem PySem.Spec PyProof.Rows L2 Hd Xs Fx Mi Ms Md Mq Mv ClX Xr
open TL (tl joinL)
theorem bag_ok {K : PySem.W.Frag} {a : Addr} {i : Int} {H : Hp} {Q : VK} {E : XK} (ns : List Int) (hS : SqL K H a (ns.map V.int)) (i0 : 0 ≤ i) (i1 : i ≤ 100) (q : ∀ p H', Ext H H' → H p = none → Bg 0 H' p → Q (.ref p) H') : spBag K [.ref a, .int i] H Q E := ⟨ns, hS, i0, i1, q⟩
/-- two bases with the same folder -/
theorem join_twin {s u h g q1 f1 q2 f2 : V} {l1 y : Str} {ws : List V} {n : Nat} (ow : OkU n ws) (e : fld (tl l1) = fld (tl y)) (hn : ¬ (ws.getD 0 .non = .non ∧ ws.getD 2 .non = .non ∧ ws.getD 4 .non = eV)) : joinV [s, u, h, g, .str l1, q1, f1] ws = joinV [s, u, h, g, .str y, q2, f2] ws := by
  obtain ⟨⟨s', u', h', p', l', q', f', rfl⟩, _, _⟩ := ow
  show (if s' ≠ .non then [s', u', h', p', mkT (cln (hasA h') (tl l')), q', f'] else if h' ≠ .non then [s, u', h', p', mkT (cln true (tl l')), q', f'] else if tl l' = [] then [s, u, h, g, .str l1, if q' = .non then q1 else q', f']
      else [s, u, h, g, mkT (cln (hasA h) (if (tl l').take 1 = [47] then tl l' else fld (tl l1) ++ tl l')), q', f']) = (if s' ≠ .non then [s', u', h', p', mkT (cln (hasA h') (tl l')), q', f'] else if h' ≠ .non then [s, u', h', p', mkT (cln true (tl l')), q', f'] else if tl l' = [] then [s, u, h, g, .str y, if q' = .non then q2 else q', f']
      else [s, u, h, g, mkT (cln (hasA h) (if (tl l').take 1 = [47] then tl l' else fld (tl y) ++ tl l')), q', f'])
  by_cases c1 : s' ≠ .non
  · rw [if_pos c1, if_pos c1]
  · rw [if_neg c1, if_neg c1]
    by_cases c2 : h' ≠ .non
    · rw [if_pos c2, if_pos c2]
    · rw [if_neg c2, if_neg c2]
      have c3 : tl l' ≠ [] := fun c3 => hn ⟨Classical.not_not.mp c1, Classical.not_not.mp c2, by
        show V.str l' = V.str (Str.ofString "")
        rw [show l' = Str.ofString "" from TL.ext_tl (by rw [c3]; rfl)]⟩
      rw [if_neg c3, if_neg c3, e]
theorem rel_twin {s u h g q1 f1 q2 f2 : V} {l1 y : Str} {S U A P Q F : V} {L : Str} (e : fld (tl l1) = fld (tl y)) (n1 : L ≠ l1) (n2 : L ≠ y) : relV [s, u, h, g, .str l1, q1, f1] [S, U, A, P, .str L, Q, F] = relV [s, u, h, g, .str y, q2, f2] [S, U, A, P, .str L, Q, F] := by
  unfold relV
  congr 1
  have e3 : ∀ (z : Str) (q f : V), L ≠ z → lead3 [s, u, h, g, .str z, q, f] [S, U, A, P, .str L, Q, F] = [] := fun z q f hz => if_neg (fun w => hz (V.str.inj w.1))
  have e4 : ∀ (z : Str) (q f : V), L ≠ z → lead4 [s, u, h, g, .str z, q, f] [S, U, A, P, .str L, Q, F] = [] := fun z q f hz => if_neg (fun w => hz (V.str.inj w.1))
  have e5 : lead5 [s, u, h, g, .str l1, q1, f1] [S, U, A, P, .str L, Q, F] = lead5 [s, u, h, g, .str y, q2, f2] [S, U, A, P, .str L, Q, F] := by
    show (if clB A (.str L) = true ∧ (tl L).take 1 = [47] then [restV (mkT (cln false (tl L))) Q F, restV (mkT (pathB (fdT (tl l1)) (stk (tl L)))) Q F] else []) = (if clB A (.str L) = true ∧ (tl L).take 1 = [47] then [restV (mkT (cln false (tl L))) Q F, restV (mkT (pathB (fdT (tl y)) (stk (tl L)))) Q F] else [])
    unfold fdT
    rw [e]
  unfold leadL
  rw [e3 _ _ _ n1, e3 _ _ _ n2, e4 _ _ _ n1, e4 _ _ _ n2, e5]
  rfl
def spLaw (K : PySem.W.Frag) : Sp := fun vs H Q _ => match vs with
  | [.ref a] => ∃ ns : List Int, SqL K H a (ns.map V.int) ∧ ∀ H', Q (.bl true) H'
  | _ => False
section
variable {P : Program} {w : World} {K : PySem.W.Frag} {mg : Str → Option Value} {base : Heap}
theorem law_fn (c : Ct w K mg) {fd : FuncData} (F : FunD K d_law.name d_law.qual d_law.params d_law.body d_law.scope (d_law.dvs K) (d_law.kws K) (d_law.at_ K) fd) : FnOk P w K mg base CX0 15 (He.ga K "law") fd ["script"] (spLaw K) := by
  refine F.ok sc_law (fun vs H Q E h => ?_) (fun cdv A outer s H vs Q E hr h => ⟨_, PSs.nox ((pss_cons (ps_for PassesOwn.never rfl (pi_range1 rfl (b_range c) (pa_cons (pe_callB (cc_max2 rfl) (by rfl) (b_max c) (by decide +kernel) (pa_cons pe_int (pa_cons (pe_callB (cc_min2 rfl) (by rfl) (b_min c) (by decide +kernel) (pa_cons pe_int (pa_cons (pe_callB cc_len (by rfl) (b_len c) (by decide +kernel) (pa_cons (cv 0) pa_nil)) pa_nil))) pa_nil))) pa_nil)) (pg_name (i := 1) (sc_law).nd rfl (Or.inl rfl)) (pss_cons (ps_set (i := 2) (sc_law).nd rfl (Or.inl rfl) (pf (ok__law_bag c) (hr.mono (by decide)) (g__law_bag c) (k__law_bag c) pass0 (pa_cons (cv 0) (pa_cons (cv 1) pa_nil)))) (pss_one (ps_for PassesOwn.never rfl (pi_range1 rfl (b_range c) (pa_cons pe_int pa_nil)) (pg_name (i := 3) (sc_law).nd rfl (Or.inl rfl)) (pss_cons (ps_set (i := 4) (sc_law).nd rfl (Or.inl rfl) (pf (ok__law_base c) (hr.mono (by decide)) (g__law_base c) (k__law_base c) pass0 (pa_cons (cv 2) pa_nil))) (pss_cons (ps_set (i := 4) (sc_law).nd rfl (Or.inl rfl) (pe_op co_add (pe_op co_add (pe_slice hs_tup (cv 4) po_none (po_some pe_int)) (pe_tup (pa_cons (pe_ifExp (ctc (ho_eq (hu64 hr)) (hix (cv 4) pe_int) pe_str (by rfl)) pe_str (hix (cv 4) pe_int)) pa_nil))) (pe_slice hs_tup (cv 4) (po_some pe_int) po_none))) (pss_cons (ps_set (i := 5) (sc_law).nd rfl (Or.inl rfl) (pe_slice hs_any (hix (cv 4) pe_int) po_none (po_some (pe_op co_sub (pe_callB hc_len (by rfl) (b_len c) (by decide +kernel) (pa_cons (hix (cv 4) pe_int) pa_nil)) (pe_callB hc_len (by rfl) (b_len c) (by decide +kernel) (pa_cons (hix (pe_m1 PySem.F.slot_str_split PySem.F.type_str_split cm_split (hix (cv 4) pe_int) pe_str) (pe_un un_neg pe_int)) pa_nil)))))) (pss_cons (ps_set (i := 6) (sc_law).nd rfl (Or.inl rfl) (pe_op co_add (cv 5) (hix (pe_lst (pa_cons pe_str (pa_cons pe_str (pa_cons pe_str (pa_cons pe_str pa_nil))))) (pf (ok__law_take c) (hr.mono (by decide)) (g__law_take c) (k__law_take c) pass0 (pa_cons (cv 2) (pa_cons pe_int pa_nil)))))) (pss_cons (ps_set (i := 7) (sc_law).nd rfl (Or.inl rfl) (pe_op co_add (pe_slice hs_tup (cv 4) po_none (po_some pe_int)) (pe_tup (pa_cons (cv 6) (pa_cons (hix (pe_lst (pa_cons pe_non (pa_cons pe_str pa_nil))) (pf (ok__law_take c) (hr.mono (by decide)) (g__law_take c) (k__law_take c) pass0 (pa_cons (cv 2) (pa_cons pe_int pa_nil)))) (pa_cons (hix (pe_lst (pa_cons pe_non (pa_cons pe_str pa_nil))) (pf (ok__law_take c) (hr.mono (by decide)) (g__law_take c) (k__law_take c) pass0 (pa_cons (cv 2) (pa_cons pe_int pa_nil)))) pa_nil)))))) (pss_cons (ps_par (i := 8) (j := 9) (by rfl) (sc_law).nd rfl rfl (by decide) rfl rfl (pa_cons (pf (ok__law_url c) (hr.mono (by decide)) (g__law_url c) (k__law_url c) pass0 (pa_cons (cv 4) pa_nil)) (pa_cons (pf (ok__law_url c) (hr.mono (by decide)) (g__law_url c) (k__law_url c) pass0 (pa_cons (cv 7) pa_nil)) pa_nil)) (by rfl)) (pss_one (ps_for PassesOwn.never rfl (pi_range1 rfl (b_range c) (pa_cons pe_int pa_nil)) (pg_name (i := 10) (sc_law).nd rfl (Or.inl rfl)) (pss_cons (ps_set (i := 11) (sc_law).nd rfl (Or.inl rfl) (pf (ok__law_reference c) (hr.mono (by decide)) (g__law_reference c) (k__law_reference c) pass0 (pa_cons (cv 2) pa_nil))) (pss_cons (ps_if (PW.pt (pw_and (ctc co_isN (hix (cv 11) pe_int) pe_non (by rfl)) (pw_and (ctc co_isN (hix (cv 11) pe_int) pe_non (by rfl)) (pw_and1 (ctc (ho_eq (hu64 hr)) (hix (cv 11) pe_int) pe_str (by rfl)))))) (pss_one (ps_set (i := 11) (sc_law).nd rfl (Or.inl rfl) (pe_op co_add (pe_op co_add (pe_slice hs_tup (cv 11) po_none (po_some pe_int)) (pe_tup (pa_cons pe_str pa_nil))) (pe_slice hs_tup (cv 11) (po_some pe_int) po_none)))) pss_nil) (pss_cons (ps_set (i := 12) (sc_law).nd rfl (Or.inl rfl) (pf (ok__law_url c) (hr.mono (by decide)) (g__law_url c) (k__law_url c) pass0 (pa_cons (cv 11) pa_nil))) (pss_cons (ps_set (i := 13) (sc_law).nd rfl (Or.inl rfl) (pf (ok_join c) (hr.mono (by decide)) (g_join c) (k_join c) pass0 (pa_cons (cv 8) (pa_cons (cv 12) pa_nil)))) (pss_cons (ps_if (ctc (op_neO (ok_Url___eq__ c).r (hr.mono (by decide)) (eqc_Url c)) (pf (ok_join c) (hr.mono (by decide)) (g_join c) (k_join c) pass0 (pa_cons (cv 9) (pa_cons (cv 12) pa_nil))) (cv 13) (by rfl)) (pss_one (ps_ret pe_bl)) pss_nil) (pss_one (ps_if (PW.pt (pw_and (ctc ho_notIn (pe_prop (cv 13) (cls_Url c) (prop_Url_path c) (ok_Url_path c).choose_spec.1 (hr.mono (by decide)) (ok_Url_path c).choose_spec.2 .nil pass0 (by rfl)) (pe_tup (pa_cons (hix (cv 4) pe_int) (pa_cons (cv 6) pa_nil))) (by rfl)) (pw_and1 (ctc (op_neO (ok_Url___eq__ c).r (hr.mono (by decide)) (eqc_Url c)) (pf (ok_relative c) (hr.mono (by decide)) (g_relative c) (k_relative c) pass0 (pa_cons (cv 8) (pa_cons (cv 13) pa_nil))) (pf (ok_relative c) (hr.mono (by decide)) (g_relative c) (k_relative c) pass0 (pa_cons (cv 9) (pa_cons (cv 13) pa_nil))) (by rfl))))) (pss_one (ps_ret pe_bl)) pss_nil))))))))))))))))))) (pss_one (ps_ret pe_bl)))), ?_⟩)
  · unfold spLaw at h
    split at h
    · rfl
    · exact h.elim
  · unfold spLaw at h
    split at h
    case h_2 => exact h.elim
    rename_i a
    obtain ⟨ns, hS, q⟩ := h
    have sl := sl
    have hla : ∀ H', Ext H H' → SqL K H' a (ns.map V.int) := fun H' e => Same.seq e hS
    refine seqCps (fun σ H' => Ext H H' ∧ σ.length = 14) (fun Nx hN => ?_) ?_
    · (try simp only [tNext, tFor_eq, cBl, tOp, tC, cI, cIc, cAdd, cVar, hEq, hNe, hIn, hNotIn, hLen, hSl, tM1, tBM, cT1, cT1f, cFind3, cSplit, cPart, rNewStrs, hIsS, hTru, tAsg, gName, gSub, tRet, tRetN, tCons, tNil, tTup, tLst, tCB, tNot, tAnd, tNotV, tAndV, tOrV, tOr, V.bl.injEq, V.int.injEq, V.str.injEq, exists_eq_left', exists_eq_left, exists_eq', true_and, and_true, cIsN, L2.start, gTup, gCons, gNil, nox_K, cx_K, tCallF, tSl, tPart, tNoPart, iEnum, RZ.iZipA, iRng1, iRng2, cAbs, List.map_cons, List.map_nil, List.length_cons, List.length_nil, List.replicate, List.cons_append, List.nil_append, List.getElem?_cons_zero, List.getElem?_cons_succ, List.getElem?_nil, List.set_cons_zero, List.set_cons_succ, Nat.reduceAdd, Nat.reduceSub, Nat.zero_add, if_true, if_false, reduceIte, reduceCtorEq, Bool.false_eq_true, decide_eq_true_eq, tDrop, cMin2, cJoin, iList, tDNewK, tLc_eq, iStr, wipe])
      refine ⟨_, .inl hS, ?_⟩
      simp only [hMax2]
      refine ⟨_, rfl, by (repeat' split) <;> omega, by (repeat' split) <;> omega, ?_⟩
      refine lp_range (fun k σ H' => Ext H H' ∧ ∃ u1 u2 u3 u4 u5 u6 u7 u8 u9 uA uB uC' uD, σ = [some (.ref a), u1, u2, u3, u4, u5, u6, u7, u8, u9, uA, uB, uC', uD]) ⟨Ext.rf, _, _, _, _, _, _, _, _, _, _, _, _, _, rfl⟩ ?_ (fun σ H' ⟨h, _, _, _, _, _, _, _, _, _, _, _, _, _, e⟩ => hN _ _ ⟨h, by rw [e]; rfl⟩)
      rintro k σ H1 hk ⟨he, u1, u2, u3, u4, u5, u6, u7, u8, u9, uA, uB, uC', uD, rfl⟩
      have hk6 : k < 64 := by
        revert hk
        (repeat' split) <;> omega
      refine seqStep ?_
      (try simp only [tNext, tFor_eq, cBl, tOp, tC, cI, cIc, cAdd, cVar, hEq, hNe, hIn, hNotIn, hLen, hSl, tM1, tBM, cT1, cT1f, cFind3, cSplit, cPart, rNewStrs, hIsS, hTru, tAsg, gName, gSub, tRet, tRetN, tCons, tNil, tTup, tLst, tCB, tNot, tAnd, tNotV, tAndV, tOrV, tOr, V.bl.injEq, V.int.injEq, V.str.injEq, exists_eq_left', exists_eq_left, exists_eq', true_and, and_true, cIsN, L2.start, gTup, gCons, gNil, nox_K, cx_K, tCallF, tSl, tPart, tNoPart, iEnum, RZ.iZipA, iRng1, iRng2, cAbs, List.map_cons, List.map_nil, List.length_cons, List.length_nil, List.replicate, List.cons_append, List.nil_append, List.getElem?_cons_zero, List.getElem?_cons_succ, List.getElem?_nil, List.set_cons_zero, List.set_cons_succ, Nat.reduceAdd, Nat.reduceSub, Nat.zero_add, if_true, if_false, reduceIte, reduceCtorEq, Bool.false_eq_true, decide_eq_true_eq, tDrop, cMin2, cJoin, iList, tDNewK, tLc_eq, iStr, wipe])
      refine bag_ok ns (hla _ he) (by omega) (by omega) fun b H2 he2 hb0 hb => ?_
      have hbn : H b = none := Ext.none he hb0
      refine ⟨6, rfl, by omega, by omega, ?_⟩
      refine lp_range (fun k2 σ H' => Ext H H' ∧ Bg (300 * k2) H' b ∧ ∃ u3 u4 u5 u6 u7 u8 u9 uA uB uC' uD, σ = [some (.ref a), some (.int (0 + (k : Nat))), some (.ref b), u3, u4, u5, u6, u7, u8, u9, uA, uB, uC', uD]) ⟨he.tr he2, hb, _, _, _, _, _, _, _, _, _, _, _, rfl⟩ ?_ (fun σ H' ⟨e, _, u3, u4, u5, u6, u7, u8, u9, uA, uB, uC', uD, h⟩ => ⟨e, _, _, _, _, _, _, _, _, _, _, _, _, _, h⟩)
      rintro k2 σ H3 hk2 ⟨he3, hb3, v3, v4, v5, v6, v7, v8, v9, vA, vB, vC, vD, rfl⟩
      refine seqStep ?_
      (try simp only [tNext, tFor_eq, cBl, tOp, tC, cI, cIc, cAdd, cVar, hEq, hNe, hIn, hNotIn, hLen, hSl, tM1, tBM, cT1, cT1f, cFind3, cSplit, cPart, rNewStrs, hIsS, hTru, tAsg, gName, gSub, tRet, tRetN, tCons, tNil, tTup, tLst, tCB, tNot, tAnd, tNotV, tAndV, tOrV, tOr, V.bl.injEq, V.int.injEq, V.str.injEq, exists_eq_left', exists_eq_left, exists_eq', true_and, and_true, cIsN, L2.start, gTup, gCons, gNil, nox_K, cx_K, tCallF, tSl, tPart, tNoPart, iEnum, RZ.iZipA, iRng1, iRng2, cAbs, List.map_cons, List.map_nil, List.length_cons, List.length_nil, List.replicate, List.cons_append, List.nil_append, List.getElem?_cons_zero, List.getElem?_cons_succ, List.getElem?_nil, List.set_cons_zero, List.set_cons_succ, Nat.reduceAdd, Nat.reduceSub, Nat.zero_add, if_true, if_false, reduceIte, reduceCtorEq, Bool.false_eq_true, decide_eq_true_eq, tDrop, cMin2, cJoin, iList, tDNewK, tLc_eq, iStr, wipe])
      refine dbase_ok hb3 (by omega) fun p vs H4 hp4 hp0 hpb ov bv hb4 hk4 => ?_
      have he4 := he3.kp hbn hk4
      have ov := ov.1
      obtain ⟨⟨s, u, h, g, l, qq, f, rfl⟩, dv, lv⟩ := id ov
      have d := due_iff.mp dv
      have hbp := base_path d bv
      have ll : l.length ≤ 300 := by
        rcases lv (.str l) (by simp) with e | ⟨t, e, ht⟩
        · cases e
        · cases e; exact ht
      -- a path that is not empty
      obtain ⟨l1, el1, h47, ll1⟩ : ∃ l1 : Str, l1 = (if l = Str.ofString "" then Str.ofString "/" else l) ∧ (tl l1).take 1 = [47] ∧ l1.length ≤ 300 := by
        by_cases e : l = Str.ofString ""
        · exact ⟨_, rfl, by rw [if_pos e]; decide +kernel, by rw [if_pos e]; decide⟩
        · refine ⟨_, rfl, ?_, by rw [if_neg e]; exact ll⟩
          rw [if_neg e]
          rcases hbp with h | h
          · exact absurd (TL.ext_tl (by rw [h]; rfl)) e
          · exact h
      refine seqCps (fun σ H' => Ext H4 H' ∧ ∃ p1, σ = [some (.ref a), some (.int (0 + (k : Nat))), some (.ref b), some (.int (0 + (k2 : Nat))), some (.ref p1), v5, v6, v7, v8, v9, vA, vB, vC, vD] ∧ H' p1 = some (.tup [s, u, h, g, .str l1, qq, f])) (fun Nx2 hN2 => ?_) ?_
      · (try simp only [tNext, tFor_eq, cBl, tOp, tC, cI, cIc, cAdd, cVar, hEq, hNe, hIn, hNotIn, hLen, hSl, tM1, tBM, cT1, cT1f, cFind3, cSplit, cPart, rNewStrs, hIsS, hTru, tAsg, gName, gSub, tRet, tRetN, tCons, tNil, tTup, tLst, tCB, tNot, tAnd, tNotV, tAndV, tOrV, tOr, V.bl.injEq, V.int.injEq, V.str.injEq, exists_eq_left', exists_eq_left, exists_eq', true_and, and_true, cIsN, L2.start, gTup, gCons, gNil, nox_K, cx_K, tCallF, tSl, tPart, tNoPart, iEnum, RZ.iZipA, iRng1, iRng2, cAbs, List.map_cons, List.map_nil, List.length_cons, List.length_nil, List.replicate, List.cons_append, List.nil_append, List.getElem?_cons_zero, List.getElem?_cons_succ, List.getElem?_nil, List.set_cons_zero, List.set_cons_succ, Nat.reduceAdd, Nat.reduceSub, Nat.zero_add, if_true, if_false, reduceIte, reduceCtorEq, Bool.false_eq_true, decide_eq_true_eq, tDrop, cMin2, cJoin, iList, tDNewK, tLc_eq, iStr, wipe])
        refine slT_at hp4 (by simp only [List.length_cons, List.length_nil]; decide) (ys := [s, u, h, g]) (by rfl) fun p1 hp1 => ?_
        have x1 : Ext H4 (upd H4 p1 (.tup [s, u, h, g])) := Ext.rf.fresh hp1
        have s1 : (upd H4 p1 (.tup [s, u, h, g])) p1 = some (.tup [s, u, h, g]) := upd_self
        generalize (upd H4 p1 (.tup [s, u, h, g])) = G1 at *
        have hp4' := x1 _ _ hp4
        refine cps (R := tIf _ _ _ _ _) (fun v H' => H' = G1 ∧ v = .str l1) ?_ ?_
        case refine_2 =>
          intro Q' hQ
          unfold tIf
          (try simp only [tNext, tFor_eq, cBl, tOp, tC, cI, cIc, cAdd, cVar, hEq, hNe, hIn, hNotIn, hLen, hSl, tM1, tBM, cT1, cT1f, cFind3, cSplit, cPart, rNewStrs, hIsS, hTru, tAsg, gName, gSub, tRet, tRetN, tCons, tNil, tTup, tLst, tCB, tNot, tAnd, tNotV, tAndV, tOrV, tOr, V.bl.injEq, V.int.injEq, V.str.injEq, exists_eq_left', exists_eq_left, exists_eq', true_and, and_true, cIsN, L2.start, gTup, gCons, gNil, nox_K, cx_K, tCallF, tSl, tPart, tNoPart, iEnum, RZ.iZipA, iRng1, iRng2, cAbs, List.map_cons, List.map_nil, List.length_cons, List.length_nil, List.replicate, List.cons_append, List.nil_append, List.getElem?_cons_zero, List.getElem?_cons_succ, List.getElem?_nil, List.set_cons_zero, List.set_cons_succ, Nat.reduceAdd, Nat.reduceSub, Nat.zero_add, if_true, if_false, reduceIte, reduceCtorEq, Bool.false_eq_true, decide_eq_true_eq, tDrop, cMin2, cJoin, iList, tDNewK, tLc_eq, iStr, wipe])
          refine hIx_tup hp4' rfl ?_
          try dsimp only
          by_cases e : l = Str.ofString ""
          · rw [if_pos e]
            exact hQ _ _ ⟨rfl, by rw [el1, if_pos e]⟩
          · rw [if_neg e]
            exact hIx_tup hp4' rfl (hQ _ _ ⟨rfl, by rw [el1, if_neg e]⟩)
        rintro _ G2 ⟨rfl, rfl⟩
        refine ⟨by omega, fun p2 hp2 => ?_⟩
        try dsimp only
        have x2 := x1.fresh (o := .tup [.str l1]) hp2
        have s2 : (upd G2 p2 (.tup [.str l1])) p2 = some (.tup [.str l1]) := upd_self
        have s12 := upd_old (o := .tup [.str l1]) s1 hp2
        have hp42 := upd_old (o := .tup [.str l1]) hp4' hp2
        generalize (upd G2 p2 (.tup [.str l1])) = G3 at *
        refine .inr (catT_ok s12 s2 (by simp) (by simp) (by simp only [List.length_cons, List.length_nil]; omega) fun p3 hp3 => ?_)
        have x3 := x2.fresh (o := .tup ([s, u, h, g] ++ [.str l1])) hp3
        have s3 : (upd G3 p3 (.tup ([s, u, h, g] ++ [.str l1]))) p3 = some (.tup ([s, u, h, g] ++ [.str l1])) := upd_self
        have hp43 := upd_old (o := .tup ([s, u, h, g] ++ [.str l1])) hp42 hp3
        generalize (upd G3 p3 (.tup ([s, u, h, g] ++ [.str l1]))) = G4 at *
        refine slT_at hp43 (by simp only [List.length_cons, List.length_nil]; decide) (ys := [qq, f]) (by rfl) fun p4 hp4n => ?_
        have x4 := x3.fresh (o := .tup [qq, f]) hp4n
        refine .inr (catT_ok (upd_old s3 hp4n) upd_self (by simp) (by simp) (by simp only [List.length_cons, List.length_nil, List.length_append]; omega) fun p5 hp5 => ?_)
        exact hN2 _ _ ⟨x4.fresh hp5, p5, rfl, upd_self⟩
      rintro σ H5 ⟨x5, p1, rfl, hp1⟩
      -- its folder
      refine seqCps (fun σ H' => Ext H5 H' ∧ ∃ z : Str, tl z = fld (tl l1) ∧ z.length ≤ 301 ∧ σ = [some (.ref a), some (.int (0 + (k : Nat))), some (.ref b), some (.int (0 + (k2 : Nat))), some (.ref p1), some (.str z), v6, v7, v8, v9, vA, vB, vC, vD]) (fun Nx2 hN2 => ?_) ?_
      · (try simp only [tNext, tFor_eq, cBl, tOp, tC, cI, cIc, cAdd, cVar, hEq, hNe, hIn, hNotIn, hLen, hSl, tM1, tBM, cT1, cT1f, cFind3, cSplit, cPart, rNewStrs, hIsS, hTru, tAsg, gName, gSub, tRet, tRetN, tCons, tNil, tTup, tLst, tCB, tNot, tAnd, tNotV, tAndV, tOrV, tOr, V.bl.injEq, V.int.injEq, V.str.injEq, exists_eq_left', exists_eq_left, exists_eq', true_and, and_true, cIsN, L2.start, gTup, gCons, gNil, nox_K, cx_K, tCallF, tSl, tPart, tNoPart, iEnum, RZ.iZipA, iRng1, iRng2, cAbs, List.map_cons, List.map_nil, List.length_cons, List.length_nil, List.replicate, List.cons_append, List.nil_append, List.getElem?_cons_zero, List.getElem?_cons_succ, List.getElem?_nil, List.set_cons_zero, List.set_cons_succ, Nat.reduceAdd, Nat.reduceSub, Nat.zero_add, if_true, if_false, reduceIte, reduceCtorEq, Bool.false_eq_true, decide_eq_true_eq, tDrop, cMin2, cJoin, iList, tDNewK, tLc_eq, iStr, wipe])
        refine hIx_tup hp1 rfl (hIx_tup hp1 rfl ?_)
        refine ⟨by omega, hIx_tup hp1 rfl ⟨⟨_, rfl⟩, rfl, by omega, fun ps hps => ?_⟩⟩
        have em : (Txt.split l1 (Str.ofString "/")).map tl = cut 47 (tl l1) := split_cut l1 47 (by decide)
        have hne : Txt.split l1 (Str.ofString "/") ≠ [] := fun e => by
          rw [e] at em
          exact cut_ne _ _ em.symm
        obtain ⟨z, h1, h2⟩ := last_str hne
        have ez : tl z = lastP (tl l1) := by
          unfold lastP
          rw [← em, List.getLast?_map, h2]
          rfl
        refine ⟨1, rfl, hIx_lit upd_self h1 ?_⟩
        have h47m : 47 ∈ tl l1 := by
          cases e : tl l1 with
          | nil => rw [e] at h47; cases h47
          | cons c r => rw [e] at h47; simp at h47; rw [h47]; exact .head _
        have hzl : z.length ≤ l1.length := by
          rw [TL.len_tl, ez, TL.len_tl]
          obtain ⟨a', b', e, hb'⟩ := last_split h47m
          rw [e, lastP_app hb']
          simp only [List.length_append, List.length_cons]
          omega
        refine ⟨by omega, by omega, ?_⟩
        have ed : ((l1.length : Nat) : Int) - ((z.length : Nat) : Int) = ((l1.length - z.length : Nat) : Int) := by omega
        try dsimp only
        rw [ed]
        have ef : tl (cutS l1 none (some ((l1.length - z.length : Nat) : Int))) = fld (tl l1) := by
          rw [sl_to, TL.len_tl l1, TL.len_tl z, ez]
          obtain ⟨a', b', e, hb'⟩ := last_split h47m
          rw [e, fld_app hb', lastP_app hb', take_pre]
        refine hN2 _ _ ⟨Ext.rf.fresh hps, _, ef, ?_, rfl⟩
        rw [TL.len_tl, ef]
        have := fld_len (tl l1)
        rw [← TL.len_tl] at this
        omega
      rintro σ H6 ⟨x6, z, ez, hz, rfl⟩
      have hb6 := (hb4.ext x5).ext x6
      have he6 := (he4.tr x5).tr x6
      have hp6 := x6 _ _ hp1
      clear x5 x6 he4 he3 hp1 hp4 hp0 hk4 hb4
      -- another last segment
      refine seqCps (fun σ H' => Ext H H' ∧ Bg (300 * k2 + 31) H' b ∧ H' p1 = some (.tup [s, u, h, g, .str l1, qq, f]) ∧ ∃ (y x : Str), tl y = fld (tl l1) ++ tl x ∧ 47 ∉ tl x ∧ Nw (SI 4) (tl x) ∧ x.length ≤ 3 ∧ σ = [some (.ref a), some (.int (0 + (k : Nat))), some (.ref b), some (.int (0 + (k2 : Nat))), some (.ref p1), some (.str z), some (.str y), v7, v8, v9, vA, vB, vC, vD]) (fun Nx2 hN2 => ?_) ?_
      · (try simp only [tNext, tFor_eq, cBl, tOp, tC, cI, cIc, cAdd, cVar, hEq, hNe, hIn, hNotIn, hLen, hSl, tM1, tBM, cT1, cT1f, cFind3, cSplit, cPart, rNewStrs, hIsS, hTru, tAsg, gName, gSub, tRet, tRetN, tCons, tNil, tTup, tLst, tCB, tNot, tAnd, tNotV, tAndV, tOrV, tOr, V.bl.injEq, V.int.injEq, V.str.injEq, exists_eq_left', exists_eq_left, exists_eq', true_and, and_true, cIsN, L2.start, gTup, gCons, gNil, nox_K, cx_K, tCallF, tSl, tPart, tNoPart, iEnum, RZ.iZipA, iRng1, iRng2, cAbs, List.map_cons, List.map_nil, List.length_cons, List.length_nil, List.replicate, List.cons_append, List.nil_append, List.getElem?_cons_zero, List.getElem?_cons_succ, List.getElem?_nil, List.set_cons_zero, List.set_cons_succ, Nat.reduceAdd, Nat.reduceSub, Nat.zero_add, if_true, if_false, reduceIte, reduceCtorEq, Bool.false_eq_true, decide_eq_true_eq, tDrop, cMin2, cJoin, iList, tDNewK, tLc_eq, iStr, wipe])
        refine ⟨by omega, fun pl hpl => take_ok (hb6.fresh hpl) (by omega) (by decide) (by decide) fun dd' H7 d0 d1 hb7 hk7 => ?_⟩
        refine hIx_all (hk7 _ _ (hb6.ne hpl) upd_self) d0 d1 fun v hv => ?_
        have hpb : p1 ≠ b := by
          obtain ⟨x, y, zz, e, _⟩ := hb6
          intro e2
          rw [e2, e] at hp6
          cases hp6
        obtain ⟨x, rfl, hx1, hx2, hx3⟩ : ∃ x : Str, v = .str x ∧ 47 ∉ tl x ∧ Nw (SI 4) (tl x) ∧ x.length ≤ 3 := by
          simp only [List.mem_cons, List.not_mem_nil, or_false] at hv
          rcases hv with rfl | rfl | rfl | rfl <;> exact ⟨_, rfl, by decide +kernel, Nw.lit (by decide +kernel), by decide⟩
        refine ⟨by omega, hN2 _ _ ⟨(he6.fresh hpl).kp hbn hk7, hb7.mono (by omega), hk7 _ _ hpb (upd_old hp6 hpl), z ++ x, x, by rw [TL.tl_append, ez], hx1, hx2, hx3, rfl⟩⟩
      rintro σ H7 ⟨he7, hb7, hp7, y, x, ey, hx47, hxn, hxl, rfl⟩
      have ofv : OkU 300 [s, u, h, g, .str l1, qq, f] := by
        by_cases e : l = Str.ofString ""
        · have e1 : l1 = Str.ofString "/" := by rw [el1, if_pos e]
          rw [e1]
          have hh : h ≠ .non := fun z => by
            have := (isB_iff.mp bv).2 z
            rw [e] at this
            cases this
          refine OkU.of ⟨d.p0, d.p1, d.p2, d.p3, isP4.mpr (Nw.lit (by decide +kernel)), d.p5, d.p6, d.n1, d.n2, ?_⟩ fun v hv => ?_
          · rw [show isNo h = false from decide_eq_false hh]
            exact poss_host.mpr (.inr (by decide +kernel))
          · simp only [List.mem_cons, List.not_mem_nil, or_false] at hv
            rcases hv with rfl | rfl | rfl | rfl | rfl | rfl | rfl
            · exact lv _ (.head _)
            · exact lv _ (.tail _ (.head _))
            · exact lv _ (.tail _ (.tail _ (.head _)))
            · exact lv _ (.tail _ (.tail _ (.tail _ (.head _))))
            · exact .inr ⟨_, rfl, by decide⟩
            · exact lv _ (.tail _ (.tail _ (.tail _ (.tail _ (.tail _ (.head _))))))
            · exact lv _ (.tail _ (.tail _ (.tail _ (.tail _ (.tail _ (.tail _ (.head _)))))))
        · rw [show l1 = l by rw [el1, if_neg e]]
          exact ov
      have d1 := due_iff.mp ofv.due
      have hyl : y.length ≤ 310 := by
        have := fld_len (tl l1)
        rw [TL.len_tl, ey, List.length_append, ← TL.len_tl x]
        rw [← TL.len_tl] at this
        omega
      have hy47 : (tl y).take 1 = [47] := by rw [ey]; exact fld_take _ _ (.inr h47)
      have efy : fld (tl y) = fld (tl l1) := by
        obtain ⟨A, eA, _⟩ := fld_form (tl l1)
        rw [ey, eA, List.append_assoc, List.singleton_append]
        exact fld_app hx47
      have nwy : Nw (SI 4) (tl y) := by
        rw [ey]
        exact (nw_fld SI4_47 (isP4.mp d1.p4)).app hxn
      have bv1 : isB [s, u, h, g, .str l1, qq, f] = true := isB_iff.mpr ⟨(isB_iff.mp bv).1, fun _ => h47⟩
      have hpy : poss (isNo s) (isNo h) (tl y) = true := by
        refine poss_slash hy47 fun e2 => ?_
        rw [ey]
        have hl2 : (tl l1).take 2 ≠ [47, 47] := by
          have := d1.ps
          rw [e2] at this
          intro e3
          unfold poss at this
          have e3' : (oT (.str l1)).take 2 = [47, 47] := e3
          rw [if_neg (by decide), if_pos e3'] at this
          cases this
        have h47m : 47 ∈ tl l1 := by
          cases e : tl l1 with
          | nil => rw [e] at h47; cases h47
          | cons c r => rw [e] at h47; simp at h47; rw [h47]; exact .head _
        obtain ⟨a', b', e, hb'⟩ := last_split h47m
        rw [e, fld_app hb']
        rw [e] at hl2 h47
        cases a' with
        | nil =>
          cases hx : tl x with
          | nil => simp
          | cons c r =>
            intro z
            have : c = 47 := by simpa using z
            rw [hx, this] at hx47
            exact hx47 (.head _)
        | cons c a' =>
          have hc : c = 47 := by simpa using h47
          subst hc
          cases a' with
          | nil => exact absurd (by simp) hl2
          | cons c2 a' =>
            intro z
            exact hl2 (by simpa using z)
      have okt : ∀ q2 f2 : V, isP 5 q2 = true → isP 6 f2 = true → Lv 10 q2 → Lv 10 f2 → OkU 310 [s, u, h, g, .str y, q2, f2] := fun q2 f2 h5 h6 l5 l6 => by
        refine OkU.of ⟨d.p0, d.p1, d.p2, d.p3, isP4.mpr nwy, h5, h6, d.n1, d.n2, hpy⟩ fun v hv => ?_
        simp only [List.mem_cons, List.not_mem_nil, or_false] at hv
        rcases hv with rfl | rfl | rfl | rfl | rfl | rfl | rfl
        · exact (lv _ (.head _)).mono (by decide)
        · exact (lv _ (.tail _ (.head _))).mono (by decide)
        · exact (lv _ (.tail _ (.tail _ (.head _)))).mono (by decide)
        · exact (lv _ (.tail _ (.tail _ (.tail _ (.head _))))).mono (by decide)
        · exact .inr ⟨_, rfl, hyl⟩
        · exact l5.mono (by decide)
        · exact l6.mono (by decide)
      have bvt : ∀ q2 f2 : V, isB [s, u, h, g, .str y, q2, f2] = true := fun q2 f2 => isB_iff.mpr ⟨(isB_iff.mp bv).1, fun _ => hy47⟩
      -- the twin
      refine seqCps (fun σ H' => Ext H H' ∧ Bg (300 * k2 + 33) H' b ∧ H' p1 = some (.tup [s, u, h, g, .str l1, qq, f]) ∧ ∃ (p2 : Addr) (q2 f2 : V), H' p2 = some (.tup [s, u, h, g, .str y, q2, f2]) ∧ isP 5 q2 = true ∧ isP 6 f2 = true ∧ Lv 10 q2 ∧ Lv 10 f2 ∧ σ = [some (.ref a), some (.int (0 + (k : Nat))), some (.ref b), some (.int (0 + (k2 : Nat))), some (.ref p1), some (.str z), some (.str y), some (.ref p2), v8, v9, vA, vB, vC, vD]) (fun Nx2 hN2 => ?_) ?_
      · (try simp only [tNext, tFor_eq, cBl, tOp, tC, cI, cIc, cAdd, cVar, hEq, hNe, hIn, hNotIn, hLen, hSl, tM1, tBM, cT1, cT1f, cFind3, cSplit, cPart, rNewStrs, hIsS, hTru, tAsg, gName, gSub, tRet, tRetN, tCons, tNil, tTup, tLst, tCB, tNot, tAnd, tNotV, tAndV, tOrV, tOr, V.bl.injEq, V.int.injEq, V.str.injEq, exists_eq_left', exists_eq_left, exists_eq', true_and, and_true, cIsN, L2.start, gTup, gCons, gNil, nox_K, cx_K, tCallF, tSl, tPart, tNoPart, iEnum, RZ.iZipA, iRng1, iRng2, cAbs, List.map_cons, List.map_nil, List.length_cons, List.length_nil, List.replicate, List.cons_append, List.nil_append, List.getElem?_cons_zero, List.getElem?_cons_succ, List.getElem?_nil, List.set_cons_zero, List.set_cons_succ, Nat.reduceAdd, Nat.reduceSub, Nat.zero_add, if_true, if_false, reduceIte, reduceCtorEq, Bool.false_eq_true, decide_eq_true_eq, tDrop, cMin2, cJoin, iList, tDNewK, tLc_eq, iStr, wipe])
        refine slT_at hp7 (by simp only [List.length_cons, List.length_nil]; decide) (ys := [s, u, h, g]) (by rfl) fun t1 ht1 => ?_
        have he8 := he7.fresh (o := .tup [s, u, h, g]) ht1
        have hb8 := hb7.fresh (o := .tup [s, u, h, g]) ht1
        have hp8 := upd_old (o := .tup [s, u, h, g]) hp7 ht1
        have s1 : (upd H7 t1 (.tup [s, u, h, g])) t1 = some (.tup [s, u, h, g]) := upd_self
        generalize (upd H7 t1 (.tup [s, u, h, g])) = G1 at *
        have nb : ∀ {G : Hp} {m : Nat} {p : Addr} {xs : List V}, Bg m G b → G p = some (.tup xs) → p ≠ b := fun {G} {m} {p} {xs} hb h1 e => by
          obtain ⟨_, _, _, e2, _⟩ := hb
          rw [e, e2] at h1
          cases h1
        refine ⟨by omega, fun pl hpl => take_ok (hb8.fresh hpl) (by omega) (by decide) (by decide) fun dd' G2 d0 d1' hb9 hk9 => ?_⟩
        refine hIx_all (hk9 _ _ (hb8.ne hpl) upd_self) d0 d1' fun q2 hq2 => ?_
        have he9 := (he8.fresh (o := .lst [V.non, .str (Str.ofString "mq")]) hpl).kp hbn hk9
        have hp9 := hk9 _ _ (nb hb8 hp8) (upd_old hp8 hpl)
        have s9 := hk9 _ _ (nb hb8 s1) (upd_old s1 hpl)
        have p5 : isP 5 q2 = true ∧ Lv 10 q2 := by
          simp only [List.mem_cons, List.not_mem_nil, or_false] at hq2
          rcases hq2 with rfl | rfl
          · exact ⟨rfl, .inl rfl⟩
          · exact ⟨by decide +kernel, .inr ⟨_, rfl, by decide⟩⟩
        refine ⟨by omega, fun pm hpm => take_ok (hb9.fresh hpm) (by omega) (by decide) (by decide) fun dd2 G3 e0 e1 hb10 hk10 => ?_⟩
        refine hIx_all (hk10 _ _ (hb9.ne hpm) upd_self) e0 e1 fun f2 hf2 => ?_
        have he10 := (he9.fresh (o := .lst [V.non, .str (Str.ofString "mf")]) hpm).kp hbn hk10
        have hp10 := hk10 _ _ (nb hb9 hp9) (upd_old hp9 hpm)
        have s10 := hk10 _ _ (nb hb9 s9) (upd_old s9 hpm)
        have p6 : isP 6 f2 = true ∧ Lv 10 f2 := by
          simp only [List.mem_cons, List.not_mem_nil, or_false] at hf2
          rcases hf2 with rfl | rfl
          · exact ⟨rfl, .inl rfl⟩
          · exact ⟨by decide +kernel, .inr ⟨_, rfl, by decide⟩⟩
        refine ⟨by omega, fun pt hpt => ?_⟩
        try dsimp only
        refine .inr (catT_ok (upd_old s10 hpt) upd_self (by simp) (by simp) (by simp only [List.length_cons, List.length_nil]; omega) fun pz hpz => ?_)
        exact hN2 _ _ ⟨(he10.fresh hpt).fresh hpz, ((hb10.fresh hpt).fresh hpz).mono (by omega), upd_old (upd_old hp10 hpt) hpz, pz, q2, f2, upd_self, p5.1, p6.1, p5.2, p6.2, rfl⟩
      rintro σ H8 ⟨he8, hb8, hp8, p2, q2, f2, hp28, i5, i6, l5, l6, rfl⟩
      have okt := okt q2 f2 i5 i6 l5 l6
      have bvt := bvt q2 f2
      refine seqStep ?_
      unfold tPar
      (try simp only [tNext, tFor_eq, cBl, tOp, tC, cI, cIc, cAdd, cVar, hEq, hNe, hIn, hNotIn, hLen, hSl, tM1, tBM, cT1, cT1f, cFind3, cSplit, cPart, rNewStrs, hIsS, hTru, tAsg, gName, gSub, tRet, tRetN, tCons, tNil, tTup, tLst, tCB, tNot, tAnd, tNotV, tAndV, tOrV, tOr, V.bl.injEq, V.int.injEq, V.str.injEq, exists_eq_left', exists_eq_left, exists_eq', true_and, and_true, cIsN, L2.start, gTup, gCons, gNil, nox_K, cx_K, tCallF, tSl, tPart, tNoPart, iEnum, RZ.iZipA, iRng1, iRng2, cAbs, List.map_cons, List.map_nil, List.length_cons, List.length_nil, List.replicate, List.cons_append, List.nil_append, List.getElem?_cons_zero, List.getElem?_cons_succ, List.getElem?_nil, List.set_cons_zero, List.set_cons_succ, Nat.reduceAdd, Nat.reduceSub, Nat.zero_add, if_true, if_false, reduceIte, reduceCtorEq, Bool.false_eq_true, decide_eq_true_eq, tDrop, cMin2, cJoin, iList, tDNewK, tLc_eq, iStr, wipe])
      refine url_ok hp8 ofv (by decide) fun a1 H9 x9 ha1 _ => ?_
      refine url_ok (x9 _ _ hp28) okt (by decide) fun a2 H10 x10 ha2 _ => ⟨_, _, rfl, ?_⟩
      have ha1 := ha1.ext x10
      have he10 := (he8.tr x9).tr x10
      have hb10 := (hb8.ext x9).ext x10
      have hp10 := x10 _ _ (x9 _ _ hp8)
      try simp only [List.set_cons_zero, List.set_cons_succ]
      (try simp only [tNext, tFor_eq, cBl, tOp, tC, cI, cIc, cAdd, cVar, hEq, hNe, hIn, hNotIn, hLen, hSl, tM1, tBM, cT1, cT1f, cFind3, cSplit, cPart, rNewStrs, hIsS, hTru, tAsg, gName, gSub, tRet, tRetN, tCons, tNil, tTup, tLst, tCB, tNot, tAnd, tNotV, tAndV, tOrV, tOr, V.bl.injEq, V.int.injEq, V.str.injEq, exists_eq_left', exists_eq_left, exists_eq', true_and, and_true, cIsN, L2.start, gTup, gCons, gNil, nox_K, cx_K, tCallF, tSl, tPart, tNoPart, iEnum, RZ.iZipA, iRng1, iRng2, cAbs, List.map_cons, List.map_nil, List.length_cons, List.length_nil, List.replicate, List.cons_append, List.nil_append, List.getElem?_cons_zero, List.getElem?_cons_succ, List.getElem?_nil, List.set_cons_zero, List.set_cons_succ, Nat.reduceAdd, Nat.reduceSub, Nat.zero_add, if_true, if_false, reduceIte, reduceCtorEq, Bool.false_eq_true, decide_eq_true_eq, tDrop, cMin2, cJoin, iList, tDNewK, tLc_eq, iStr, wipe])
      refine ⟨6, rfl, by omega, by omega, ?_⟩
      refine lp_range (fun k3 σ H' => Ext H H' ∧ Bg (300 * k2 + 33 + 30 * k3) H' b ∧ UrlAt K H' a1 [s, u, h, g, .str l1, qq, f] ∧ UrlAt K H' a2 [s, u, h, g, .str y, q2, f2] ∧ H' p1 = some (.tup [s, u, h, g, .str l1, qq, f]) ∧ ∃ w1 w2 w3 w4, σ = [some (.ref a), some (.int (0 + (k : Nat))), some (.ref b), some (.int (0 + (k2 : Nat))), some (.ref p1), some (.str z), some (.str y), some (.ref p2), some (.ref a1), some (.ref a2), w1, w2, w3, w4]) ⟨he10, hb10, ha1, ha2, hp10, _, _, _, _, rfl⟩ ?_ ?_
      case refine_2 =>
        rintro σ H' ⟨e1, e2, _, _, _, w1, w2, w3, w4, rfl⟩
        exact ⟨e1, e2.mono (by simp; omega), _, _, _, _, _, _, _, _, _, _, _, rfl⟩
      rintro k3 σ H11 hk3 ⟨he11, hb11, ha1, ha2, hp11, w1, w2, w3, w4, rfl⟩
      have hk3 : k3 < 6 := hk3
      refine seqStep ?_
      (try simp only [tNext, tFor_eq, cBl, tOp, tC, cI, cIc, cAdd, cVar, hEq, hNe, hIn, hNotIn, hLen, hSl, tM1, tBM, cT1, cT1f, cFind3, cSplit, cPart, rNewStrs, hIsS, hTru, tAsg, gName, gSub, tRet, tRetN, tCons, tNil, tTup, tLst, tCB, tNot, tAnd, tNotV, tAndV, tOrV, tOr, V.bl.injEq, V.int.injEq, V.str.injEq, exists_eq_left', exists_eq_left, exists_eq', true_and, and_true, cIsN, L2.start, gTup, gCons, gNil, nox_K, cx_K, tCallF, tSl, tPart, tNoPart, iEnum, RZ.iZipA, iRng1, iRng2, cAbs, List.map_cons, List.map_nil, List.length_cons, List.length_nil, List.replicate, List.cons_append, List.nil_append, List.getElem?_cons_zero, List.getElem?_cons_succ, List.getElem?_nil, List.set_cons_zero, List.set_cons_succ, Nat.reduceAdd, Nat.reduceSub, Nat.zero_add, if_true, if_false, reduceIte, reduceCtorEq, Bool.false_eq_true, decide_eq_true_eq, tDrop, cMin2, cJoin, iList, tDNewK, tLc_eq, iStr, wipe])
      refine dref_ok hb11 (by omega) fun pr ws H12 hr12 hr120 hrb ow hb12 hk12 => ?_
      have nb : ∀ {G : Hp} {m : Nat} {p : Addr} {xs : List V}, Bg m G b → G p = some (.tup xs) → p ≠ b := fun {G} {m} {p} {xs} hb h1 e => by
        obtain ⟨_, _, _, e2, _⟩ := hb
        rw [e, e2] at h1
        cases h1
      have he12 := he11.kp hbn hk12
      have ha1 := ha1.kpB hb11 hk12
      have ha2 := ha2.kpB hb11 hk12
      have hp12 := hk12 _ _ (nb hb11 hp11) hp11
      clear hk12 hr120 hp11 hb11 he11
      have ow := ow.1
      obtain ⟨⟨s', u', h', g', l', q', f', rfl⟩, dw, lw⟩ := id ow
      have d' := due_iff.mp dw
      -- a path that is not empty
      refine seqCps (fun σ H' => Ext H12 H' ∧ ∃ (pr : Addr) (ws : List V), H' pr = some (.tup ws) ∧ OkU 300 ws ∧ ¬ (ws.getD 0 .non = .non ∧ ws.getD 2 .non = .non ∧ ws.getD 4 .non = eV) ∧ σ = [some (.ref a), some (.int (0 + (k : Nat))), some (.ref b), some (.int (0 + (k2 : Nat))), some (.ref p1), some (.str z), some (.str y), some (.ref p2), some (.ref a1), some (.ref a2), some (.int (0 + (k3 : Nat))), some (.ref pr), w3, w4]) (fun Nx2 hN2 => ?_) ?_
      · unfold tIfS
        (try simp only [tNext, tFor_eq, cBl, tOp, tC, cI, cIc, cAdd, cVar, hEq, hNe, hIn, hNotIn, hLen, hSl, tM1, tBM, cT1, cT1f, cFind3, cSplit, cPart, rNewStrs, hIsS, hTru, tAsg, gName, gSub, tRet, tRetN, tCons, tNil, tTup, tLst, tCB, tNot, tAnd, tNotV, tAndV, tOrV, tOr, V.bl.injEq, V.int.injEq, V.str.injEq, exists_eq_left', exists_eq_left, exists_eq', true_and, and_true, cIsN, L2.start, gTup, gCons, gNil, nox_K, cx_K, tCallF, tSl, tPart, tNoPart, iEnum, RZ.iZipA, iRng1, iRng2, cAbs, List.map_cons, List.map_nil, List.length_cons, List.length_nil, List.replicate, List.cons_append, List.nil_append, List.getElem?_cons_zero, List.getElem?_cons_succ, List.getElem?_nil, List.set_cons_zero, List.set_cons_succ, Nat.reduceAdd, Nat.reduceSub, Nat.zero_add, if_true, if_false, reduceIte, reduceCtorEq, Bool.false_eq_true, decide_eq_true_eq, tDrop, cMin2, cJoin, iList, tDNewK, tLc_eq, iStr, wipe])
        refine hIx_tup hr12 rfl ?_
        by_cases c1 : s' = .non
        · rw [if_pos c1]
          refine hIx_tup hr12 rfl ?_
          by_cases c2 : h' = .non
          · rw [if_pos c2]
            refine hIx_tup hr12 rfl ?_
            try dsimp only
            by_cases c3 : l' = Str.ofString ""
            · rw [if_pos c3]
              refine slT_at hr12 (by simp only [List.length_cons, List.length_nil]; decide) (ys := [s', u', h', g']) (by rfl) fun t1 ht1 => ?_
              refine ⟨by omega, fun t2 ht2 => ?_⟩
              try dsimp only
              refine .inr (catT_ok (upd_old upd_self ht2) upd_self (by simp) (by simp) (by simp only [List.length_cons, List.length_nil]; omega) fun t3 ht3 => ?_)
              refine slT_at (upd_old (upd_old (upd_old hr12 ht1) ht2) ht3) (by simp only [List.length_cons, List.length_nil]; decide) (ys := [q', f']) (by rfl) fun t4 ht4 => ?_
              refine .inr (catT_ok (upd_old upd_self ht4) upd_self (by simp) (by simp) (by simp only [List.length_cons, List.length_nil, List.length_append]; omega) fun t5 ht5 => ?_)
              refine hN2 _ _ ⟨((((Ext.rf.fresh ht1).fresh ht2).fresh ht3).fresh ht4).fresh ht5, t5, [s', u', h', g', .str (Str.ofString "k/.."), q', f'], upd_self, ?_, ?_, rfl⟩
              · refine OkU.of ⟨d'.p0, d'.p1, d'.p2, d'.p3, isP4.mpr (Nw.lit (by decide +kernel)), d'.p5, d'.p6, d'.n1, d'.n2, ?_⟩ fun v hv => ?_
                · rw [c1, c2]; decide +kernel
                · simp only [List.mem_cons, List.not_mem_nil, or_false] at hv
                  rcases hv with rfl | rfl | rfl | rfl | rfl | rfl | rfl
                  · exact lw _ (.head _)
                  · exact lw _ (.tail _ (.head _))
                  · exact lw _ (.tail _ (.tail _ (.head _)))
                  · exact lw _ (.tail _ (.tail _ (.tail _ (.head _))))
                  · exact .inr ⟨_, rfl, by decide⟩
                  · exact lw _ (.tail _ (.tail _ (.tail _ (.tail _ (.tail _ (.head _))))))
                  · exact lw _ (.tail _ (.tail _ (.tail _ (.tail _ (.tail _ (.tail _ (.head _)))))))
              · exact fun z => absurd (V.str.inj (show V.str (Str.ofString "k/..") = V.str (Str.ofString "") from z.2.2)) (by decide)
            · rw [if_neg c3]
              exact hN2 _ _ ⟨Ext.rf, pr, _, hr12, ow, fun z => c3 (V.str.inj z.2.2), rfl⟩
          · rw [if_neg c2]
            exact hN2 _ _ ⟨Ext.rf, pr, _, hr12, ow, fun z => c2 z.2.1, rfl⟩
        · rw [if_neg c1]
          exact hN2 _ _ ⟨Ext.rf, pr, _, hr12, ow, fun z => c1 z.1, rfl⟩
      clear ow dw lw d' hr12
      rintro σ H13 ⟨x13, pr, ws, hr13, ow, hwn, rfl⟩
      have he13 := he12.tr x13
      have ha1 := ha1.ext x13
      have ha2 := ha2.ext x13
      have hb13 := hb12.ext x13
      have hp13 := x13 _ _ hp12
      have ej := join_twin (s := s) (u := u) (h := h) (g := g) (q1 := qq) (f1 := f) (q2 := q2) (f2 := f2) ow efy.symm hwn
      have oj := okU_join ofv ow bv1
      obtain ⟨S, U, A, Pp, L, Q', F, fd⟩ := found_of ofv ow bv1
      have hlead := fd.lead ofv.l7
      rw [fd.e] at oj ej
      have hll : L.length ≤ 610 := by
        rcases oj.len (.str L) (by simp) with e | ⟨t, e, ht⟩
        · cases e
        · cases e; exact ht
      refine seqStep ?_
      (try simp only [tNext, tFor_eq, cBl, tOp, tC, cI, cIc, cAdd, cVar, hEq, hNe, hIn, hNotIn, hLen, hSl, tM1, tBM, cT1, cT1f, cFind3, cSplit, cPart, rNewStrs, hIsS, hTru, tAsg, gName, gSub, tRet, tRetN, tCons, tNil, tTup, tLst, tCB, tNot, tAnd, tNotV, tAndV, tOrV, tOr, V.bl.injEq, V.int.injEq, V.str.injEq, exists_eq_left', exists_eq_left, exists_eq', true_and, and_true, cIsN, L2.start, gTup, gCons, gNil, nox_K, cx_K, tCallF, tSl, tPart, tNoPart, iEnum, RZ.iZipA, iRng1, iRng2, cAbs, List.map_cons, List.map_nil, List.length_cons, List.length_nil, List.replicate, List.cons_append, List.nil_append, List.getElem?_cons_zero, List.getElem?_cons_succ, List.getElem?_nil, List.set_cons_zero, List.set_cons_succ, Nat.reduceAdd, Nat.reduceSub, Nat.zero_add, if_true, if_false, reduceIte, reduceCtorEq, Bool.false_eq_true, decide_eq_true_eq, tDrop, cMin2, cJoin, iList, tDNewK, tLc_eq, iStr, wipe])
      refine url_ok hr13 ow (by decide) fun a3 H14 x14 ha3 _ => ?_
      refine seqStep ?_
      (try simp only [tNext, tFor_eq, cBl, tOp, tC, cI, cIc, cAdd, cVar, hEq, hNe, hIn, hNotIn, hLen, hSl, tM1, tBM, cT1, cT1f, cFind3, cSplit, cPart, rNewStrs, hIsS, hTru, tAsg, gName, gSub, tRet, tRetN, tCons, tNil, tTup, tLst, tCB, tNot, tAnd, tNotV, tAndV, tOrV, tOr, V.bl.injEq, V.int.injEq, V.str.injEq, exists_eq_left', exists_eq_left, exists_eq', true_and, and_true, cIsN, L2.start, gTup, gCons, gNil, nox_K, cx_K, tCallF, tSl, tPart, tNoPart, iEnum, RZ.iZipA, iRng1, iRng2, cAbs, List.map_cons, List.map_nil, List.length_cons, List.length_nil, List.replicate, List.cons_append, List.nil_append, List.getElem?_cons_zero, List.getElem?_cons_succ, List.getElem?_nil, List.set_cons_zero, List.set_cons_succ, Nat.reduceAdd, Nat.reduceSub, Nat.zero_add, if_true, if_false, reduceIte, reduceCtorEq, Bool.false_eq_true, decide_eq_true_eq, tDrop, cMin2, cJoin, iList, tDNewK, tLc_eq, iStr, wipe])
      refine join_ok (ha1.ext x14) ha3 ofv ow (by decide) (by decide) bv1 fun af H15 x15 haf _ => ?_
      rw [fd.e] at haf
      have xx := x14.tr x15
      refine seqStep ?_
      unfold tIfS
      (try simp only [tNext, tFor_eq, cBl, tOp, tC, cI, cIc, cAdd, cVar, hEq, hNe, hIn, hNotIn, hLen, hSl, tM1, tBM, cT1, cT1f, cFind3, cSplit, cPart, rNewStrs, hIsS, hTru, tAsg, gName, gSub, tRet, tRetN, tCons, tNil, tTup, tLst, tCB, tNot, tAnd, tNotV, tAndV, tOrV, tOr, V.bl.injEq, V.int.injEq, V.str.injEq, exists_eq_left', exists_eq_left, exists_eq', true_and, and_true, cIsN, L2.start, gTup, gCons, gNil, nox_K, cx_K, tCallF, tSl, tPart, tNoPart, iEnum, RZ.iZipA, iRng1, iRng2, cAbs, List.map_cons, List.map_nil, List.length_cons, List.length_nil, List.replicate, List.cons_append, List.nil_append, List.getElem?_cons_zero, List.getElem?_cons_succ, List.getElem?_nil, List.set_cons_zero, List.set_cons_succ, Nat.reduceAdd, Nat.reduceSub, Nat.zero_add, if_true, if_false, reduceIte, reduceCtorEq, Bool.false_eq_true, decide_eq_true_eq, tDrop, cMin2, cJoin, iList, tDNewK, tLc_eq, iStr, wipe])
      refine join_ok (ha2.ext xx) (ha3.ext x15) okt ow (by decide) (by decide) bvt fun ag H16 x16 hag _ => ?_
      rw [← ej] at hag
      refine ne_u hag (haf.ext x16) oj oj (by decide) (by decide) ?_
      simp only [decide_true, if_true, Bool.not_true, Bool.false_eq_true, if_false]
      have xx := xx.tr x16
      have haf := haf.ext x16
      have go : ∀ {H' : Hp}, Ext H13 H' → (Ext H H' ∧ Bg (300 * k2 + 33 + 30 * (k3 + 1)) H' b ∧ UrlAt K H' a1 [s, u, h, g, .str l1, qq, f] ∧ UrlAt K H' a2 [s, u, h, g, .str y, q2, f2] ∧ H' p1 = some (.tup [s, u, h, g, .str l1, qq, f]) ∧ ∃ w1' w2' w3' w4', [some (.ref a), some (.int (0 + (k : Nat))), some (.ref b), some (.int (0 + (k2 : Nat))), some (.ref p1), some (.str z), some (.str y), some (.ref p2), some (.ref a1), some (.ref a2), some (V.int (0 + (k3 : Nat))), some (V.ref pr), some (V.ref a3), some (V.ref af)] = [some (.ref a), some (.int (0 + (k : Nat))), some (.ref b), some (.int (0 + (k2 : Nat))), some (.ref p1), some (.str z), some (.str y), some (.ref p2), some (.ref a1), some (.ref a2), w1', w2', w3', w4']) := fun e => ⟨he13.tr e, (hb13.ext e).mono (by omega), ha1.ext e, ha2.ext e, e _ _ hp13, _, _, _, _, rfl⟩
      try unfold tIfS
      (try simp only [tNext, tFor_eq, cBl, tOp, tC, cI, cIc, cAdd, cVar, hEq, hNe, hIn, hNotIn, hLen, hSl, tM1, tBM, cT1, cT1f, cFind3, cSplit, cPart, rNewStrs, hIsS, hTru, tAsg, gName, gSub, tRet, tRetN, tCons, tNil, tTup, tLst, tCB, tNot, tAnd, tNotV, tAndV, tOrV, tOr, V.bl.injEq, V.int.injEq, V.str.injEq, exists_eq_left', exists_eq_left, exists_eq', true_and, and_true, cIsN, L2.start, gTup, gCons, gNil, nox_K, cx_K, tCallF, tSl, tPart, tNoPart, iEnum, RZ.iZipA, iRng1, iRng2, cAbs, List.map_cons, List.map_nil, List.length_cons, List.length_nil, List.replicate, List.cons_append, List.nil_append, List.getElem?_cons_zero, List.getElem?_cons_succ, List.getElem?_nil, List.set_cons_zero, List.set_cons_succ, Nat.reduceAdd, Nat.reduceSub, Nat.zero_add, if_true, if_false, reduceIte, reduceCtorEq, Bool.false_eq_true, decide_eq_true_eq, tDrop, cMin2, cJoin, iList, tDNewK, tLc_eq, iStr, wipe])
      refine prop_n rfl haf rfl rfl ?_
      refine hIx_tup (xx _ _ hp13) rfl ?_
      refine ⟨by omega, fun pt hpt => ?_⟩
      try dsimp only
      refine ⟨_, .inr (.inl (Rd.of upd_self)), rfl, rfl, ?_⟩
      have xt := xx.fresh (o := .tup [.str l1, .str y]) hpt
      have haf := haf.ext (Ext.rf.fresh (o := .tup [.str l1, .str y]) hpt)
      generalize (upd H16 pt (.tup [.str l1, .str y])) = H17 at *
      have hin : inV (.str L) [.str l1, .str y] = decide (L = l1 ∨ L = y) := by
        show (decide (l1 = L) || (decide (y = L) || false)) = _
        by_cases e1 : l1 = L
        · rw [decide_eq_true e1, decide_eq_true (show L = l1 ∨ L = y from .inl e1.symm)]; rfl
        · by_cases e2 : y = L
          · rw [decide_eq_true e2, decide_eq_true (show L = l1 ∨ L = y from .inr e2.symm), decide_eq_false e1]; rfl
          · rw [decide_eq_false e1, decide_eq_false e2, decide_eq_false (fun z => z.elim (fun z => e1 z.symm) (fun z => e2 z.symm))]; rfl
      rw [hin]
      by_cases hL : L = l1 ∨ L = y
      · rw [decide_eq_true hL]
        simp only [if_true, Bool.not_true, Bool.false_eq_true, if_false]
        exact go xt
      · rw [decide_eq_false hL]
        simp only [Bool.not_false, if_true]
        obtain ⟨c, ec⟩ := minF_some (leadL [s, u, h, g, .str l1, qq, f] [S, U, A, Pp, .str L, Q', F]) none (.inl hlead)
        have ec : relV [s, u, h, g, .str l1, qq, f] [S, U, A, Pp, .str L, Q', F] = some c := ec
        have ec2 := rel_twin (s := s) (u := u) (h := h) (g := g) (q1 := qq) (f1 := f) (q2 := q2) (f2 := f2) (S := S) (U := U) (A := A) (P := Pp) (Q := Q') (F := F) efy.symm (fun z => hL (.inl z)) (fun z => hL (.inr z))
        rw [ec] at ec2
        have okc := (lead_okn ofv oj bv1 c (rel_mem ec)).1
        refine rel_ok (ha1.ext xt) haf ofv oj (by decide) (by decide) bv1 fun H18 x18 => ?_
        rw [ec]
        intro c1 hc1
        refine rel_ok ((ha2.ext xt).ext x18) (haf.ext x18) okt oj (by decide) (by decide) bvt fun H19 x19 => ?_
        rw [← ec2]
        intro c2 hc2
        refine ne_u (hc1.ext x19) hc2 okc okc (by decide) (by decide) ?_
        simp only [decide_true, if_true, Bool.not_true, Bool.false_eq_true, if_false]
        exact go ((xt.tr x18).tr x19)
    · rintro σ H1 ⟨he, hl⟩
      (try simp only [tNext, tFor_eq, cBl, tOp, tC, cI, cIc, cAdd, cVar, hEq, hNe, hIn, hNotIn, hLen, hSl, tM1, tBM, cT1, cT1f, cFind3, cSplit, cPart, rNewStrs, hIsS, hTru, tAsg, gName, gSub, tRet, tRetN, tCons, tNil, tTup, tLst, tCB, tNot, tAnd, tNotV, tAndV, tOrV, tOr, V.bl.injEq, V.int.injEq, V.str.injEq, exists_eq_left', exists_eq_left, exists_eq', true_and, and_true, cIsN, L2.start, gTup, gCons, gNil, nox_K, cx_K, tCallF, tSl, tPart, tNoPart, iEnum, RZ.iZipA, iRng1, iRng2, cAbs, List.map_cons, List.map_nil, List.length_cons, List.length_nil, List.replicate, List.cons_append, List.nil_append, List.getElem?_cons_zero, List.getElem?_cons_succ, List.getElem?_nil, List.set_cons_zero, List.set_cons_succ, Nat.reduceAdd, Nat.reduceSub, Nat.zero_add, if_true, if_false, reduceIte, reduceCtorEq, Bool.false_eq_true, decide_eq_true_eq, tDrop, cMin2, cJoin, iList, tDNewK, tLc_eq, iStr, wipe])
      exact q _
end
end Da
set_option Elab.async false
set_option linter.all false
set_option maxRecDepth 100000
set_option maxHeartbeats 0
namespace Da
open PySem PySem.Spec PyProof.Rows L2 Hd Xs Fx
theorem facts {P : Program} {w : World} {K : PySem.W.Frag} {h : Heap} {mg : Str → Option Value} {f : Addr} (X : K.In h) (G : h.Ns mainGlobals mg) (hfa : mg ("law" : Str) = some (.ref f)) (c : Xb.Says fa fn ts ex w K) :
    ∃ fd : FuncData, (∀ (s : Shared) (v : Value), BindsTo s fd ⟨[v], []⟩ [("script", v)]) ∧ ∀ base : Heap, K.In base → base.Ns mainGlobals mg → FnOk P w K mg base CX0 15 f fd ["script"] (spLaw K) := by
  have C : Ct w K mg := ⟨c, h, X, G⟩
  have e := hfa.symm.trans (g_law C)
  cases e
  obtain ⟨fd, F⟩ := F_law C
  have b := FunD.bindsA (ps := ["script"]) F fun _ _ _ _ _ _ us hl => match us, hl with | [_], _ => rfl
  exact ⟨fd, fun s v => b s [v] rfl, fun base _ _ => law_fn C F⟩
end Da
open PySem PySem.W PySem.Calls PyProof.Rows
set_option maxRecDepth 100000 in
set_option maxHeartbeats 0 in
theorem PySem.Challenge.cw_urlplaces_k40_whole_only_the_directory_c_holds : PySem.Challenge.rw_urlplaces_k40_whole_only_the_directory_c.Holds := by
  w_on; o_law
  refine HandSHeadRun.head_any (r := Hd.R) (q := view Hd.R.prog [47]) (H := Hd.hk) (ob := Hd.ob) (M := 8000) (loose := Hd.loose) (d := HandSHeadRun.topDef Hd.R.prog 47) (kwd := []) Hd.ob_eq
    (by kernel_rfl) (fun s => by kernel_rfl) Hd.run (by kernel_rfl) (by kernel_rfl) (by kernel_rfl) (by rfl) (by first | assumption | decide +kernel) (by decide +kernel) ⟨rfl, rfl, rfl, rfl, rfl, by decide +kernel⟩ ?hw ?hc
  case hw => w_witness2
  case hc =>
    refine L2.walk_ofE (l := PySem.Challenge.rw_urlplaces_k40_whole_only_the_directory_c) (n := 63) (k := 15) (x := "script") (CX := L2.CX0) rfl (by decide) (by kernel_rfl) ⟨rfl, by decide, by decide⟩ ?F (fun _ _ _ _ z => z)
    intro w mg fa h Y G hmg0
    obtain ⟨K, KX, c⟩ := Y
    have hmg : mg ("law" : PySem.Str) = some (.ref fa) := by
      have e : (HandSHeadRun.topDef Hd.R.prog 47).name = ("law" : PySem.Str) := by kernel_rfl
      rw [← e]
      exact hmg0
    obtain ⟨fd, hb, hF⟩ := Da.facts (P := (PySem.Challenge.rw_urlplaces_k40_whole_only_the_directory_c).prog) (w := w) KX G hmg c
    exact ⟨K, fd, Da.spLaw K, KX, hb, fun H a ns hl _ hS => ⟨ns, hS, fun _ => rfl⟩, hF⟩
