import PyProof.Rows.All
import Wide.All
import OpenK.AllK
import Wide.FinOn
import KE.KStateDown
import Lean
import HandS.ForMost
import HandS.ForExc
import HandS.Defaults
import HandS.Head0
import HandS.Head1
import HandS.Head2
import HandS.HeadEnd
import HandS.HeadHook1
import HandS.HeadHook2
import HandS.HeadHook3
import HandS.HeadNt
import HandS.ClsMeth
import HandS.Star
import HandS.Property
import HandS.OwnEq
import HandS.IsInst
import HandS.StrMore
import HandS.FStr
import HandS.Zip
import HandS.Flow
import HandS.Small
import HandS.ExcOwn
import HandS.List
import HandS.Style
import HandS.Evl
import HandS.RaiseMore
import HandS.ExcInit
import HandS.TryMany
import HandS.ExcField
import HandS.ExcValue
import KE.KParD
import KE.KDictZip
import HandS.HotCalls
import KE.KTryMore
import PyProof.WalkInts
import HandS.TupLe
import HandS.MakeKwOnly
import KE.KExcInit
import PyProof.ExcFactsAll.TypeError
import PyProof.ExcFactsAll.LookupError
import PyProof.ExcFactsAll.OverflowError
import PyProof.ExcFactsAll.RuntimeError
import KE.KNestM
import HandS.Lambda
import HandS.EndTab
import HandS.HeadWalk
import PyProof.Rows.StrLast
import PyProof.ListStr
import PyProof.Rows.StrIntSpec
import HandS.DictComp
import PyProof.ReprRoads
import HandS.Ends
import PyProof.StrLawsRepr
import HandS.IntHex
import HandS.Replace
import PySem.Challenge.RW_urlplaces_k08_queries_refused
set_option Elab.async false
set_option linter.all false
set_option maxRecDepth 100000
set_option maxHeartbeats 0
/-! Xb: the head's facts over ALL addresses below n (the closure by names costs memory), any further Bool of the fragment, tables with text keys. -/
namespace Xb
open PySem PySem.Spec PyProof.Rows L2
abbrev Al : Type := He.AlD × List (Option (List (Option (Str × Int)))) × Bool
def obs (fa : List He.Fa) (fn : List He5.DefA) (ts : List He.Tab) (ex : List (PySem.W.Frag → Bool)) (K : PySem.W.Frag) : Al :=
  (He5.obsA fa fn K, ts.map fun t => He.dicW K (t.1 K), ex.all fun e => e K)
def val (fn : List He5.DefA) (ts : List He.Tab) (w : World) : Al := (He5.valA fn, ts.map fun t => some (He.keysIn w.params t.2), true)
def Says (fa : List He.Fa) (fn : List He5.DefA) (ts : List He.Tab) (ex : List (PySem.W.Frag → Bool)) (w : World) (K : PySem.W.Frag) : Prop := obs fa fn ts ex K = val fn ts w
def obsG (n : Nat) (fa : List He.Fa) (fn : List He5.DefA) (ts : List He.Tab) (ex : List (PySem.W.Frag → Bool)) (g : Addr → Option Obj) : Al := obs fa fn ts ex (He.frG g (List.range n))
def hook (n : Nat) (fa : List He.Fa) (fn : List He5.DefA) (ts : List He.Tab) (ex : List (PySem.W.Frag → Bool)) : PySem.W.Hook where
  α := Al
  obs := fun s => obsG n fa fn ts ex s.heap.get?
  val := fun w => val fn ts w
  says := fun w h => ∃ K : PySem.W.Frag, K.In h ∧ Says fa fn ts ex w K
  of := fun _ _ e => ⟨_, He.frG_in, e⟩
  keeps := fun _ _ _ ⟨K, hK, c⟩ k => ⟨K, PySem.W.Frag.In.keeps hK k, c⟩
theorem obsG_eq {n : Nat} {fa : List He.Fa} {fn : List He5.DefA} {ts : List He.Tab} {ex : List (PySem.W.Frag → Bool)} {g : Addr → Option Obj} {s : Shared} (h : ∀ a, g a = s.heap.get? a) : obsG n fa fn ts ex g = (hook n fa fn ts ex).obs s := by
  have e : g = s.heap.get? := funext h
  rw [e] <;> rfl
section
variable {fa : List He.Fa} {fn : List He5.DefA} {ts : List He.Tab} {ex : List (PySem.W.Frag → Bool)} {w : World} {K : PySem.W.Frag}
theorem Says.a (c : Says fa fn ts ex w K) : He5.SaysA fa fn K := congrArg (fun z : Al => z.1) c
theorem Says.fact (c : Says fa fn ts ex w K) (i : Nat) {f : He.Fa} (h : fa[i]? = some f := by rfl) : f.ok K = true := c.a.fact i h
theorem Says.def_ (c : Says fa fn ts ex w K) (i : Nat) {d : He5.DefA} (h : fn[i]? = some d := by rfl) : ∃ fd, FunD K d.name d.qual d.params d.body d.scope (d.dvs K) (d.kws K) (d.at_ K) fd := c.a.def_ i h
theorem Says.tab (c : Says fa fn ts ex w K) (i : Nat) {t : He.Tab} (h : ts[i]? = some t := by rfl) : ∃ es n, KDict K w (t.1 K) es n := by
  have e : ts.map (fun t => He.dicW K (t.1 K)) = ts.map fun t => some (He.keysIn w.params t.2) := congrArg (fun z : Al => z.2.1) c
  have e2 : (ts.map fun t => He.dicW K (t.1 K))[i]? = (ts.map fun t => some (He.keysIn w.params t.2))[i]? := by rw [e]
  rw [List.getElem?_map, List.getElem?_map, h] at e2
  exact He.dicW_ok (Option.some.inj e2)
theorem Says.more (c : Says fa fn ts ex w K) (i : Nat) {e : PySem.W.Frag → Bool} (h : ex[i]? = some e := by rfl) : e K = true := by
  have e1 : (ex.all fun e => e K) = true := congrArg (fun z : Al => z.2.2) c
  exact List.all_eq_true.mp e1 e (List.mem_of_getElem? h)
end
end Xb
set_option Elab.async false
set_option linter.all false
set_option maxRecDepth 100000
set_option maxHeartbeats 4000000
namespace Xr
open PySem PySem.Spec PyProof.Rows L2
section
variable {prog : Program} {w : World} {A : Around} {E : Value → Shared → Prop} {s : Shared}
theorem wpAny_dictPut_pairs {K : Type} [DecidableEq K] {knd : KeyKind prog w K} {d : Addr} {kvs : List (K × Value)} {k : K} {key v : Value} {Q : Unit → Shared → Prop} (hkey : knd.is k key = true) (hm : s.heap.DictOf knd d kvs)
    (hQ : ∀ h', h'.DictOf knd d (stored kvs k v) → Heap.SameBut d s.heap h' → Q () { s with heap := h' })
    (hsz : kvs.length ≤ sizeLine) : wpAny (model prog w) A (dictPut d (knd.hash k) key v) Q E s := by
  obtain ⟨o, es, ep, ho, hc, hd, hk, hp, hn⟩ := hm
  have hes : es.size ≤ sizeLine := by have e1 := hp.length; have e2 : es.toList.length = es.size := by simp
                                      omega
  unfold dictPut
  refine wpAny_bind (wpAny_dictFind_of hkey ho hd hk ?_)
  have hidx : (es.findIdx? fun e => knd.is k e.key) = kvs.findIdx? fun kv => decide (kv.1 = k) := by
    rw [← hp.findIdx k]; obtain ⟨l⟩ := es; simp
  cases hi : es.findIdx? fun e => knd.is k e.key with
  | some i =>
    refine (wpAny_updateDict ho hd (hQ _ ⟨_, _, ep, Heap.get?_update_self _ ho (Obj.isFreed_of_dict (Obj.data_mapDict hd _)),
      hc.mapDict _, Obj.data_mapDict hd _, hk.modify _ _, ?_, ?_⟩ (Heap.SameBut.update ..)))
    · rw [stored, if_pos (any_of_findIdx_some (hidx ▸ hi))]
      have hl : (es.toList.findIdx? fun e => knd.is k e.key) = some i := by rw [← hi]; obtain ⟨l⟩ := es; simp
      have := hp.modify hn hl v
      obtain ⟨l⟩ := es
      simpa using this
    · rw [stored, if_pos (any_of_findIdx_some (hidx ▸ hi)), keys_map_store]; exact hn
  | none =>
    have hnot : k ∉ kvs.map (·.1) := not_mem_of_findIdx_none (hidx ▸ hi)
    have hany : ¬ (kvs.any fun kv => decide (kv.1 = k)) = true := by
      rw [List.any_eq_true]; rintro ⟨kv, hkv, he⟩
      exact hnot (List.mem_map.mpr ⟨kv, hkv, of_decide_eq_true he⟩)
    refine (wpAny_updateDictKeys (hz := hes) ho hd (hQ _ ⟨_, _, ep + 1, Heap.get?_update_self _ ho (Obj.isFreed_of_dict (Obj.data_mapDictKeys hd _)),
      hc.mapDictKeys _, Obj.data_mapDictKeys hd _, hk.push hkey _, ?_, ?_⟩ (Heap.SameBut.update ..)))
    · rw [stored, if_neg hany]
      have := hp.append hkey (knd.hash k) v
      obtain ⟨l⟩ := es
      simpa using this
    · rw [stored, if_neg hany, List.map_append, List.nodup_append]
      refine ⟨hn, by simp, ?_⟩
      intro a ha b hb
      simp only [List.map_cons, List.map_nil, List.mem_singleton] at hb
      subst hb
      exact fun e => hnot (e ▸ ha)
theorem key_not_ref {k : Key} {v : Value} (h : (mixKind prog w).is k v = true) : ∀ b, v ≠ .ref b := fun b e => by
  subst e
  rcases keyIs_shape h with ⟨i, t, _, e⟩ | ⟨x, t, _, e⟩ <;> cases e
theorem nodup_take {α : Type} {l : List α} (h : l.Nodup) (n : Nat) : (l.take n).Nodup := h.sublist (List.take_sublist n l)
/-- merging a dict of ints and texts into another one (unique: its keys are new there) -/
theorem wpAny_mergeMapping {u : Bool} {d a : Addr} {kvs more : List (Key × Value)} {Q : Unit → Shared → Prop} (hda : d ≠ a) (haS : (a == sysModules) = false)
    (hd : s.heap.DictOf (mixKind prog w) d kvs) (ha : s.heap.DictOf (mixKind prog w) a more) (hu : u = true → ((kvs ++ more).map (·.1)).Nodup)
    (hQ : ∀ h', h'.DictOf (mixKind prog w) d (merged kvs more) → Heap.SameBut d s.heap h' → Q () { s with heap := h' })
    (hsz : kvs.length + more.length ≤ sizeLine) : wpAny (model prog w) A (mergeMapping d (.ref a) u) Q E s := by
  obtain ⟨od, esd, epd, hod, hcd, hdd, hkd, hpd, hnd⟩ := id hd
  obtain ⟨oo, eso, epo, hoo, hco, hdo', hko, hpo, hno⟩ := id ha
  have hlen : more.length = eso.size := by rw [← hpo.length]; simp
  unfold mergeMapping
  refine wpAny_bind (wpAny_isInstance ha.typeIs isSubtype_dict_dict ?_)
  simp only [if_true]
  refine wpAny_bind (wpAny_specialOf ha.typeIs F.slot_dict_iter.lookup (wpAny_bind (wpAny_pure ?_)))
  simp only [beq_self_eq_true]
  rw [if_neg (by rw [haS]; exact Bool.false_ne_true)]
  refine wpAny_bind (wpAny_dictEntries hod hdd ?_)
  have loop : wpAny (model prog w) A (do
      let l ← dictEntries a
      let epoch ← dictEpoch a
      forIn (List.range l.size) PUnit.unit fun i (__s : PUnit) => (do
          let l' ← dictEntries a
          match l'[i]? with
            | some e => do
              holding [e.key, e.val]
                  (have __do_jp := fun (__r : PUnit) => dictPut d e.hash e.key e.val;
                  if u = true then do
                    let f ← dictFind d e.key e.hash
                    if f.isSome = true then do
                        rule "dict.merge.duplicate-key"
                        let x ← newExc (Value.type "KeyError") [e.key]
                        let __r ← raiseNew x
                        __do_jp __r
                      else __do_jp ()
                  else __do_jp ())
              let ep' ← dictEpoch a
              if (ep' != epoch) = true then do
                  (unsupported "dict.changed-during-merge" : Sem PUnit)
                  pure (ForInStep.yield PUnit.unit)
                else pure (ForInStep.yield PUnit.unit)
            | _ => do
              (unsupported "dict.changed-during-merge" : Sem PUnit)
              pure (ForInStep.yield PUnit.unit) : Sem (ForInStep PUnit))
      pure ()) Q E s := by
    refine wpAny_bind (wpAny_dictEntries hoo hdo' ?_)
    refine wpAny_bind (wpAny_dictEpoch hoo hdo' ?_)
    refine wpAny_bind ?_
    rw [List.range_eq_range']
    refine wpAny_forIn_list _
      (fun rest _ s' => ∃ h' i, s' = { s with heap := h' } ∧ rest = List.range' i (eso.size - i) ∧ i ≤ eso.size ∧ h'.DictOf (mixKind prog w) d (merged kvs (more.take i)) ∧ h'.get? a = some oo ∧ Heap.SameBut d s.heap h')
      _ ?_ ?_ _ _ ⟨s.heap, 0, rfl, by simp, Nat.zero_le _, by simpa [merged] using hd, hoo, Heap.SameBut.refl _ _⟩
    · rintro x rest b s' ⟨h', i, rfl, hr, hi, hd', hoo', hs'⟩
      have hlt : i < eso.size := by
        rcases Nat.lt_or_ge i eso.size with h | h
        · exact h
        · rw [Nat.sub_eq_zero_of_le h] at hr; simp at hr
      obtain ⟨rfl, hrest⟩ : x = i ∧ rest = List.range' (i + 1) (eso.size - (i + 1)) := by
        have e : eso.size - i = (eso.size - (i + 1)) + 1 := by omega
        rw [e, List.range'_succ] at hr
        injection hr with h1 h2
        exact ⟨h1, h2⟩
      refine wpAny_bind (wpAny_dictEntries hoo' hdo' ?_)
      rw [Array.getElem?_eq_getElem hlt]
      obtain ⟨kv, hkv⟩ : ∃ kv, more[x]? = some kv := ⟨more[x]'(by rw [hlen]; exact hlt), List.getElem?_eq_getElem _⟩
      obtain ⟨k, v⟩ := kv
      obtain ⟨hkey, hval⟩ := hpo.get? (e := eso[x]) (by simp [hlt]) hkv
      obtain ⟨k', hkey', hhash⟩ := hko eso[x] (Array.getElem_mem hlt)
      obtain rfl : k' = k := (mixKind prog w).inj _ _ _ hkey' hkey
      dsimp only
      rw [hhash, hval]
      have hmx : (merged kvs (more.take x)).length ≤ sizeLine := by
        have e1 := merged_length_le kvs (more.take x)
        have e2 : (more.take x).length ≤ more.length := by simp; omega
        omega
      have put : ∀ (Q' : Unit → Shared → Prop), (∀ h'', h''.DictOf (mixKind prog w) d (merged kvs (more.take (x + 1))) → Heap.SameBut d h' h'' → Q' () { s with heap := h'' }) →
          wpAny (model prog w) A (dictPut d ((mixKind prog w).hash k') eso[x].key v) Q' E { s with heap := h' } := fun Q' hq' => by
        refine wpAny_dictPut_pairs (s := { s with heap := h' }) hkey hd' (fun h'' hd'' hs'' => ?_) hmx
        refine hq' h'' ?_ hs''
        rw [merged_take_succ kvs more x (k', v) hkv]
        exact hd''
      have fin : ∀ (P : ForInStep PUnit → Shared → Prop) h'', h''.DictOf (mixKind prog w) d (merged kvs (more.take (x + 1))) → Heap.SameBut d h' h'' →
          ((∃ h' i, ({ s with heap := h'' } : Shared) = { s with heap := h' } ∧ rest = List.range' i (eso.size - i) ∧ i ≤ eso.size ∧ h'.DictOf (mixKind prog w) d (merged kvs (more.take i)) ∧ h'.get? a = some oo ∧ Heap.SameBut d s.heap h') → P (.yield PUnit.unit) { s with heap := h'' }) →
          wpAny (model prog w) A (do
              let ep' ← dictEpoch a
              if (ep' != epo) = true then do
                  (unsupported "dict.changed-during-merge" : Sem PUnit)
                  pure (ForInStep.yield PUnit.unit)
                else pure (ForInStep.yield PUnit.unit)) P E { s with heap := h'' } := fun P h'' hd'' hs'' hP => by
        have ho'' : h''.get? a = some oo := (hs''.2 a (Ne.symm hda)).trans hoo'
        refine wpAny_bind (wpAny_dictEpoch (s := { s with heap := h'' }) ho'' hdo' ?_)
        rw [if_neg (by simp)]
        exact wpAny_pure (hP ⟨h'', x + 1, rfl, hrest, hlt, hd'', ho'', hs'.trans hs''⟩)
      refine wpAny_bind (wpAny_holding ?_)
      by_cases hub : u = true
      · rw [if_pos hub]
        obtain ⟨od', esd', epd', hod', hcd', hdd', hkd', hpd', hnd'⟩ := id hd'
        refine wpAny_bind (wpAny_dictFind_of (s := { s with heap := h' }) hkey hod' hdd' hkd' ?_)
        have hN := hu hub
        have hm : merged kvs (more.take x) = kvs ++ more.take x := merged_append_of_fresh _ _ (by
          refine hN.sublist ?_
          exact List.Sublist.map _ (List.Sublist.append_left (List.take_sublist _ _) _))
        have hnone : (esd'.findIdx? fun e => (mixKind prog w).is k' e.key) = none := by
          have e1 : (esd'.findIdx? fun e => (mixKind prog w).is k' e.key) = (merged kvs (more.take x)).findIdx? fun kv => decide (kv.1 = k') := by
            rw [← hpd'.findIdx k']; obtain ⟨l⟩ := esd'; simp
          rw [e1, hm, List.findIdx?_eq_none_iff]
          intro kv hkv'
          refine decide_eq_false fun e => ?_
          have hsplit : kvs ++ more = (kvs ++ more.take x) ++ more.drop x := by rw [List.append_assoc, List.take_append_drop]
          rw [hsplit, List.map_append, List.nodup_append] at hN
          refine hN.2.2 kv.1 (List.mem_map.mpr ⟨kv, hkv', rfl⟩) k' ?_ e
          have hx : x < more.length := by rw [hlen]; exact hlt
          have hd0 : more.drop x = (k', v) :: more.drop (x + 1) := by
            rw [List.drop_eq_getElem_cons hx]
            congr 1
            exact Option.some.inj ((List.getElem?_eq_getElem hx).symm.trans hkv)
          rw [hd0]
          exact List.mem_map.mpr ⟨(k', v), List.mem_cons_self, rfl⟩
        rw [hnone]
        simp only [Option.isSome_none, Bool.false_eq_true, if_false]
        exact put _ fun h'' q1 q2 => fin _ h'' q1 q2 id
      · rw [if_neg hub]
        exact put _ fun h'' q1 q2 => fin _ h'' q1 q2 id
    · rintro b s' ⟨h', i, rfl, hr, hi, hd', hoo', hs'⟩
      have : i = eso.size := by
        have e := congrArg List.length hr.symm
        simp at e; omega
      subst this
      rw [← hlen, List.take_length] at hd'
      exact wpAny_pure (hQ h' hd' hs')
  by_cases hemp : esd.isEmpty = true
  · rw [if_pos hemp]
    refine wpAny_bind (wpAny_dictEntries hoo hdo' ?_)
    refine wpAny_bind ?_
    refine MeetsSeq2.wpAny_forIn_array _ (fun rest _ s' => s' = s ∧ ∀ e ∈ rest, e ∈ eso.toList) _ ?_ ?_ _ _ ⟨rfl, fun e he => he⟩
    · rintro e rest b s' ⟨rfl, hall⟩
      have he := hall e List.mem_cons_self
      obtain ⟨k, hk, _⟩ := hko e (Array.mem_def.mpr he)
      have hnr := key_not_ref hk
      cases hke : e.key with
      | ref b' => exact absurd hke (hnr b')
      | _ => exact wpAny_pure ⟨rfl, fun e' he' => hall e' (List.mem_cons_of_mem _ he')⟩
    · rintro b s' ⟨rfl, _⟩
      exact loop
  · rw [if_neg hemp]
    exact loop
end
end Xr
set_option Elab.async false
set_option linter.all false
set_option maxRecDepth 100000
set_option maxHeartbeats 4000000
namespace Xr
open PySem PySem.Spec PyProof.Rows L2
section
variable {prog : Program} {w : World} {A : Around} {E : Value → Shared → Prop} {s : Shared}
/-- the entries' names and values, as keywords -/
def kwOf : List (Key × Value) → Option (List (Str × Value))
  | [] => some []
  | (.inr x, v) :: r => (kwOf r).map ((x, v) :: ·)
  | (.inl _, _) :: _ => none
theorem mergedKw {f : Value} {t : Sem Value} {Q : Addr → Shared → Prop}
    (h : wpAny (model prog w) A t (fun v s1 => ∃ (a : Addr) (more : List (Key × Value)), v = .ref a ∧ (a == sysModules) = false ∧ s.heap.objs.size ≠ a ∧ s1.heap.DictOf (mixKind prog w) s.heap.objs.size [] ∧ s1.heap.DictOf (mixKind prog w) a more ∧ (more.map (·.1)).Nodup ∧ more.length ≤ sizeLine ∧
      ∀ h', h'.DictOf (mixKind prog w) s.heap.objs.size more → Heap.SameBut s.heap.objs.size s1.heap h' → Q s.heap.objs.size { s1 with heap := h' }) E { s with heap := s.heap.push { cls := .type "dict", data := .dict #[] } }) :
    wpAny (model prog w) A (mergedKeywords f [(none, t)]) Q E s := by
  delta mergedKeywords
  refine wpAny_bind (wpAny_alloc ?_)
  refine wpAny_bind (wpAny_holding ?_)
  dsimp only
  rw [List.forIn_cons]
  refine wpAny_bind (wpAny_bind ?_)
  dsimp only
  rw [if_pos (by rfl)]
  refine wpAny_bind (wpAny_pure ?_)
  refine wpAny_bind (wpAny_mono h (fun v s1 hv => ?_) fun _ _ x => x)
  obtain ⟨a, more, rfl, hS, hne, hd, ha, hn, hz, hq⟩ := hv
  refine wpAny_bind (wpAny_onRaise (wpAny_holding (wpAny_tryCatch (wpAny_onRaise (wpAny_mergeMapping (kvs := []) (more := more) hne hS hd ha (fun _ => hn) (fun h' hd' hs' => ?_) (by simpa using hz))))))
  refine wpAny_pure ?_
  dsimp only
  rw [List.forIn_nil]
  refine wpAny_pure ?_
  rw [if_pos (by rfl)]
  refine wpAny_pure (wpAny_pure ?_)
  rw [merged_nil_of_nodup more hn] at hd'
  exact hq h' hd' hs'
theorem keywordsIn_ok {f : Value} {d : Addr} {more : List (Key × Value)} {kw : List (Str × Value)} {Q : List (Str × Value) → Shared → Prop} (hd : s.heap.DictOf (mixKind prog w) d more) (hk : kwOf more = some kw) (hq : Q kw s) :
    wpAny (model prog w) A (keywordsIn f d) Q E s := by
  obtain ⟨o, es, ep, ho, hc, hdat, hke, hp, hn⟩ := hd
  delta keywordsIn
  dsimp only
  refine wpAny_bind (wpAny_dictEntries ho hdat ?_)
  refine wpAny_bind ?_
  refine MeetsSeq2.wpAny_forIn_array _ (fun rest b s' => s' = s ∧ ∃ r k2, Pairs (mixKind prog w) rest r ∧ kwOf r = some k2 ∧ b ++ k2 = kw) _ ?_ ?_ _ _ ⟨rfl, more, kw, hp, hk, rfl⟩
  · rintro e rest b s' ⟨rfl, r, k2, hpr, hkr, hb⟩
    cases hpr with
    | @cons _ kv _ kvs h1 h2 h3 =>
      obtain ⟨k, v⟩ := kv
      cases k with
      | inl i => cases hkr
      | inr x =>
        obtain ⟨tk, hx⟩ := Value.isStrOf_shape (x := x) (v := e.key) h1
        rw [hx]
        have e1 : (kwOf kvs).map ((x, v) :: ·) = some k2 := hkr
        cases e2 : kwOf kvs with
        | none => rw [e2] at e1; cases e1
        | some k3 =>
          rw [e2] at e1
          have e3 : (x, v) :: k3 = k2 := Option.some.inj e1
          refine wpAny_pure ⟨rfl, kvs, k3, h3, e2, ?_⟩
          rw [← hb, ← e3, List.append_assoc]
          have : e.val = v := h2
          rw [this]
          rfl
  · rintro b s' ⟨rfl, r, k2, hpr, hkr, hb⟩
    cases hpr
    have e1 : [] = k2 := Option.some.inj hkr
    subst e1
    rw [List.append_nil] at hb
    subst hb
    exact wpAny_pure hq
theorem evalArgs_kw {f : Value} {t : Sem Value} {Q : Args → Shared → Prop}
    (h : wpAny (model prog w) A t (fun v s1 => ∃ (a : Addr) (more : List (Key × Value)) (kw : List (Str × Value)), v = .ref a ∧ (a == sysModules) = false ∧ s.heap.objs.size ≠ a ∧ s1.heap.DictOf (mixKind prog w) s.heap.objs.size [] ∧ s1.heap.DictOf (mixKind prog w) a more ∧ (more.map (·.1)).Nodup ∧ more.length ≤ sizeLine ∧ kwOf more = some kw ∧
      ∀ h', h'.DictOf (mixKind prog w) s.heap.objs.size more → Heap.SameBut s.heap.objs.size s1.heap h' → Q ⟨[], kw⟩ { s1 with heap := h' }) E { s with heap := s.heap.push { cls := .type "dict", data := .dict #[] } }) :
    wpAny (model prog w) A (evalArgs f true [] [(none, t)]) Q E s := by
  delta evalArgs
  dsimp only
  refine wpAny_bind (PySem.Calls.spliced_nil (wpAny_bind (wpAny_pure ?_)))
  refine wpAny_holding ?_
  rw [if_neg (show ¬ ([((none : Option Str), t)].all fun x => x.fst.isSome) = true from fun z => nomatch z)]
  refine wpAny_bind (mergedKw (wpAny_mono h (fun v s1 hv => ?_) fun _ _ x => x))
  obtain ⟨a, more, kw, rfl, hS, hne, hd, ha, hn, hz, hk, hq⟩ := hv
  refine ⟨a, more, rfl, hS, hne, hd, ha, hn, hz, fun h' hd' hs' => ?_⟩
  refine wpAny_bind (wpAny_pure ?_)
  refine wpAny_bind (wpAny_holding (keywordsIn_ok (s := { s1 with heap := h' }) hd' hk (wpAny_pure (hq h' hd' hs'))))
/-- a call with one ** -/
theorem callWith_kw {f : Value} {first : List Value} {t : Sem Value} {pos : Pos} {Q : Value → Shared → Prop} {P : Heap → Prop}
    (hk : ∀ h, P h → ∃ k, (k = Keeper.frame ∨ k = Keeper.machine ∨ k = Keeper.boundFrame) ∧ PySem.W.Looks (model prog w) h (keeperOf f) k)
    (h : wpAny (model prog w) A (evalArgs f true [] [(none, t)]) (fun a s₁ => P s₁.heap ∧ wpAny (model prog w) A (call f (first ++ a.pos) a.kw) Q E s₁) E s) : wpAny (model prog w) A (callWith pos f first [] [(none, t)]) Q E s := by
  unfold callWith
  refine wpAny_bind (wpAny_holding (wpAny_mono h (fun a s₁ h₁ => wpAny_bind (wpAny_standAt ?_)) fun _ _ x => x))
  obtain ⟨k, hk', L⟩ := hk _ h₁.1
  have hst : (([] : List (Bool × Sem Value)).any (·.1) || [((none : Option Str), t)].any (·.1.isNone)) = true := rfl
  simp only [hst]
  refine wpAny_bind (L.here ?_)
  have tail : ∀ {t : Sem Value}, wpAny (model prog w) A t Q E s₁ → wpAny (model prog w) A (t >>= fun r => holding [r] point >>= fun _ => pure r) Q E s₁ :=
    fun ht => wpAny_bind (wpAny_mono ht (fun r s₂ hr => wpAny_bind (wpAny_holding (wpAny_point (wpAny_pure hr)))) fun _ _ x => x)
  have marked (mk : Value) : wpAny (model prog w) A (callMarked mk f (first ++ a.pos) a.kw) Q E s₁ := by unfold callMarked; exact Calls.wpAny_keep h₁.2
  rcases hk' with rfl | rfl | rfl <;> dsimp only <;> first | exact tail (marked _) | exact tail (wpAny_operateT h₁.2) | exact tail (PySem.W.wpAny_operating h₁.2)
end
end Xr
set_option Elab.async false
set_option linter.all false
set_option maxRecDepth 100000
set_option maxHeartbeats 4000000
namespace Xr
open PySem PySem.Spec PyProof.Rows L2
theorem lookup_append' {β : Type} (x : Str) : ∀ (l r : List (Str × β)), (l ++ r).lookup x = (l.lookup x).or (r.lookup x)
  | [], r => by simp
  | (y, v) :: l, r => by
    by_cases h : x = y
    · subst h; simp [List.lookup]
    · have e : (x == y) = false := by simpa using h
      simp only [List.cons_append, List.lookup, e]
      exact lookup_append' x l r
theorem lookup_none {β : Type} {x : Str} : ∀ {l : List (Str × β)}, x ∉ l.map (·.1) → l.lookup x = none
  | [], _ => rfl
  | (y, v) :: l, h => by
    have h1 : x ≠ y := fun e => h (by rw [e]; exact List.mem_cons_self)
    have e : (x == y) = false := by simpa using h1
    simp only [List.lookup, e]
    exact lookup_none fun hm => h (List.mem_cons_of_mem _ hm)
theorem seqNone {M : Model} {A : Around} {Q : Option (Array Value) → Shared → Prop} {E : Value → Shared → Prop} {s : Shared} (h : Q none s) : wpAny M A (seqItems? .none) Q E s := wpAny_pure h
/-- keyword-only parameters behind one positional one: any keywords of these, in any order; the others by their defaults -/
theorem bindKw {K : PySem.W.Frag} {s : Shared} {fd : FuncData} {c : Str} {kns : List Str} {D : Addr} {dv : Str → Value} {u : Value} {kw : List (Str × Value)} (X : K.In s.heap)
    (h1 : fd.params.posonlyargs.map (·.arg) = []) (h2 : fd.params.args.map (·.arg) = [c]) (h3 : fd.params.kwonlyargs.map (·.arg) = kns) (h4 : fd.params.vararg = none) (h5 : fd.params.kwarg = none) (h6 : fd.defaults = .none) (h7 : fd.kwdefaults = .ref D)
    (hk : ∀ q ∈ kw, q.1 ∈ kns) (hn : (kw.map (·.1)).Nodup) (hc : c ∉ kns) (hkn : kns.Nodup) (hD : ∀ n ∈ kns, PySem.W.nsIn K D n = some (some (dv n))) :
    BindsTo s fd ⟨[u], kw⟩ ((c, u) :: kns.map fun n => (n, (kw.lookup n).getD (dv n))) := by
  intro M A E Q hq
  delta bindArgs
  dsimp only
  rw [h1, h2, h3, h4, h5, h6, h7]
  refine wpAny_bind ?_
  refine wpAny_forIn_list _ (fun rest b s' => s' = s ∧ ∃ done, kw = done ++ rest ∧ b = ((c, u) :: done, [])) _ ?_ ?_ _ _ ⟨rfl, [], rfl, rfl⟩
  · rintro ⟨k, v⟩ rest b s' ⟨rfl, done, he, rfl⟩
    have hmem : k ∈ kns := hk (k, v) (by rw [he]; exact List.mem_append_right _ List.mem_cons_self)
    have hkd : k ∉ done.map (·.1) := fun hm => by
      rw [he, List.map_append, List.nodup_append] at hn
      exact hn.2.2 k hm k (by exact List.mem_cons_self) rfl
    have hkc : k ≠ c := fun e => hc (e ▸ hmem)
    have hcont : ((([c] : List Str).contains k || kns.contains k) = true) := by
      rw [Bool.or_eq_true]; right
      exact List.contains_iff_mem.mpr hmem
    rw [if_pos hcont]
    have hlk : (((c, u) :: done).lookup k) = none := by
      have e : (k == c) = false := by simpa using hkc
      simp only [List.lookup, e]
      exact lookup_none hkd
    rw [hlk]
    rw [if_neg (by simp)]
    exact wpAny_pure ⟨rfl, done ++ [(k, v)], by rw [he]; simp, rfl⟩
  · rintro b s' ⟨rfl, done, he, rfl⟩
    rw [List.append_nil] at he
    subst he
    refine wpAny_bind (seqNone ?_)
    rw [if_neg (by simp)]
    rw [if_neg (by simp [List.lookup])]
    refine wpAny_bind (wpAny_pure ?_)
    refine wpAny_bind ?_
    refine wpAny_forIn_list _ (fun rest b s2 => s2 = s' ∧ ∃ done, kns = done ++ rest ∧ b = ((c, u) :: kw ++ (done.filter fun n => (kw.lookup n).isNone).map (fun n => (n, dv n)), [])) _ ?_ ?_ _ _ ⟨rfl, [], rfl, by simp⟩
    · rintro n rest b s2 ⟨rfl, done, he, rfl⟩
      have hmem : n ∈ kns := by rw [he]; exact List.mem_append_right _ List.mem_cons_self
      have hnc : n ≠ c := fun e => hc (e ▸ hmem)
      have hnd : n ∉ done := fun hm => by
        rw [he, List.nodup_append] at hkn
        exact hkn.2.2 n hm n List.mem_cons_self rfl
      have e : (n == c) = false := by simpa using hnc
      have hl : ((c, u) :: kw ++ (done.filter fun n => (kw.lookup n).isNone).map (fun n => (n, dv n))).lookup n = kw.lookup n := by
        rw [lookup_append', List.lookup, e]
        have : ((done.filter fun n => (kw.lookup n).isNone).map (fun n => (n, dv n))).lookup n = none := lookup_none (by
          rw [List.map_map]
          intro hm
          obtain ⟨y, hy, rfl⟩ := List.mem_map.mp hm
          exact hnd (List.mem_filter.mp hy).1)
        rw [this]
        simp
      dsimp only
      rw [hl]
      cases hkl : kw.lookup n with
      | some v =>
        rw [if_neg (by simp)]
        refine wpAny_pure ⟨rfl, done ++ [n], by rw [he]; simp, ?_⟩
        rw [List.filter_append]
        simp [hkl]
      | none =>
        rw [if_pos (by simp)]
        refine wpAny_bind ((PySem.W.looks_nsIn X (hD n hmem)).here ?_)
        refine wpAny_pure ⟨rfl, done ++ [n], by rw [he]; simp, ?_⟩
        rw [List.filter_append]
        simp [hkl]
    · rintro b s2 ⟨rfl, done, he, rfl⟩
      rw [List.append_nil] at he
      subst he
      rw [if_neg (by simp)]
      refine wpAny_pure ?_
      have key : ∀ n ∈ kns, (((c, u) :: kw ++ (kns.filter fun n => (kw.lookup n).isNone).map (fun n => (n, dv n))).lookup n) = some ((kw.lookup n).getD (dv n)) := fun n hmem => by
        have hnc : n ≠ c := fun e => hc (e ▸ hmem)
        have e : (n == c) = false := by simpa using hnc
        rw [lookup_append', List.lookup, e]
        cases hkl : kw.lookup n with
        | some v => simp
        | none =>
          have : ∀ l : List Str, n ∈ l → (kw.lookup n).isNone = true → ((l.filter fun n => (kw.lookup n).isNone).map (fun n => (n, dv n))).lookup n = some (dv n) := by
            intro l
            induction l with
            | nil => intro h; cases h
            | cons y l ih =>
              intro h hz
              by_cases hy : n = y
              · subst hy
                rw [List.filter_cons, if_pos hz]
                simp [List.lookup]
              · have e2 : (n == y) = false := by simpa using hy
                have hm : n ∈ l := by
                  rcases List.mem_cons.mp h with h | h
                  · exact absurd h hy
                  · exact h
                by_cases hyn : (kw.lookup y).isNone = true
                · rw [List.filter_cons, if_pos hyn, List.map_cons]
                  simp only [List.lookup, e2]
                  exact ih hm hz
                · rw [List.filter_cons, if_neg hyn]
                  exact ih hm hz
          rw [this kns hmem (by rw [hkl]; rfl)]
          simp
      have ec : (((c, u) :: kw ++ (kns.filter fun n => (kw.lookup n).isNone).map (fun n => (n, dv n))).lookup c) = some u := by
        simp [List.lookup]
      have fin : ∀ l : List Str, (∀ n ∈ l, n ∈ kns) → List.filterMap (fun n => Option.map (fun x => (n, x)) (List.lookup n ((c, u) :: kw ++ (kns.filter fun n => (kw.lookup n).isNone).map (fun n => (n, dv n))))) l = l.map fun n => (n, (kw.lookup n).getD (dv n)) := by
        intro l
        induction l with
        | nil => intro _; rfl
        | cons y l ih =>
          intro h
          have := key y (h y List.mem_cons_self)
          rw [List.filterMap_cons, this, Option.map_some]
          exact congrArg _ (ih fun n hn => h n (List.mem_cons_of_mem _ hn))
      have all : List.filterMap (fun n => Option.map (fun x => (n, x)) (List.lookup n ((c, u) :: kw ++ (kns.filter fun n => (kw.lookup n).isNone).map (fun n => (n, dv n))))) ([] ++ [c] ++ kns) = (c, u) :: kns.map fun n => (n, (kw.lookup n).getD (dv n)) := by
        show List.filterMap _ (c :: kns) = _
        rw [List.filterMap_cons, ec, Option.map_some, fin kns fun _ h => h]
      dsimp only
      rw [all]
      exact hq
end Xr
set_option Elab.async false
set_option linter.all false
set_option maxRecDepth 100000
set_option maxHeartbeats 4000000
namespace Xr
open PySem PySem.Spec PyProof.Rows L2 ClX
/-! ### keywords, by values -/
/-- the entries' names and values -/
def kwV : List (Key × V) → Option (List (Str × V))
  | [] => some []
  | (.inr x, v) :: r => (kwV r).map ((x, v) :: ·)
  | (.inl _, _) :: _ => none
abbrev RelK : List (Str × V) → List (Str × Value) → Prop := Paired fun p q => p.1 = q.1 ∧ RelV p.2 q.2
theorem kwV_of : ∀ {kvs : List (Key × V)} {vs : List (Key × Value)} {kw : List (Str × V)}, KV kvs vs → kwV kvs = some kw → ∃ ku, kwOf vs = some ku ∧ RelK kw ku
  | _, _, _, .nil, e => by
    cases Option.some.inj (show some [] = some _ from e)
    exact ⟨[], rfl, .nil⟩
  | (k, v) :: kvs, (k', u) :: vs, kw, .cons h t, e => by
    obtain ⟨h1, h2⟩ := h
    have h1' : k = k' := h1
    subst h1'
    cases k with
    | inl i => cases e
    | inr x =>
      have e1 : (kwV kvs).map ((x, v) :: ·) = some kw := e
      cases e2 : kwV kvs with
      | none => rw [e2] at e1; cases e1
      | some k3 =>
        rw [e2] at e1
        cases Option.some.inj e1
        obtain ⟨ku, q1, q2⟩ := kwV_of t e2
        exact ⟨(x, u) :: ku, by show (kwOf vs).map ((x, u) :: ·) = _; rw [q1] <;> rfl, .cons ⟨rfl, h2⟩ q2⟩
theorem kwV_keys : ∀ {kvs : List (Key × V)} {kw : List (Str × V)}, kwV kvs = some kw → kvs.map (·.1) = kw.map fun q => Sum.inr q.1
  | [], _, e => by
    cases Option.some.inj (show some [] = some _ from e)
    rfl
  | (k, v) :: kvs, kw, e => by
    cases k with
    | inl i => cases e
    | inr x =>
      have e1 : (kwV kvs).map ((x, v) :: ·) = some kw := e
      cases e2 : kwV kvs with
      | none => rw [e2] at e1; cases e1
      | some k3 =>
        rw [e2] at e1
        cases Option.some.inj e1
        show Sum.inr x :: kvs.map (·.1) = Sum.inr x :: k3.map fun q => Sum.inr q.1
        rw [kwV_keys e2]
theorem relK_keys : ∀ {kw : List (Str × V)} {ku : List (Str × Value)}, RelK kw ku → ku.map (·.1) = kw.map (·.1)
  | _, _, .nil => rfl
  | _, _, .cons h t => by
    have e := relK_keys t
    have e1 := h.1
    rw [List.map_cons, List.map_cons, e, e1]
theorem relK_lookup {x : Str} {d : V} {du : Value} (r0 : RelV d du) : ∀ {kw : List (Str × V)} {ku : List (Str × Value)}, RelK kw ku → RelV ((kw.lookup x).getD d) ((ku.lookup x).getD du)
  | _, _, .nil => r0
  | (a, v) :: kw, (b, u) :: ku, .cons h t => by
    have h1 : a = b := h.1
    subst h1
    by_cases e : x = a
    · subst e
      simpa [List.lookup] using h.2
    · have e' : (x == a) = false := by simpa using e
      simp only [List.lookup, e']
      exact relK_lookup r0 t
/-- a def f(c, *, k = d, ..): its only positional parameter, its keyword-only ones with their defaults -/
structure KwB (K : PySem.W.Frag) (fd : FuncData) (c : Str) (dfl : List (Str × V)) : Prop where
  pos : fd.params.posonlyargs.map (·.arg) = []
  arg : fd.params.args.map (·.arg) = [c]
  kwo : fd.params.kwonlyargs.map (·.arg) = dfl.map (·.1)
  var : fd.params.vararg = none
  kwa : fd.params.kwarg = none
  dfs : fd.defaults = .none
  cn : c ∉ dfl.map (·.1)
  nd : (dfl.map (·.1)).Nodup
  val : ∃ D : Addr, fd.kwdefaults = .ref D ∧ ∀ q ∈ dfl, ∃ u, PySem.W.nsIn K D q.1 = some (some u) ∧ RelV q.2 u
theorem kwB_of {K : PySem.W.Frag} {x qual : Str} {params : Arguments} {body : List Stmt} {scope : Scope} {c : Str} {dfl : List (Str × V)} {f : Addr} {fd : FuncData} (F : FunD K x qual params body scope [] dfl f fd) (hk : dfl ≠ [])
    (h1 : params.posonlyargs.map (·.arg) = []) (h2 : params.args.map (·.arg) = [c]) (h3 : params.kwonlyargs.map (·.arg) = dfl.map (·.1)) (h4 : params.vararg = none) (h5 : params.kwarg = none) (hc : c ∉ dfl.map (·.1)) (hn : (dfl.map (·.1)).Nodup) : KwB K fd c dfl := by
  obtain ⟨oc, od, dV, kV, doc, pm, an, cdv, ct, osl, rfl, lk, hcd, hD, hK⟩ := F.ex
  rcases hD with ⟨_, rfl⟩ | ⟨e, _⟩
  · rcases hK with e | ⟨D, rfl, hq⟩
    · exact absurd e hk
    · exact ⟨h1, h2, h3, h4, h5, rfl, hc, hn, D, rfl, hq⟩
  · exact absurd rfl e
/-- the parameters' values: the first one, then each by its keyword or by its default -/
def kwVals (dfl : List (Str × V)) (v : V) (kw : List (Str × V)) : List V := v :: dfl.map fun q => (kw.lookup q.1).getD q.2
theorem zip_keys {α β : Type} (g : α → Str) (h : Str → β) : ∀ l : List α, (l.map g).zip (l.map fun q => h (g q)) = (l.map g).map fun n => (n, h n)
  | [] => rfl
  | q :: l => by
    rw [List.map_cons, List.map_cons, List.zip_cons_cons, zip_keys g h l, List.map_cons]
theorem vals_kw {kw : List (Str × V)} {ku : List (Str × Value)} {dv : Str → Value} (rk : RelK kw ku) : ∀ l : List (Str × V), (∀ q ∈ l, RelV q.2 (dv q.1)) → Vals (l.map fun q => (kw.lookup q.1).getD q.2) (l.map fun q => (ku.lookup q.1).getD (dv q.1))
  | [], _ => .nil
  | q :: l, h => .cons (relK_lookup (h q List.mem_cons_self) rk) (vals_kw rk l fun z hz => h z (List.mem_cons_of_mem _ hz))
theorem KwB.binds {K : PySem.W.Frag} {s : Shared} {fd : FuncData} {c : Str} {dfl : List (Str × V)} {v : V} {u : Value} {kw : List (Str × V)} {ku : List (Str × Value)} (B : KwB K fd c dfl) (X : K.In s.heap) (rv : RelV v u) (rk : RelK kw ku)
    (hk : ∀ q ∈ kw, q.1 ∈ dfl.map (·.1)) (hn : (kw.map (·.1)).Nodup) : ∃ us, BindsTo s fd ⟨[u], ku⟩ ((c :: dfl.map (·.1)).zip us) ∧ Vals (kwVals dfl v kw) us := by
  obtain ⟨D, hD, hv⟩ := B.val
  -- the defaults' values
  have ex : ∃ dv : Str → Value, ∀ q ∈ dfl, PySem.W.nsIn K D q.1 = some (some (dv q.1)) ∧ RelV q.2 (dv q.1) := by
    refine ⟨fun n => ((PySem.W.nsIn K D n).join).getD .none, fun q hq => ?_⟩
    obtain ⟨u, e, r⟩ := hv q hq
    show _ = some (some (((PySem.W.nsIn K D q.1).join).getD .none)) ∧ RelV q.2 (((PySem.W.nsIn K D q.1).join).getD .none)
    rw [e]
    exact ⟨rfl, r⟩
  obtain ⟨dv, hdv⟩ := ex
  have b := bindKw (s := s) (u := u) (kw := ku) (dv := dv) X B.pos B.arg B.kwo B.var B.kwa B.dfs hD (fun q hq => by
      have : q.1 ∈ ku.map (·.1) := List.mem_map.mpr ⟨q, hq, rfl⟩
      rw [relK_keys rk] at this
      obtain ⟨q', hq', e⟩ := List.mem_map.mp this
      rw [← e]
      exact hk q' hq') (by rw [relK_keys rk]; exact hn) B.cn B.nd (fun n hn => by
      obtain ⟨q, hq, rfl⟩ := List.mem_map.mp hn
      exact (hdv q hq).1)
  refine ⟨u :: dfl.map fun q => (ku.lookup q.1).getD (dv q.1), ?_, .cons rv ?_⟩
  · have e : ((c :: dfl.map (·.1)).zip (u :: dfl.map fun q => (ku.lookup q.1).getD (dv q.1))) = (c, u) :: (dfl.map (·.1)).map fun n => (n, (ku.lookup n).getD (dv n)) := by
      rw [List.zip_cons_cons, zip_keys (fun q : Str × V => q.1) (fun n => (ku.lookup n).getD (dv n)) dfl]
    rw [e]
    exact b
  · exact vals_kw rk dfl fun q hq => (hdv q hq).2
end Xr
set_option Elab.async false
set_option linter.all false
set_option maxRecDepth 100000
set_option maxHeartbeats 4000000
namespace Xr
open PySem PySem.Spec PyProof.Rows L2 ClX
section
variable {X : Cx} {pins : List (Addr × Obj)} {σ : L2.St} {H : Hp} {s : Shared}
theorem kv_keys : ∀ {kvs : List (Key × V)} {vs : List (Key × Value)}, KV kvs vs → vs.map (·.1) = kvs.map (·.1)
  | _, _, .nil => rfl
  | _, _, .cons h t => by
    have e := kv_keys t
    have e1 := h.1
    rw [List.map_cons, List.map_cons, e, e1]
/-- o.m( **e): the attribute's value (no method form), then the call -/
theorem kwcall_of {M : Model} {A : Around} {E : Value → Shared → Prop} {s : Shared} {env : Env} {o e : Expr} {m : Str} {kp apos pos : Pos} {Q : Value → Shared → Prop} (hbase : attributeBase o m env (eval o env) = eval o env)
    (h : wpAny M A (eval o env) (fun ov s₁ => wpAny M A (getAttr ov m true) (fun f s₂ => wpAny M A (callWith pos f [] [] [(none, do let v ← eval e env; standAt pos; pure v)]) Q E s₂) E s₁) E s) :
    wpAny M A (eval (.Call (.Attribute o m apos) [] [⟨none, e, kp⟩] pos) env) Q E s := by
  have hse : starEach [] env = [] := rfl
  have hke : backToKw pos (keywordEach [⟨none, e, kp⟩] env) = [(none, do let v ← eval e env; standAt pos; pure v)] := rfl
  have hform : ∀ n, methodCallForm n (backTo pos []) [((none : Option Str), (do let v ← eval e env; standAt pos; pure v : Sem Value))] = false := fun _ => rfl
  have hpos : methodCallPos false o env apos pos = pure pos := rfl
  have hcal : ∀ ov, calleeOf false o env ov m = (getAttr ov m true >>= fun v => pure (v, [])) := fun _ => rfl
  rw [arm_eval_Call, hbase, hse, hke]
  refine wpAny_bind (wpAny_mono h (fun ov s₁ h₁ => ?_) fun _ _ x => x)
  refine wpAny_bind (wpAny_standAt ?_)
  unfold methodCall
  rw [hform, hpos, hcal]
  refine wpAny_bind (wpAny_holding (wpAny_bind (wpAny_mono h₁ (fun f s₂ h₂ => wpAny_pure ?_) fun _ _ x => x)))
  exact wpAny_bind (wpAny_pure h₂)
/-- the arguments **e, e a dict with text keys: an own dict is laid ahead of it (at d) and filled behind it -/
theorem kw_run {f : Value} {e : Expr} {te : TE} {pos : Pos} {Q : Args → Shared → Prop} {R : List (Str × V) → Hp → Prop} (he : PE X e te) (I : Inv X pins σ H s)
    (h : ∀ d, H d = none → te σ (upd H d (.dK [])) fun y H2 => H2 d = some (.dK []) ∧ ∃ a kvs kw, y = .ref a ∧ a ≠ d ∧ H2 a = some (.dK kvs) ∧ kwV kvs = some kw ∧ R kw (upd H2 d (.dK kvs)))
    (hQ : ∀ kw ku H3 s3, Inv X pins σ H3 s3 → RelK kw ku → (kw.map (·.1)).Nodup → R kw H3 → Q ⟨[], ku⟩ s3) :
    wpAny (model X.prog X.w) X.A (evalArgs f true [] [(none, do let v ← eval e X.env; standAt pos; pure v)]) Q X.xe s := by
  refine evalArgs_kw ?_
  have hn : H s.heap.objs.size = none := I.hok.fresh (Nat.le_refl _)
  have I1 : Inv X pins σ (upd H s.heap.objs.size (.dK [])) { s with heap := s.heap.push { cls := .type "dict", data := .dict #[] } } :=
    I.laid (t' := s.toks) (fun b u q => Heap.get?_push_of_some _ q) (Nat.le_refl _) (dk_empty _ I.big)
  refine wpAny_bind (thn (he.run pins _ σ _ _ I1 (h _ hn)) fun v s1 ⟨y, H2, I2, ry, hd, a, kvs, kw, ey, hne, ha, hkw, hR⟩ => ?_)
  subst ey
  obtain rfl : v = Value.ref a := ry
  refine wpAny_bind (wpAny_standAt (wpAny_pure ?_))
  obtain ⟨z, hS, vs, rel, dd⟩ := dk_of I2.hok ha
  obtain ⟨z0, hS0, vs0, rel0, dd0⟩ := dk_of I2.hok hd
  cases rel0
  obtain ⟨ku, hku, rk⟩ := kwV_of rel hkw
  have hlen : vs.length = kvs.length := (Paired.length rel).symm
  have hnd : (vs.map (·.1)).Nodup := by
    obtain ⟨o, es, ep, _, _, _, _, _, hn⟩ := dd
    exact hn
  have hkeys : vs.map (·.1) = kw.map fun q => (Sum.inr q.1 : Key) := by
    rw [← kwV_keys hkw]
    exact kv_keys rel
  refine ⟨a, vs, ku, rfl, hS, fun q => hne q.symm, dd0, dd, hnd, by rw [hlen]; exact z, hku, fun h' hd' hs' => ?_⟩
  have I3 : Inv X pins σ (upd H2 s.heap.objs.size (.dK kvs)) { s1 with heap := h' } := by
    have hex : ∃ u, h'.get? s.heap.objs.size = some u := by
      obtain ⟨o, _, _, ho, _⟩ := hd'
      exact ⟨o, ho⟩
    exact I2.write (t' := s1.toks) (x := s.heap.objs.size) (e := s.heap.objs.size) (o := .dK kvs) (by rw [hd]; exact True.intro) (.inl rfl) (fun b u hb q => (hs'.2 b hb).trans q) hex ⟨z, hS0, vs, rel, hd'⟩
  refine hQ kw ku _ _ I3 rk ?_ hR
  rw [hkeys] at hnd
  clear hR rk hku hkw hkeys I3
  induction kw with
  | nil => exact List.nodup_nil
  | cons q l ih =>
    rw [List.map_cons, List.nodup_cons] at hnd ⊢
    refine ⟨fun hm => hnd.1 ?_, ih hnd.2⟩
    obtain ⟨q', hq', e⟩ := List.mem_map.mp hm
    exact List.mem_map.mpr ⟨q', hq', by rw [e]⟩
/-- C.m( **e), C a class, m a classmethod m(cls, *, ..) -/
def tCMethKw (C : Addr) (c : Str) (dfl : List (Str × V)) (sp : Sp) (E : XK) (ta te : TE) : TE := fun σ H Q => ta σ H fun x H1 => x = .ref C ∧ ∀ d, H1 d = none →
  te σ (upd H1 d (.dK [])) fun y H2 => H2 d = some (.dK []) ∧ ∃ a kvs kw, y = .ref a ∧ a ≠ d ∧ H2 a = some (.dK kvs) ∧ kwV kvs = some kw ∧ (∀ q ∈ kw, q.1 ∈ dfl.map (·.1)) ∧ sp (kwVals dfl (.ref C) kw) (upd H2 d (.dK kvs)) Q E
theorem pe_cmethKw {CX : CXT} {k : Nat} {C p g : Addr} {mc : Value} {sp : Sp} {E : XK} {o e : Expr} {m c : Str} {pos apos kp : Pos} {ta te : TE} {fd : FuncData} {dfl : List (Str × V)} (he : PE X o ta) (r : CRead X.K C mc) (cm : CMet X.K C mc m p g)
    (F : FnOk X.prog X.w X.K X.mg X.base CX k g fd (c :: dfl.map (·.1)) sp) (B : KwB X.K fd c dfl) (hr : Room k X.A) (hx : Passes CX X E) (ha : PE X e te) (hbase : attributeBase o m X.env (eval o X.env) = eval o X.env := by rfl) :
    PE X (.Call (.Attribute o m apos) [] [⟨none, e, kp⟩] pos) (tCMethKw C c dfl sp E ta te) := by
  refine ⟨fun pins s σ H Q I h => ?_⟩
  refine kwcall_of hbase (thn (he.run pins s σ H _ I h) fun u s1 ⟨x, H1, I1, rx, ex, q⟩ => ?_)
  subst ex
  obtain rfl : u = Value.ref C := rx
  refine getcmet_ok I1 r cm fun s2 I2 => ?_
  have hb : X.base.get? s1.heap.objs.size = none := base_none I1 (Nat.le_refl _)
  refine callWith_kw (P := PySem.W.MethP X.K s1.heap.objs.size g (.ref C)) (PySem.W.keeps_M cm.fi) ?_
  refine kw_run (R := fun kw H3 => (∀ q ∈ kw, q.1 ∈ dfl.map (·.1)) ∧ sp (kwVals dfl (.ref C) kw) H3 Q E) ha I2 q fun kw ku H3 s3 I3 rk hn ⟨hk, hsp⟩ => ?_
  refine ⟨⟨pin_at I3, I3.kIn⟩, ?_⟩
  obtain ⟨us, hbind, rv⟩ := B.binds (s := s3) I3.kIn (show RelV (.ref C) (.ref C) from rfl) rk hk hn
  have z : wpAny (model X.prog X.w) X.A (call (.ref s1.heap.objs.size) ([] ++ []) ku) (EP X ((s1.heap.objs.size, PySem.W.methodObj (.ref g) (.ref C)) :: pins) σ Q) X.xe s3 := by
    refine wpAny_call (PySem.W.method_call (pin_at I3) (codeAny_mono (F.run X.A X.stack s3 H3 ⟨[.ref C], ku⟩ us _ Q E hr I3.env0 hbind rv hsp) fun r s' hq => ?_))
    cases r with
    | error e => exact hx _ σ H3 s3 e s' I3 hq
    | ok fl =>
      cases fl with
      | ret u => exact I3.after hq
      | next => exact False.elim hq
      | brk => exact False.elim hq
      | cont => exact False.elim hq
  exact thn z fun _ _ y => unpinE y
end
end Xr
set_option Elab.async false
set_option linter.all false
set_option maxRecDepth 100000
set_option maxHeartbeats 4000000
namespace Xr
open PySem PySem.Spec PyProof.Rows L2 ClX
section
variable {X : Cx} {pins : List (Addr × Obj)} {σ : L2.St} {H : Hp} {s : Shared}
theorem relK_zip : ∀ {ks : List Str} {zs : List V} {ws : List Value}, Vals zs ws → RelK (ks.zip zs) (ks.zip ws)
  | [], _, _, _ => .nil
  | _ :: _, [], _, .nil => .nil
  | k :: ks, _ :: _, _ :: _, .cons r t => .cons ⟨rfl, r⟩ (relK_zip t)
theorem zip_fst : ∀ {ks : List Str} {zs : List V}, zs.length = ks.length → (ks.zip zs).map (·.1) = ks
  | [], _, _ => rfl
  | k :: ks, [], h => by cases h
  | k :: ks, z :: zs, h => by
    have e := zip_fst (ks := ks) (zs := zs) (Nat.succ.inj h)
    rw [List.zip_cons_cons, List.map_cons, e]
/-- C.m(k = v, ..), C a class, m a classmethod m(cls, *, ..) -/
def tCMethN (C : Addr) (ks : List Str) (dfl : List (Str × V)) (sp : Sp) (E : XK) (ta : TE) (tk : TA) : TE := fun σ H Q => ta σ H fun x H1 => x = .ref C ∧ tk σ H1 fun zs H2 => zs.length = ks.length ∧ sp (kwVals dfl (.ref C) (ks.zip zs)) H2 Q E
theorem pe_cmethN {CX : CXT} {k : Nat} {C p g : Addr} {mc : Value} {sp : Sp} {E : XK} {o : Expr} {m c : Str} {pos apos : Pos} {ta : TE} {tk : TA} {fd : FuncData} {dfl : List (Str × V)} {kws : List Keyword} {ks : List Str} {pl : Sem Bool} (he : PE X o ta) (r : CRead X.K C mc) (cm : CMet X.K C mc m p g)
    (F : FnOk X.prog X.w X.K X.mg X.base CX k g fd (c :: dfl.map (·.1)) sp) (B : KwB X.K fd c dfl) (hr : Room k X.A) (hx : Passes CX X E) (hkw : PK X kws tk)
    (hsub : ∀ n ∈ ks, n ∈ dfl.map (·.1)) (hnd : ks.Nodup)
    (hall : (backToKw pos (keywordEach kws X.env)).all (·.1.isSome) = true := by rfl) (hks : (backToKw pos (keywordEach kws X.env)).filterMap (·.1) = ks := by rfl)
    (hpl : ((backTo pos (starEach [] X.env)).any (·.1) || (backToKw pos (keywordEach kws X.env)).any (·.1.isNone)) = false := by rfl)
    (ht : eval (.Call (.Attribute o m apos) [] kws pos) X.env = (do
      let ov ← eval o X.env
      standAt apos.atName
      let (f, first) ← holding [ov] (getMethod ov m pl)
      callWith pos f first (backTo pos (starEach [] X.env)) (backToKw pos (keywordEach kws X.env))) := by rfl) :
    PE X (.Call (.Attribute o m apos) [] kws pos) (tCMethN C ks dfl sp E ta tk) := by
  refine ⟨fun pins s σ H Q I h => ?_⟩
  refine PySem.W.methodCall_KW (pl := pl) (thn (he.run pins s σ H _ I h) fun u s1 ⟨x, H1, I1, rx, ex, q⟩ => ?_) ht
  subst ex
  obtain rfl : u = Value.ref C := rx
  refine getmethcm_ok I1 r cm fun s2 I2 => ?_
  refine PySem.W.callWith_of (P := PySem.W.MethP X.K s1.heap.objs.size g (.ref C)) hpl (PySem.W.keeps_M cm.fi) (PyProof.Rows.evalArgs_kw2_nil hall ?_)
  refine thn (hkw.run pos _ s2 σ H1 _ I2 q) fun ws s3 ⟨zs, H3, I3, rz, hl, hsp⟩ => ?_
  refine ⟨⟨pin_at I3, I3.kIn⟩, ?_⟩
  rw [hks]
  obtain ⟨us, hbind, rv⟩ := B.binds (s := s3) I3.kIn (show RelV (.ref C) (.ref C) from rfl) (relK_zip (ks := ks) rz) (fun q hq => hsub q.1 (by
    have z : q.1 ∈ (ks.zip zs).map (·.1) := List.mem_map.mpr ⟨q, hq, rfl⟩
    rw [zip_fst hl] at z
    exact z)) (by rw [zip_fst hl]; exact hnd)
  have z : wpAny (model X.prog X.w) X.A (call (.ref s1.heap.objs.size) ([] ++ []) (ks.zip ws)) (EP X ((s1.heap.objs.size, PySem.W.methodObj (.ref g) (.ref C)) :: pins) σ Q) X.xe s3 := by
    refine wpAny_call (PySem.W.method_call (pin_at I3) (codeAny_mono (F.run X.A X.stack s3 H3 ⟨[.ref C], ks.zip ws⟩ us _ Q E hr I3.env0 hbind rv hsp) fun r s' hq => ?_))
    cases r with
    | error e => exact hx _ σ H3 s3 e s' I3 hq
    | ok fl =>
      cases fl with
      | ret u => exact I3.after hq
      | next => exact False.elim hq
      | brk => exact False.elim hq
      | cont => exact False.elim hq
  exact thn z fun _ _ y => unpinE y
/-- x(e, ..), x a local name that holds a class -/
def tMakeV (i : Nat) (C : Addr) (sp : Sp) (E : XK) (t : TA) : TE := fun σ H Q => σ[i]? = some (some (.ref C)) ∧ t σ H fun vs H1 => ∀ x dx, H1 x = none → H1 dx = none → dx ≠ x →
  sp (V.ref x :: vs) (upd (upd H1 dx (.own x)) x (.ins C dx [])) (fun v H2 => v = .non ∧ Q (.ref x) H2) E
theorem pe_makeV {CX : CXT} {k i : Nat} {f C : Addr} {sp : Sp} {E : XK} {x : Str} {e : Expr} {es : List Expr} {t : TA} {p pos : Pos} (M : Mk X.K C f) (F : FnR X.prog X.w X.K X.mg X.base CX k f sp) (hr : Room (k + 1) X.A) (hx : Passes CX X E)
    (ha : PA X (e :: es) t) (hN : X.N[i]? = some x := by rfl) (hv : Vis X.env.scope x := by first | exact Or.inl rfl | exact Or.inr (Or.inl rfl) | exact Or.inr (Or.inr rfl)) (hd : (x == ("__debug__" : Str)) = false := by decide) (hcd : (x == ("__classdict__" : Str)) = false := by decide)
    (he : starEach (e :: es) X.env = (false, eval e X.env) :: starEach es X.env := by rfl) (hpl : (backTo pos (starEach es X.env)).any (·.1) = false := by rfl) : PE X (.Call (.Name x p) (e :: es) [] pos) (tMakeV i C sp E t) := by
  refine ⟨fun pins s σ H Q I h => ?_⟩
  obtain ⟨hs, h⟩ := h
  refine wpAny_Call_Name_kw (thn ((pe_var (pos := p) (i := i) hN hv hd hcd).run pins s σ H (fun v H1 => v = .ref C ∧ H1 = H) I ⟨.ref C, hs, rfl, rfl⟩) fun u s1 ⟨v, H1, I1, r1, ev, eH⟩ => ?_)
  subst ev
  rw [eH] at I1
  cases r1
  refine PySem.W.callWith_K (h₀ := X.base) I.ok.mod.kin M.kp (thn (ha.run pos pins s1 σ H _ I1 h) fun us s2 ⟨vs, H2, I2, r, q⟩ => ⟨I2.kIn, ?_⟩) he hpl
  exact StX.run_makeR M F hr hx I2 r q
end
end Xr
set_option Elab.async false
set_option linter.all false
set_option maxRecDepth 100000
set_option maxHeartbeats 4000000
namespace Xr
open PySem PySem.Spec PyProof.Rows L2
section
variable {X : Cx} {C f : Addr} {k : Nat} {sp : Sp}
/-- a special method of an own class, run at another around with the same frames; it lets nothing out -/
theorem run_sp {A : Around} {pins : List (Addr × Obj)} {σ : L2.St} {H : Hp} {s : Shared} {us : List Value} {vs : List V} {Q : VK} {E : Value → Shared → Prop} (F : FnR X.prog X.w X.K X.mg X.base CX0 k f sp) (hr : Room k A) (hA : A.frames = some X.stack) (I : Inv X pins σ H s) (r : Vals vs us) (h : sp vs H Q E0) :
    wpAny (model X.prog X.w) A (call (.ref f) us) (EP X pins σ Q) E s := by
  have e0 : Env0 X.prog X.w X.K X.mg X.base A X.stack s H := by
    have e := I.env0
    exact ⟨hA, e.mod, e.bs, e.bsz, e.funs, e.frf, e.hok, e.bare⟩
  refine wpAny_call (codeAny_mono (F A X.stack s H us vs Q E0 hr e0 r h) fun r s' hq => ?_)
  cases r with
  | error e => exact False.elim hq
  | ok fl =>
    cases fl with
    | ret u => exact I.after hq
    | next => exact False.elim hq
    | brk => exact False.elim hq
    | cont => exact False.elim hq
/-- the promise's way out is a text -/
def SpIns (C : Addr) (sp : Sp) (P : V → Prop) (xs : List V) (H : Hp) (Q : VK) : Prop := ∃ a dx fs, xs = [.ref a] ∧ H a = some (.ins C dx fs) ∧ sp [.ref a] H (fun v H' => P v ∧ Q v H') E0
def isStrV (v : V) : Prop := ∃ y, v = .str y
def isLenV (v : V) : Prop := ∃ n : Int, v = .int n ∧ 0 ≤ n ∧ n < 2 ^ 63
theorem call_len_ins (F : FnR X.prog X.w X.K X.mg X.base CX0 k f sp) (hr : Room (k + 1) X.A) (hs : PySem.W.findIn X.K (.ref C) "__len__" = some (some (.ref f))) (hf : PySem.W.isFn X.K (.ref f) = true) : CallR X (.builtin "len") (SpIns C sp isLenV) := by
  intro pins s σ H xs us Q I rs h
  obtain ⟨a, dx, fs, rfl, ea, h⟩ := h
  cases rs with
  | cons r rr =>
    cases rr
    cases r
    obtain ⟨mA, O, _, _, _, _⟩ := ins_get I.hok ea
    obtain ⟨od, J, _⟩ := O.look
    obtain ⟨m, hF⟩ := I.fr
    refine PySem.W.len_K hF I.ok.mod.kin J hs hf (wpAny_mono (run_sp (A := X.A.in1) (vs := [.ref a]) F hr.in1 I.ok.frames I (.cons rfl .nil) h) (fun v s' hv => ?_) fun _ _ e => e)
    obtain ⟨y, H', I', ry, ⟨n, rfl, h0, h1⟩, q⟩ := hv
    obtain ⟨t, rfl⟩ := ry
    exact ⟨⟨h0, h1⟩, .int n, H', I'.tok _, ⟨_, rfl⟩, q⟩
theorem call_repr_ins (F : FnR X.prog X.w X.K X.mg X.base CX0 k f sp) (hr : Room (k + 1) X.A) (hs : PySem.W.findIn X.K (.ref C) "__repr__" = some (some (.ref f))) (hf : PySem.W.isFn X.K (.ref f) = true) : CallR X (.builtin "repr") (SpIns C sp isStrV) := by
  intro pins s σ H xs us Q I rs h
  obtain ⟨a, dx, fs, rfl, ea, h⟩ := h
  cases rs with
  | cons r rr =>
    cases rr
    cases r
    obtain ⟨mA, O, _, _, _, _⟩ := ins_get I.hok ea
    obtain ⟨od, J, _⟩ := O.look
    obtain ⟨m, hF⟩ := I.fr
    refine PySem.W.repr_K hr.in1.units0 hF I.ok.mod.kin J hs hf (wpAny_mono (run_sp (A := X.A.in1) (vs := [.ref a]) F hr.in1 I.ok.frames I (.cons rfl .nil) h) (fun v s' hv => ?_) fun _ _ e => e)
    obtain ⟨y, H', I', ry, ⟨z, rfl⟩, q⟩ := hv
    obtain ⟨t, rfl⟩ := ry
    exact ⟨.str z, H', I', ⟨_, rfl⟩, q⟩
theorem call_str_ins (F : FnR X.prog X.w X.K X.mg X.base CX0 k f sp) (hr : Room (k + 2) X.A) (hs : PySem.W.findIn X.K (.ref C) "__str__" = some (some (.ref f))) (hf : PySem.W.isFn X.K (.ref f) = true) : CallR X (.type "str") (SpIns C sp isStrV) := by
  intro pins s σ H xs us Q I rs h
  obtain ⟨a, dx, fs, rfl, ea, h⟩ := h
  cases rs with
  | cons r rr =>
    cases rr
    cases r
    obtain ⟨mA, O, _, _, _, _⟩ := ins_get I.hok ea
    obtain ⟨od, J, _⟩ := O.look
    have key0 : wpAny (model X.prog X.w) X.A.in1.in1 (call (.ref f) [.ref a]) (PySem.W.StrBack (EP X pins σ Q)) X.xe s :=
      wpAny_mono (run_sp (A := X.A.in1.in1) (vs := [.ref a]) F hr.in1.in1 I.ok.frames I (.cons rfl .nil) h) (fun v s' hv => by
        obtain ⟨y, H', I', ry, ⟨z, rfl⟩, q⟩ := hv
        obtain ⟨t, rfl⟩ := ry
        exact ⟨.str z, H', I', ⟨_, rfl⟩, q⟩) fun _ _ e => e
    refine callType_codes (T := "str") (Bi := Builtin.«object.__init__») (Q₁ := fun r s₁ => ∃ y u, r = .str y u ∧ EP X pins σ Q r s₁) PySem.F.called_str (PySem.F.typeCall_str_1 _) PySem.F.entry_object_init ?_ ?_
    · refine codeAny_of_tree ?_
      show wpAny _ X.A.in1.in1 (do checkBuiltinCall "str.__new__" ⟨[.type "str", .ref a], []⟩; again (.builtin "str.__new__" ⟨[.type "str", .ref a], []⟩)) _ _ s
      refine wpAny_bind (wpAny_of_eq (PySem.F.newCall_str_1 _) (wpAny_pure ⟨plainId_quiet (by decide +kernel) _, codeAny_builtin PySem.F.entry_str_new ?_⟩))
      rw [Around.under_plainId (by decide +kernel) _]
      rw [str_new_tree]
      refine wpAny_bind (wpAny_pure ?_)
      refine wpAny_bind (wpAny_of_eq isSubtype_str_str ?_)
      have key : wpAny (model X.prog X.w) X.A.in1.in1 (PySem.Builtin.Str.strOf (.ref a)) (fun r s₁ => ∃ y u, r = .str y u ∧ EP X pins σ Q r s₁) X.xe s := by
        unfold PySem.Builtin.Str.strOf
        rw [show PySem.Builtin.Str.isExactStr (.ref a) = false from rfl]
        refine wpAny_bind (m := cRoomFor _ _) (wpAny_cRoomFor hr.in1.in1.units0 ?_)
        refine wpAny_bind (m := callSpecial? (.ref a) (Str.ofString "__str__")) (PySem.W.special_fn I.kIn J hs (beq_iff_eq.mp hf) (wpAny_mono key0 (fun r s' z => ?_) fun _ _ y => y))
        cases r <;> first | exact z.elim | exact wpAny_pure ⟨_, _, rfl, z⟩
      exact wpAny_bind (wpAny_mono key (fun r s₁ hr => wpAny_pure hr) fun _ _ y => y)
    · rintro obj s₁ ⟨y, u, rfl, hq⟩
      exact ⟨typeIs_str _ _ _, PySem.F.args_object_init_2 _ _, object_init_meets PySem.F.called_str.init.lookup PySem.F.called_str.made (by decide) X.prog X.w X.A.in1 _ s₁ ⟨typeIs_str _ _ _, rfl, hq⟩⟩
end
end Xr
set_option Elab.async false
set_option linter.all false
set_option maxRecDepth 100000
set_option maxHeartbeats 4000000
/-! Xs: readings that compute: a slot, an operator, a subscript, a length by the values' own kinds, so that a straight text's reading unfolds by itself to its side conditions. -/
namespace Xs
open PySem PySem.Spec PyProof.Rows L2
theorem PE.imp {X : Cx} {e : Expr} {t t' : TE} (h : PE X e t) (i : ∀ σ H Q, t' σ H Q → t σ H Q) : PE X e t' := ⟨fun pins s σ H Q I q => h.run pins s σ H Q I (i σ H Q q)⟩
theorem PT.imp {X : Cx} {e : Expr} {t t' : TT} (h : PT X e t) (i : ∀ σ H Q, t' σ H Q → t σ H Q) : PT X e t' := ⟨fun pins s σ H Q I q => h.run pins s σ H Q I (i σ H Q q)⟩
theorem PS.imp {X : Cx} {st : Stmt} {t t' : TS} (h : PS X st t) (i : ∀ D σ H, t' D σ H → t D σ H) : PS X st t' := ⟨fun pins s σ H D I q => h.run pins s σ H D I (i D σ H q)⟩
theorem OpR.imp {X : Cx} {f : Value → Value → Sem Value} {r r' : R2} (h : OpR X f r) (i : ∀ x y H Q, r' x y H Q → r x y H Q) : OpR X f r' := fun pins s σ H x y v u Q I rx ry q => h pins s σ H x y v u Q I rx ry (i x y H Q q)
section
variable {X : Cx}
/-! ### slots, tests -/
def cVar (i : Nat) : TE := fun σ H Q => match σ[i]? with
  | some (some v) => Q v H
  | _ => False
theorem cv (i : Nat) {x : Str} {pos : Pos} (hN : X.N[i]? = some x := by rfl) (hv : Vis X.env.scope x := by first | exact Or.inl rfl | exact Or.inr (Or.inl rfl) | exact Or.inr (Or.inr rfl)) (hd : (x == ("__debug__" : Str)) = false := by decide)
    (hcd : (x == ("__classdict__" : Str)) = false := by decide) : PE X (.Name x pos) (cVar i) := PE.imp (pe_var hN hv hd hcd) fun σ H Q q => by
  unfold cVar at q
  split at q
  · exact ⟨_, ‹_›, q⟩
  · exact q.elim
def cBl (te : TE) : TT := fun σ H Q => te σ H fun x H' => match x with
  | .bl b => Q b H'
  | _ => False
end
theorem bl_eq {x : V} {H : Hp} {Q : Bool → Hp → Prop} : (∃ k, x = .bl k ∧ Q k H) = (match x with | .bl b => Q b H | _ => False) := propext ⟨fun ⟨k, e, q⟩ => by subst e; exact q, fun h => by cases x <;> first | exact h.elim | exact ⟨_, rfl, h⟩⟩
def cTru (K : PySem.W.Frag) (te : TE) : TT := fun σ H Q => te σ H fun x H' => match x with
  | .non => Q false H'
  | .bl b => Q b H'
  | .int i => Q (i != 0) H'
  | .str y => y.length ≤ sizeLine ∧ Q ((y.length : Int) != 0) H'
  | .ref p => ∃ k, TruV K (.ref p) H' k ∧ Q k H'
  | _ => False
theorem tru_eq {K : PySem.W.Frag} {x : V} {H : Hp} {Q : Bool → Hp → Prop} (hb : ∀ b, x ≠ .byt b) : (∃ k, TruV K x H k ∧ Q k H) = (match x with
  | .non => Q false H
  | .bl b => Q b H
  | .int i => Q (i != 0) H
  | .str y => y.length ≤ sizeLine ∧ Q ((y.length : Int) != 0) H
  | .ref p => ∃ k, TruV K (.ref p) H k ∧ Q k H
  | _ => False) := propext ⟨fun ⟨k, e, q⟩ => by
    cases x with
    | non => have e' : k = false := e; subst e'; exact q
    | bl b => have e' : k = b := e; subst e'; exact q
    | int i => have e' : k = (i != 0) := e; subst e'; exact q
    | str y => obtain ⟨h, e'⟩ : _ ∧ _ := e; subst e'; exact ⟨h, q⟩
    | ref p => exact ⟨k, e, q⟩
    | byt b => exact absurd rfl (hb b)
    | flt b => exact e.elim
    | ty n => exact e.elim, fun h => by
    cases x with
    | non => exact ⟨_, rfl, h⟩
    | bl b => exact ⟨_, rfl, h⟩
    | int i => exact ⟨_, rfl, h⟩
    | str y => exact ⟨_, ⟨h.1, rfl⟩, h.2⟩
    | ref p => exact h
    | _ => exact h.elim⟩
section
variable {X : Cx}
/-- an expression that gives True or False, as a test -/
theorem ct {e : Expr} {te : TE} (h : PE X e te) (hb : ∀ whole : Sem Value, PySem.isTrue e X.env whole = (do
      let v ← whole
      standAt e.pos
      holding [v] (truthy v)) := by intro _; rfl) : PT X e (cBl te) := PT.imp (pt_val h hb) fun σ H Q q => by
  unfold tB
  simp only [bl_eq]
  exact q
/-- a comparison as a test -/
theorem ctc {op : CmpOp} {r : R2} {a b : Expr} {ta tb : TE} {pos : Pos} (ho : OpR X (compareOp op) r) (ha : PE X a ta) (hb : PE X b tb) (hm : behindInMarks op b = false) : PT X (.Compare a [op] [b] pos) (cBl (tOp r ta tb)) := PT.imp (pt_cmpR ho ha hb hm) fun σ H Q q => by
  unfold tTest
  simp only [bl_eq]
  exact q
/-! ### operators -/
def cI (g : Int → Int → V) : R2 := fun x y H Q => match x, y with
  | .int i, .int j => Q (g i j) H
  | _, _ => False
theorem cI_imp {g : Int → Int → V} {x y : V} {H : Hp} {Q : VK} (h : cI g x y H Q) : rI0 g x y H Q := by
  cases x <;> cases y <;> first | exact h.elim | exact ⟨_, _, rfl, rfl, h⟩
def cIc (C : Int → Int → Prop) (g : Int → Int → V) : R2 := fun x y H Q => match x, y with
  | .int i, .int j => C i j ∧ Q (g i j) H
  | _, _ => False
theorem cIc_imp {C : Int → Int → Prop} {g : Int → Int → V} {x y : V} {H : Hp} {Q : VK} (h : cIc C g x y H Q) : rI C g x y H Q := by
  cases x <;> cases y <;> first | exact h.elim | exact ⟨_, _, rfl, rfl, h.1, h.2⟩
def cAdd (K : PySem.W.Frag) : R2 := fun x y H Q => match x, y with
  | .int i, .int j => Q (.int (i + j)) H
  | .str a, .str b => a.length + b.length ≤ sizeLine ∧ Q (.str (a ++ b)) H
  | .ref a, .ref b => rCat (.ref a) (.ref b) H Q ∨ rCatT K (.ref a) (.ref b) H Q
  | _, _ => False
theorem co_add : OpR X (binaryOp .Add) (cAdd X.K) := by
  intro pins s σ H x y v u Q I rx ry q
  cases x <;> cases y <;> first
    | exact q.elim
    | exact op_add pins s σ H _ _ v u Q I rx ry ⟨_, _, rfl, rfl, q⟩
    | exact op_add_str pins s σ H _ _ v u Q I rx ry ⟨_, _, rfl, rfl, q.1, q.2⟩
    | (rcases q with q | q
       · exact op_cat pins s σ H _ _ v u Q I rx ry q
       · exact op_catT pins s σ H _ _ v u Q I rx ry q)
theorem co_sub : OpR X (binaryOp .Sub) (cI fun i j => .int (i - j)) := OpR.imp op_sub fun _ _ _ _ q => cI_imp q
theorem co_mul : OpR X (binaryOp .Mult) (cIc CMul fun i j => .int (i * j)) := OpR.imp op_mul fun _ _ _ _ q => cIc_imp q
theorem co_mod : OpR X (binaryOp .Mod) (cIc (fun _ j => j ≠ 0) fun i j => .int (i.fmod j)) := OpR.imp op_modN fun _ _ _ _ q => cIc_imp q
theorem co_fdiv : OpR X (binaryOp .FloorDiv) (cIc CDivN fun i j => .int (i.fdiv j)) := OpR.imp op_fdivN fun _ _ _ _ q => cIc_imp q
theorem co_pow : OpR X (binaryOp .Pow) (cIc CPow fun i j => .int (i ^ j.toNat)) := OpR.imp op_pow fun _ _ _ _ q => cIc_imp q
theorem co_lt : OpR X (compareOp .Lt) (cI fun i j => .bl (decide (i < j))) := OpR.imp op_lt fun _ _ _ _ q => cI_imp q
theorem co_le : OpR X (compareOp .LtE) (cI fun i j => .bl (decide (i ≤ j))) := OpR.imp op_le fun _ _ _ _ q => cI_imp q
theorem co_gt : OpR X (compareOp .Gt) (cI fun i j => .bl (decide (j < i))) := OpR.imp op_gt fun _ _ _ _ q => cI_imp q
theorem co_ge : OpR X (compareOp .GtE) (cI fun i j => .bl (decide (j ≤ i))) := OpR.imp op_ge fun _ _ _ _ q => cI_imp q
/-- is None, is not None -/
def cIsN (neg : Bool) : R2 := fun x y H Q => match y with
  | .non => Q (.bl (if neg then !decide (x = .non) else decide (x = .non))) H
  | _ => False
theorem co_isN : OpR X (compareOp .Is) (cIsN false) := OpR.imp op_isN fun x y H Q q => by
  cases y <;> first | exact q.elim | exact ⟨rfl, q⟩
theorem co_notN : OpR X (compareOp .IsNot) (cIsN true) := OpR.imp op_notN fun x y H Q q => by
  cases y <;> first | exact q.elim | exact ⟨rfl, q⟩
/-- ==, != of flat values; of lists and tuples of data at any depth -/
def cEq (K : PySem.W.Frag) (neg : Bool) : R2 := fun x y H Q => match x, y with
  | .ref a, .ref b => ∃ d e, Dp K H (.ref a) d ∧ Dp K H (.ref b) e ∧ SeqAt.shaped d = true ∧ SeqAt.shaped e = true ∧ Q (.bl (if neg then !PyData.eqv d e else PyData.eqv d e)) H
  | x, y => scal x y = true ∧ Q (.bl (if neg then !decide (x = y) else decide (x = y))) H
theorem co_eq (hu : X.A.units + 64 < cLine) : OpR X (compareOp .Eq) (cEq X.K false) := by
  intro pins s σ H x y v u Q I rx ry q
  by_cases hr : ∃ a b, x = .ref a ∧ y = .ref b
  · obtain ⟨a, b, rfl, rfl⟩ := hr
    exact op_eqD hu pins s σ H _ _ v u Q I rx ry q
  · have q' : scal x y = true ∧ Q (.bl (decide (x = y))) H := by
      cases x <;> cases y <;> first | exact q | exact absurd ⟨_, _, rfl, rfl⟩ hr
    exact op_eq pins s σ H _ _ v u Q I rx ry q'
theorem co_ne (hu : X.A.units + 64 < cLine) : OpR X (compareOp .NotEq) (cEq X.K true) := by
  intro pins s σ H x y v u Q I rx ry q
  by_cases hr : ∃ a b, x = .ref a ∧ y = .ref b
  · obtain ⟨a, b, rfl, rfl⟩ := hr
    exact op_neD hu pins s σ H _ _ v u Q I rx ry q
  · have q' : scal x y = true ∧ Q (.bl (!decide (x = y))) H := by
      cases x <;> cases y <;> first | exact q | exact absurd ⟨_, _, rfl, rfl⟩ hr
    exact op_ne pins s σ H _ _ v u Q I rx ry q'
/-- x in y, x not in y: texts; a flat value in a list or tuple of such -/
def inTx (a b : Str) : Bool := !(Builtin.Str.occurrences b a 0 b.length 1).isEmpty
def cIn (K : PySem.W.Frag) (neg : Bool) : R2 := fun x y H Q => match y with
  | .str b => (match x with
    | .str a => Q (.bl (if neg then !inTx a b else inTx a b)) H
    | _ => False)
  | .ref p => ∃ xs, (SqL K H p xs ∨ SqT K H p xs) ∧ flatV x = true ∧ xs.all flatV = true ∧ Q (.bl (if neg then !inV x xs else inV x xs)) H
  | _ => False
theorem co_in : OpR X (compareOp .In) (cIn X.K false) := by
  intro pins s σ H x y v u Q I rx ry q
  cases y with
  | str b => cases x with
    | str a => exact op_in_str pins s σ H _ _ v u Q I rx ry ⟨_, _, rfl, rfl, q⟩
    | _ => exact q.elim
  | ref p =>
    obtain ⟨xs, h1, h2, h3, h4⟩ := q
    exact op_in_seq pins s σ H _ _ v u Q I rx ry ⟨p, xs, rfl, h1, h2, h3, h4⟩
  | _ => exact q.elim
theorem co_notIn : OpR X (compareOp .NotIn) (cIn X.K true) := by
  intro pins s σ H x y v u Q I rx ry q
  cases y with
  | str b => cases x with
    | str a => exact L2.op_notin_str pins s σ H _ _ v u Q I rx ry ⟨_, _, rfl, rfl, q⟩
    | _ => exact q.elim
  | ref p =>
    obtain ⟨xs, h1, h2, h3, h4⟩ := q
    exact op_notIn_seq pins s σ H _ _ v u Q I rx ry ⟨p, xs, rfl, h1, h2, h3, h4⟩
  | _ => exact q.elim
/-! ### subscripts, slices -/
def cIx (K : PySem.W.Frag) : R2 := fun x y H Q => match x, y with
  | .str z, .int i => z.length ≤ sizeLine ∧ ∃ c, atI z.cps.toList i = some c ∧ Q (.str ⟨#[c]⟩) H
  | .ref p, .int i => ∃ xs v, (SqL K H p xs ∨ SqT K H p xs) ∧ atI xs i = some v ∧ Q v H
  | _, _ => False
theorem ci_any : IxR X (cIx X.K) := by
  intro value slice pins s σ H x y v u Q I rx ry q hs
  cases x <;> cases y <;> first
    | exact q.elim
    | (obtain ⟨hz, c, h1, h2⟩ := q
       exact ix_str value slice pins s σ H _ _ v u Q I rx ry ⟨_, _, c, rfl, rfl, hz, h1, h2⟩ hs)
    | (obtain ⟨xs, z, h1, h2, h3⟩ := q
       rcases h1 with h1 | h1
       · exact ix_list value slice pins s σ H _ _ v u Q I rx ry ⟨_, xs, _, z, rfl, rfl, h1, h2, h3⟩ hs
       · exact ix_tup value slice pins s σ H _ _ v u Q I rx ry ⟨_, xs, _, z, rfl, rfl, h1, h2, h3⟩ hs)
/-- e[i] -/
theorem cix {a b : Expr} {ta tb : TE} {pos : Pos} (ha : PE X a ta) (hb : PE X b tb) (hp : PlainIx b := by exact fun _ _ => rfl) : PE X (.Subscript a b pos) (tOp (cIx X.K) ta tb) := pe_ix ci_any ha hb hp
def cSl (K : PySem.W.Frag) : V → Option Int → Option Int → Hp → VK → Prop := fun x lo hi H Q => match x with
  | .str z => z.length ≤ sizeLine ∧ Q (.str (cutS z lo hi)) H
  | .ref a => ∃ xs, SqL K H a xs ∧ ∀ p, H p = none → Q (.ref p) (upd H p (.lst (cutV xs lo hi)))
  | _ => False
theorem cs_any : SlR X (cSl X.K) := by
  intro pins s σ H x v vl vu lo hi sl Q I rx hs pl pu h
  cases x <;> first
    | exact h.elim
    | exact sl_str pins s σ H _ v vl vu lo hi sl Q I rx hs pl pu ⟨_, rfl, h.1, h.2⟩
    | (obtain ⟨xs, h1, h2⟩ := h
       exact sl_list pins s σ H _ v vl vu lo hi sl Q I rx hs pl pu ⟨_, xs, rfl, h1, h2⟩)
/-! ### built-ins -/
def cLen (K : PySem.W.Frag) : List V → Hp → VK → Prop := fun xs H Q => match xs with
  | [.str z] => z.length ≤ sizeLine ∧ Q (.int (z.length : Nat)) H
  | [.ref p] => ∃ ys, (SqL K H p ys ∨ SqT K H p ys) ∧ Q (.int (ys.length : Nat)) H
  | _ => False
theorem cc_len : CallR X (.builtin "len") (cLen X.K) := by
  intro pins s σ H xs us Q I rs h
  have z : ∃ x n, xs = [x] ∧ LenV X.K x H n ∧ Q (.int n) H := by
    match xs, h with
    | [.str z], h => exact ⟨_, z.length, rfl, ⟨h.1, rfl⟩, h.2⟩
    | [.ref p], h =>
      obtain ⟨ys, h1 | h1, q⟩ := h
      · exact ⟨_, ys.length, rfl, .inl ⟨ys, h1, rfl⟩, q⟩
      · exact ⟨_, ys.length, rfl, .inr ⟨ys, h1, rfl⟩, q⟩
  exact call_len pins s σ H xs us Q I rs z
def cAbs : List V → Hp → VK → Prop := fun xs H Q => match xs with
  | [.int i] => Q (.int (if i < 0 then -i else i)) H
  | _ => False
theorem cc_abs : CallR X (.builtin "abs") cAbs := by
  intro pins s σ H xs us Q I rs h
  refine call_abs pins s σ H xs us Q I rs ?_
  match xs, h with
  | [.int i], h => exact ⟨i, rfl, h⟩
def cMin2 : List V → Hp → VK → Prop := fun xs H Q => match xs with
  | [.int i, .int j] => Q (.int (if j < i then j else i)) H
  | _ => False
theorem cc_min2 (hc : X.calm = true) : CallR X (.builtin "min") cMin2 := by
  intro pins s σ H xs us Q I rs h
  refine call_min2 hc pins s σ H xs us Q I rs ?_
  match xs, h with
  | [.int i, .int j], h => exact ⟨i, j, rfl, h⟩
end
end Xs
set_option Elab.async false
set_option linter.all false
set_option maxRecDepth 100000
set_option maxHeartbeats 4000000
/-! Xt: a def's promise as one bundle (OkF), its call; texts' methods by values. -/
namespace Xs
open PySem PySem.Spec PyProof.Rows L2
/-- the def at f keeps the promise sp, called by place -/
def OkF (P : Program) (w : World) (K : PySem.W.Frag) (mg : Str → Option Value) (base : Heap) (CX : CXT) (k : Nat) (f : Addr) (ps : List Str) (sp : Sp) : Prop := ∃ fd, FnOk P w K mg base CX k f fd ps sp ∧ Binds K fd ps []
section
variable {P : Program} {w : World} {K : PySem.W.Frag} {mg : Str → Option Value} {base : Heap} {CX : CXT} {j k : Nat} {f : Addr} {ps : List Str} {sp sp' : Sp}
theorem OkF.mono (F : OkF P w K mg base CX j f ps sp) (h : j ≤ k) : OkF P w K mg base CX k f ps sp := ⟨F.choose, F.choose_spec.1.mono h, F.choose_spec.2⟩
theorem OkF.imp (F : OkF P w K mg base CX k f ps sp) (h : ∀ vs H Q E, sp' vs H Q E → sp vs H Q E) : OkF P w K mg base CX k f ps sp' := ⟨F.choose, F.choose_spec.1.imp h, F.choose_spec.2⟩
theorem OkF.r (F : OkF P w K mg base CX k f ps sp) : FnR P w K mg base CX k f sp := by
  obtain ⟨fd, F, b⟩ := F
  have z := F.raw b (.nil : Vals [] [])
  exact z.imp fun vs H Q E q => by rw [List.append_nil]; exact q
end
section
variable {X : Cx} {CX : CXT} {k : Nat} {f : Addr} {ps : List Str} {sp : Sp} {E : XK} {x : Str} {e : Expr} {es : List Expr} {t : TA} {p pos : Pos}
def tCallF (sp : Sp) (E : XK) (t : TA) : TE := fun σ H Q => t σ H fun vs H1 => sp vs H1 Q E
/-- f(e, ..), f a def of the text -/
theorem pf (F : OkF X.prog X.w X.K X.mg X.base CX k f ps sp) (hr : Room k X.A) (hm : X.mg x = some (.ref f)) (hk : PySem.W.keepIn X.K (.ref f) = true) (hx : Passes CX X E) (ha : PA X (e :: es) t) (hg : Gl X x := by rfl) (hdb : (x == ("__debug__" : Str)) = false := by decide)
    (he : starEach (e :: es) X.env = (false, eval e X.env) :: starEach es X.env := by rfl) (hpl : (backTo pos (starEach es X.env)).any (·.1) = false := by rfl) : PE X (.Call (.Name x p) (e :: es) [] pos) (tCallF sp E t) := by
  refine ⟨fun pins s σ H Q I h => ?_⟩
  refine wpAny_Call_Name_kw (ld_glob I hg hm ?_ hdb)
  refine PySem.W.callWith_K (h₀ := X.base) I.ok.mod.kin hk (thn (ha.run pos pins s σ H _ I h) fun us s1 ⟨vs, H1, I1, r, q⟩ => ⟨I1.kIn, ?_⟩) he hpl
  exact wpAny_call (run_fnR F.r hr hx I1 r q)
theorem pf0 (F : OkF X.prog X.w X.K X.mg X.base CX k f ps sp) (hr : Room k X.A) (hm : X.mg x = some (.ref f)) (hk : PySem.W.keepIn X.K (.ref f) = true) (hx : Passes CX X E) (hg : Gl X x := by rfl) (hdb : (x == ("__debug__" : Str)) = false := by decide) :
    PE X (.Call (.Name x p) [] [] pos) (tCallF sp E tNil) := by
  refine ⟨fun pins s σ H Q I h => ?_⟩
  refine wpAny_Call_Name_kw (ld_glob I hg hm ?_ hdb)
  exact PySem.W.callWith_K0 I.kIn hk (wpAny_call (run_fnR (us := []) F.r hr hx I .nil h))
/-- f(e, ..) within a try's body -/
def tCallFS (sp : Sp) (E : L2.St → XK) (t : TA) : TE := fun σ H Q => t σ H fun vs H1 => sp vs H1 Q (E σ)
theorem pfS {E : L2.St → XK} (F : OkF X.prog X.w X.K X.mg X.base CX k f ps sp) (hr : Room k X.A) (hm : X.mg x = some (.ref f)) (hk : PySem.W.keepIn X.K (.ref f) = true) (hx : ∀ σ, PassesAt CX X σ (E σ)) (ha : PA X (e :: es) t) (hg : Gl X x := by rfl) (hdb : (x == ("__debug__" : Str)) = false := by decide)
    (he : starEach (e :: es) X.env = (false, eval e X.env) :: starEach es X.env := by rfl) (hpl : (backTo pos (starEach es X.env)).any (·.1) = false := by rfl) : PE X (.Call (.Name x p) (e :: es) [] pos) (tCallFS sp E t) := by
  obtain ⟨fd, G, b⟩ := F
  exact pe_callS (E := E) G hr hg hm hk b hx ha hdb he hpl
end
/-! ### methods of texts by values -/
def cT1 (C : Str → Str → Prop) (g : Str → Str → V) : V → List V → Hp → VK → Prop := fun x xs H Q => match x, xs with
  | .str a, [.str b] => C a b ∧ Q (g a b) H
  | _, _ => False
def cT1f (g : Str → Str → V) : V → List V → Hp → VK → Prop := fun x xs H Q => match x, xs with
  | .str a, [.str b] => Q (g a b) H
  | _, _ => False
section
variable {X : Cx}
theorem MtR.imp {id : String} {r r' : V → List V → Hp → VK → Prop} (h : MtR X id r) (i : ∀ x xs H Q, r' x xs H Q → r x xs H Q) : MtR X id r' := fun pins s σ H x xs v us Q I rx rs q => h pins s σ H x xs v us Q I rx rs (i x xs H Q q)
theorem cT1_ex {C : Str → Str → Prop} {g : Str → Str → V} {x : V} {xs : List V} {H : Hp} {Q : VK} (h : cT1 C g x xs H Q) : ∃ a b, x = .str a ∧ xs = [.str b] ∧ C a b ∧ Q (g a b) H := by
  unfold cT1 at h
  split at h
  · exact ⟨_, _, rfl, rfl, h.1, h.2⟩
  · exact h.elim
theorem cT1f_ex {g : Str → Str → V} {x : V} {xs : List V} {H : Hp} {Q : VK} (h : cT1f g x xs H Q) : ∃ a b, x = .str a ∧ xs = [.str b] ∧ Q (g a b) H := by
  unfold cT1f at h
  split at h
  · exact ⟨_, _, rfl, rfl, h⟩
  · exact h.elim
theorem cm_startswith : MtR X "str.startswith" (cT1f fun a b => .bl (Txt.startswith a b)) := MtR.imp mt_startswith fun _ _ _ _ q => cT1f_ex q
theorem cm_find : MtR X "str.find" (cT1f fun a b => .int (Txt.find a b)) := MtR.imp mt_find fun _ _ _ _ q => cT1f_ex q
theorem cm_rfind : MtR X "str.rfind" (cT1f fun a b => .int (Txt.rfind a b)) := MtR.imp mt_rfind fun _ _ _ _ q => cT1f_ex q
theorem cm_lstripChars : MtR X "str.lstrip" (cT1 (fun a _ => a.length ≤ sizeLine) fun a b => .str (Txt.lstripChars a b)) := MtR.imp mt_lstripChars fun _ _ _ _ q => cT1_ex q
def cFind3 : V → List V → Hp → VK → Prop := fun x xs H Q => match x, xs with
  | .str a, [.str b, .int i] => Q (.int (Txt.find3 a b i)) H
  | .str a, [.str b, .int i, .int j] => Q (.int (Txt.findIn a b i j)) H
  | _, _ => False
theorem cm_find3 : MtR X "str.find" cFind3 := by
  intro pins s σ H x xs v us Q I rx rs h
  unfold cFind3 at h
  split at h
  · exact mt_find3 pins s σ H _ _ v us Q I rx rs ⟨_, _, _, rfl, rfl, h⟩
  · exact mt_find4 pins s σ H _ _ v us Q I rx rs ⟨_, _, _, _, rfl, rfl, h⟩
  · exact h.elim
def cSplit : V → List V → Hp → VK → Prop := fun x xs H Q => match x, xs with
  | .str a, [.str b] => (b.length == 0) = false ∧ a.length + 2 ≤ sizeLine ∧ rNewStrs (Txt.split a b) H Q
  | _, _ => False
theorem cm_split : MtR X "str.split" cSplit := MtR.imp mt_split fun x xs H Q q => by
  unfold cSplit at q
  split at q
  · exact ⟨_, _, rfl, rfl, q.1, q.2.1, q.2.2⟩
  · exact q.elim
def cPart : V → List V → Hp → VK → Prop := fun x xs H Q => match x, xs with
  | .str a, [.str b] => (b.length == 0) = false ∧ a.length ≤ sizeLine ∧ ∀ p, H p = none → Q (.ref p) (upd H p (.tup [.str (Txt.partition a b).1, .str (Txt.partition a b).2.1, .str (Txt.partition a b).2.2]))
  | _, _ => False
theorem cm_partition : MtR X "str.partition" cPart := MtR.imp mt_partition fun x xs H Q q => by
  unfold cPart at q
  split at q
  · exact ⟨_, _, rfl, rfl, q.1, q.2.1, q.2.2⟩
  · exact q.elim
/-- a text's method with any arguments -/
def cM (r : V → List V → Hp → VK → Prop) (to : TE) (t : TA) : TE := fun σ H Q => to σ H fun x H1 => (∃ a, x = .str a) ∧ t σ H1 fun xs H2 => r x xs H2 Q
end
end Xs
set_option Elab.async false
set_option linter.all false
set_option maxRecDepth 100000
set_option maxHeartbeats 4000000
/-! Xc: readings that look into the heap by themselves, heaps that grow, loops over enumerate. -/
namespace Xs
open PySem PySem.Spec PyProof.Rows L2
theorem nox_K {CX : CXT} {P : Program} {w : World} {K : PySem.W.Frag} {mg : Str → Option Value} {base : Heap} {N : List Str} {qual : Str} {scope : Scope} {f : Addr} {cdv : Value} {A : Around} {outer : List Env} {s : Shared} {H : Hp} {E : XK} : (cxOf CX P w K mg base N qual scope f cdv A outer s H E).nox.K = K := rfl
theorem cx_K {CX : CXT} {P : Program} {w : World} {K : PySem.W.Frag} {mg : Str → Option Value} {base : Heap} {N : List Str} {qual : Str} {scope : Scope} {f : Addr} {cdv : Value} {A : Around} {outer : List Env} {s : Shared} {H : Hp} {E : XK} : (cxOf CX P w K mg base N qual scope f cdv A outer s H E).K = K := rfl
section
variable {X : Cx}
/-! ### by the heap -/
def seqAt (H : Hp) (p : Addr) (i : Int) : Option V := match H p with
  | some (.lst xs) => atI xs i
  | some (.tup xs) => atI xs i
  | _ => none
def hIx (K : PySem.W.Frag) : R2 := fun x y H Q => match x, y with
  | .str z, .int i => z.length ≤ sizeLine ∧ (match atI z.cps.toList i with
    | some c => Q (.str ⟨#[c]⟩) H
    | none => False)
  | .ref p, .int i => (match seqAt H p i with
    | some v => Q v H
    | none => cIx K (.ref p) (.int i) H Q)
  | _, _ => False
theorem seqAt_lst {H : Hp} {p : Addr} {i : Int} {xs : List V} (h : H p = some (.lst xs)) : seqAt H p i = atI xs i := by
  unfold seqAt; rw [h]
theorem seqAt_tup {H : Hp} {p : Addr} {i : Int} {xs : List V} (h : H p = some (.tup xs)) : seqAt H p i = atI xs i := by
  unfold seqAt; rw [h]
theorem hIx_imp {K : PySem.W.Frag} {x y : V} {H : Hp} {Q : VK} (h : hIx K x y H Q) : cIx K x y H Q := by
  unfold hIx at h
  split at h
  · obtain ⟨h0, h⟩ := h
    split at h
    · exact ⟨h0, _, ‹_›, h⟩
    · exact h.elim
  · split at h
    · rename_i v hv
      unfold seqAt at hv
      split at hv
      · exact ⟨_, _, .inl (.inl (Rd.of ‹_›)), hv, h⟩
      · exact ⟨_, _, .inr (.inl (Rd.of ‹_›)), hv, h⟩
      · cases hv
    · exact h
  · exact h.elim
theorem hix {a b : Expr} {ta tb : TE} {pos : Pos} (ha : PE X a ta) (hb : PE X b tb) (hp : PlainIx b := by exact fun _ _ => rfl) : PE X (.Subscript a b pos) (tOp (hIx X.K) ta tb) :=
  pe_ix (fun value slice pins s σ H x y v u Q I rx ry q hs => ci_any value slice pins s σ H x y v u Q I rx ry (hIx_imp q) hs) ha hb hp
def hLen (K : PySem.W.Frag) : List V → Hp → VK → Prop := fun xs H Q => match xs with
  | [.str z] => z.length ≤ sizeLine ∧ Q (.int (z.length : Nat)) H
  | [.ref p] => (match H p with
    | some (.lst ys) => Q (.int (ys.length : Nat)) H
    | some (.tup ys) => Q (.int (ys.length : Nat)) H
    | _ => cLen K [.ref p] H Q)
  | _ => False
theorem hLen_imp {K : PySem.W.Frag} {xs : List V} {H : Hp} {Q : VK} (h : hLen K xs H Q) : cLen K xs H Q := by
  unfold hLen at h
  split at h
  · exact h
  · split at h
    · exact ⟨_, .inl (.inl (Rd.of ‹_›)), h⟩
    · exact ⟨_, .inr (.inl (Rd.of ‹_›)), h⟩
    · exact h
  · exact h.elim
theorem hc_len : CallR X (.builtin "len") (hLen X.K) := fun pins s σ H xs us Q I rs h => cc_len pins s σ H xs us Q I rs (hLen_imp h)
def hSl (K : PySem.W.Frag) : V → Option Int → Option Int → Hp → VK → Prop := fun x lo hi H Q => match x with
  | .str z => z.length ≤ sizeLine ∧ Q (.str (cutS z lo hi)) H
  | .ref a => (match H a with
    | some (.lst xs) => ∀ p, H p = none → Q (.ref p) (upd H p (.lst (cutV xs lo hi)))
    | _ => cSl K (.ref a) lo hi H Q)
  | _ => False
theorem hSl_imp {K : PySem.W.Frag} {x : V} {lo hi : Option Int} {H : Hp} {Q : VK} (h : hSl K x lo hi H Q) : cSl K x lo hi H Q := by
  unfold hSl at h
  split at h
  · exact h
  · split at h
    · exact ⟨_, .inl (Rd.of ‹_›), h⟩
    · exact h
  · exact h.elim
theorem hs_any : SlR X (hSl X.K) := fun pins s σ H x v vl vu lo hi sl Q I rx hs pl pu h => cs_any pins s σ H x v vl vu lo hi sl Q I rx hs pl pu (hSl_imp h)
def hTru (K : PySem.W.Frag) (te : TE) : TT := fun σ H Q => te σ H fun x H' => match x with
  | .non => Q false H'
  | .bl b => Q b H'
  | .int i => Q (i != 0) H'
  | .str y => y.length ≤ sizeLine ∧ Q ((y.length : Int) != 0) H'
  | .ref p => ∃ k, TruV K (.ref p) H' k ∧ Q k H'
  | .byt b => ∃ k, TruV K (.byt b) H' k ∧ Q k H'
  | _ => False
theorem truH_eq {K : PySem.W.Frag} {x : V} {H : Hp} {Q : Bool → Hp → Prop} : (∃ k, TruV K x H k ∧ Q k H) = (match x with
  | .non => Q false H
  | .bl b => Q b H
  | .int i => Q (i != 0) H
  | .str y => y.length ≤ sizeLine ∧ Q ((y.length : Int) != 0) H
  | .ref p => ∃ k, TruV K (.ref p) H k ∧ Q k H
  | .byt b => ∃ k, TruV K (.byt b) H k ∧ Q k H
  | _ => False) := propext ⟨fun ⟨k, e, q⟩ => by
    cases x with
    | non => have e' : k = false := e; subst e'; exact q
    | bl b => have e' : k = b := e; subst e'; exact q
    | int i => have e' : k = (i != 0) := e; subst e'; exact q
    | str y => obtain ⟨h, e'⟩ : _ ∧ _ := e; subst e'; exact ⟨h, q⟩
    | ref p => exact ⟨k, e, q⟩
    | byt b => exact ⟨k, e, q⟩
    | flt b => exact e.elim
    | ty n => exact e.elim, fun h => by
    cases x with
    | non => exact ⟨_, rfl, h⟩
    | bl b => exact ⟨_, rfl, h⟩
    | int i => exact ⟨_, rfl, h⟩
    | str y => exact ⟨_, ⟨h.1, rfl⟩, h.2⟩
    | ref p => exact h
    | byt b => exact h
    | _ => exact h.elim⟩
/-- a value as a test -/
theorem hTr {e : Expr} {te : TE} (h : PE X e te) (hb : ∀ whole : Sem Value, PySem.isTrue e X.env whole = (do
      let v ← whole
      standAt e.pos
      holding [v] (truthy v)) := by intro _; rfl) : PT X e (hTru X.K te) := PT.imp (pt_truth h hb) fun σ H Q q => by
  unfold hTru at q
  simp only [← truH_eq] at q
  exact q
theorem ps_dead {st : Stmt} : PS X st (fun _ _ _ => False) := ⟨fun _ _ _ _ _ _ h => h.elim⟩
/-! ### a text's method by values -/
/-- xs[d], d a drawn place -/
theorem hIx_all {K : PySem.W.Frag} {xs : List V} {d : Int} {p : Addr} {H : Hp} {Q : VK} (hp : H p = some (.lst xs)) (h0 : 0 ≤ d) (h1 : d < xs.length) (h : ∀ v ∈ xs, Q v H) : hIx K (.ref p) (.int d) H Q := by
  show (match seqAt H p d with
    | some v => Q v H
    | none => cIx K (.ref p) (.int d) H Q)
  rw [seqAt_lst hp]
  have e : atI xs d = some xs[d.toNat] := by
    unfold atI ixN
    rw [if_pos h0, if_pos h1]
    simp
  simp only [e]
  exact h _ (List.getElem_mem _)
theorem setL_at {H : Hp} {p : Addr} {xs : List V} {k : Int} {j : Nat} {v : V} {Q : Hp → Prop} (hp : H p = some (.lst xs)) (hj : ixN xs.length k = some j) (q : Q (upd H p (.lst (xs.set j v)))) : rSetL (.ref p) (.int k) v H Q := ⟨p, xs, k, j, rfl, rfl, hp, hj, q⟩
theorem hIx_chr {K : PySem.W.Frag} {z : Str} {d : Int} {H : Hp} {Q : VK} (hz : z.length ≤ sizeLine) (h0 : 0 ≤ d) (h1 : d < (z.length : Nat)) (h : ∀ c ∈ z.cps.toList, Q (.str ⟨#[c]⟩) H) : hIx K (.str z) (.int d) H Q := by
  refine ⟨hz, ?_⟩
  have hl : (z.length : Nat) = z.cps.toList.length := by simp [Str.length]
  have h1' : d < z.cps.toList.length := by rw [← hl]; exact h1
  have hj : d.toNat < z.cps.toList.length := by omega
  have e : atI z.cps.toList d = some (z.cps.toList[d.toNat]'hj) := by
    unfold atI ixN
    rw [if_pos h0, if_pos h1']
    show z.cps.toList[d.toNat]? = _
    exact List.getElem?_eq_getElem hj
  rw [e]
  exact h _ (List.getElem_mem _)
end
/-! ### heaps that grow, but for the object at a -/
def Kp (a : Addr) (H H' : Hp) : Prop := ∀ p o, p ≠ a → H p = some o → H' p = some o
theorem Kp.refl {a : Addr} {H : Hp} : Kp a H H := fun _ _ _ h => h
theorem Kp.trans {a : Addr} {H H' H'' : Hp} (h : Kp a H H') (h' : Kp a H' H'') : Kp a H H'' := fun p o n e => h' p o n (h p o n e)
theorem Kp.fresh {a p : Addr} {H H' : Hp} {o : HO} (h : Kp a H H') (hp : H' p = none) : Kp a H (upd H' p o) := fun q o' n e => by
  have z := h q o' n e
  unfold upd
  split
  · subst q; rw [hp] at z; cases z
  · exact z
theorem Kp.at {a : Addr} {H H' : Hp} {o : HO} (h : Kp a H H') : Kp a H (upd H' a o) := fun q o' n e => by
  unfold upd
  rw [if_neg n]
  exact h q o' n e
theorem upd_self {H : Hp} {a : Addr} {o : HO} : upd H a o a = some o := if_pos rfl
theorem upd_old {H : Hp} {a p : Addr} {o o' : HO} (h : H a = some o') (hp : H p = none) : upd H p o a = some o' := by
  rw [upd_ne, h]
  intro e; subst e; rw [h] at hp; cases hp
theorem _root_.L2.Ext.rf {H : Hp} : Ext H H := fun _ _ h => h
theorem _root_.L2.Ext.tr {H H' H'' : Hp} (h : Ext H H') (h' : Ext H' H'') : Ext H H'' := fun a o e => h' a o (h a o e)
theorem _root_.L2.Ext.fresh {H H' : Hp} {p : Addr} {o : HO} (h : Ext H H') (hp : H' p = none) : Ext H (upd H' p o) := fun a o' e => upd_old (h a o' e) hp
theorem Kp.ext {a : Addr} {H H' H'' : Hp} (h : Kp a H H') (h' : Ext H' H'') : Kp a H H'' := fun p o n e => h' p o (h p o n e)
theorem ne_none {H : Hp} {a p : Addr} {o : HO} (h : H a = some o) (hp : H p = none) : a ≠ p := fun e => by subst e; rw [h] at hp; cases hp
/-! ### enumerate -/
theorem for_enum {K : PySem.W.Frag} {a : Addr} {xs : List V} {g : TG} {tb : TS} {D : Ends} {σ : L2.St} {H : Hp} (Pv : Nat → L2.St → Hp → Prop) (h0 : Pv 0 σ H) (hl : ∀ i σ H, i ≤ xs.length → Pv i σ H → SqL K H a xs)
    (hs : ∀ i x σ H T, xs[i]? = some x → Pv i σ H → H T = none → g (.ref T) σ (upd H T (.tup [.int (i : Nat), x])) fun σ2 H2 => tb { D with nx := Pv (i + 1), ct := Pv (i + 1), bk := D.nx } σ2 H2) (hd : ∀ σ H, Pv xs.length σ H → D.nx σ H) :
    ∃ W : Nat → Nat → L2.St → Hp → Prop, (∃ m, W 0 m σ H) ∧ ∀ i m σ H, W i m σ H →
      ((Ite K a).stop i H ∧ D.nx σ H) ∨ ((Ite K a).go i H ∧ ∃ N : L2.St → Hp → Prop, (∀ σ' H', N σ' H' → ∃ m', m' < m ∧ W (i + 1) m' σ' H') ∧ ∀ x H', (Ite K a).yld i H x H' → g x σ H' fun σ2 H2 => tb { D with nx := N, ct := N, bk := D.nx } σ2 H2) := by
  refine ⟨fun i m σ H => m = xs.length - i ∧ i ≤ xs.length ∧ Pv i σ H, ⟨xs.length, by simp, Nat.zero_le _, h0⟩, ?_⟩
  rintro i m σ H ⟨rfl, hi, p⟩
  have q := hl i σ H hi p
  by_cases hlt : i < xs.length
  · refine .inr ⟨⟨xs, xs[i], q, by simp [hlt]⟩, Pv (i + 1), fun σ' H' p' => ⟨xs.length - (i + 1), by omega, rfl, hlt, p'⟩, fun x H' y => ?_⟩
    obtain ⟨T, z, e, hT, e2, y⟩ := y
    subst e e2
    exact hs i z σ _ T (y xs q) p hT
  · have e : i = xs.length := by omega
    subst e
    exact .inl ⟨⟨xs, q, Nat.le_refl _⟩, hd σ H p⟩
/-- a loop from its state on -/
def Lp (J : It) (g : TG) (tb : TS) (D : Ends) (σ : L2.St) (H : Hp) : Prop := ∃ W : Nat → Nat → L2.St → Hp → Prop, (∃ m, W 0 m σ H) ∧ ∀ i m σ H, W i m σ H →
  (J.stop i H ∧ D.nx σ H) ∨ (J.go i H ∧ ∃ N : L2.St → Hp → Prop, (∀ σ' H', N σ' H' → ∃ m', m' < m ∧ W (i + 1) m' σ' H') ∧ ∀ x H', J.yld i H x H' → g x σ H' fun σ2 H2 => tb { D with nx := N, ct := N, bk := D.nx } σ2 H2)
theorem tFor_eq {wi : TI} {g : TG} {tb : TS} {D : Ends} {σ : L2.St} {H : Hp} : tFor wi g tb D σ H = wi σ H fun J H1 => Lp J g tb D σ H1 := rfl
/-- the ends of a loop's body: on to Nx, out to the end behind the loop -/
abbrev inL (D : Ends) (Nx : L2.St → Hp → Prop) : Ends := { D with nx := Nx, ct := Nx, bk := D.nx }
theorem lp_enum {K : PySem.W.Frag} {a : Addr} {xs : List V} {g : TG} {tb : TS} {D : Ends} {σ : L2.St} {H : Hp} (Pv : Nat → L2.St → Hp → Prop) (h0 : Pv 0 σ H) (hl : ∀ i σ H, i ≤ xs.length → Pv i σ H → SqL K H a xs)
    (hs : ∀ i x σ H T, xs[i]? = some x → Pv i σ H → H T = none → g (.ref T) σ (upd H T (.tup [.int (i : Nat), x])) fun σ2 H2 => tb (inL D (Pv (i + 1))) σ2 H2) (hd : ∀ σ H, Pv xs.length σ H → D.nx σ H) : Lp (Ite K a) g tb D σ H := for_enum Pv h0 hl hs hd
theorem lp_list {K : PySem.W.Frag} {a : Addr} {xs : List V} {g : TG} {tb : TS} {D : Ends} {σ : L2.St} {H : Hp} (Pv : Nat → L2.St → Hp → Prop) (h0 : Pv 0 σ H) (hl : ∀ i σ H, i ≤ xs.length → Pv i σ H → SqL K H a xs)
    (hs : ∀ i x σ H, xs[i]? = some x → Pv i σ H → g x σ H fun σ2 H2 => tb (inL D (Pv (i + 1))) σ2 H2) (hd : ∀ σ H, Pv xs.length σ H → D.nx σ H) : Lp (Itl K a) g tb D σ H := for_list Pv h0 hl hs hd
theorem lp_tup {K : PySem.W.Frag} {a : Addr} {xs : List V} {g : TG} {tb : TS} {D : Ends} {σ : L2.St} {H : Hp} (Pv : Nat → L2.St → Hp → Prop) (h0 : Pv 0 σ H) (hl : ∀ i σ H, i ≤ xs.length → Pv i σ H → SqT K H a xs)
    (hs : ∀ i x σ H, xs[i]? = some x → Pv i σ H → g x σ H fun σ2 H2 => tb (inL D (Pv (i + 1))) σ2 H2) (hd : ∀ σ H, Pv xs.length σ H → D.nx σ H) : Lp (Itt K a) g tb D σ H := for_tup Pv h0 hl hs hd
theorem lp_zipT {K : PySem.W.Frag} {a b : Addr} {xs ys : List V} {g : TG} {tb : TS} {D : Ends} {σ : L2.St} {H : Hp} (hl : xs.length = ys.length) (Pv : Nat → L2.St → Hp → Prop) (h0 : Pv 0 σ H) (hq : ∀ i σ H, Pv i σ H → SqT K H a xs ∧ SqT K H b ys)
    (hs : ∀ (i : Nat) (x y : V) (T : Addr) (σ : L2.St) (H : Hp), xs[i]? = some x → ys[i]? = some y → Pv i σ H → H T = none → g (.ref T) σ (upd H T (.tup [x, y])) fun σ2 H2 => tb (inL D (Pv (i + 1))) σ2 H2) (hd : ∀ σ H, Pv xs.length σ H → D.nx σ H) : Lp (RZ.ItzT K a b) g tb D σ H := RZ.for_zipT hl Pv h0 hq hs hd
theorem lp_range {lo : Int} {n : Nat} {g : TG} {tb : TS} {D : Ends} {σ : L2.St} {H : Hp} (Pv : Nat → L2.St → Hp → Prop) (h0 : Pv 0 σ H)
    (hs : ∀ i σ H, i < n → Pv i σ H → g (.int (lo + i)) σ H fun σ2 H2 => tb (inL D (Pv (i + 1))) σ2 H2) (hd : ∀ σ H, Pv n σ H → D.nx σ H) : Lp (Itr lo n) g tb D σ H := for_range Pv h0 hs hd
theorem lp_while {c : TT} {tb : TS} {D : Ends} {σ : L2.St} {H : Hp} (Pv : L2.St → Hp → Prop) (μ : L2.St → Hp → Nat) (h0 : Pv σ H)
    (hs : ∀ σ H, Pv σ H → c σ H fun b H1 => if b = true then ∃ N : L2.St → Hp → Prop, (∀ σ' H', N σ' H' → ∃ m', m' < μ σ H ∧ m' = μ σ' H' ∧ Pv σ' H') ∧ tb { D with nx := N, ct := N, bk := D.nx } σ H1 else D.nx σ H1) : tWhile c tb D σ H :=
  ⟨fun m σ H => m = μ σ H ∧ Pv σ H, ⟨_, rfl, h0⟩, by rintro m σ H ⟨rfl, p⟩; exact hs σ H p⟩
/-- a comprehension's run -/
def LcP (J : It) (g : TG) (tt : TT) (te : TE) (vs : List Nat) (σ : L2.St) (H1 : Hp) (D : Addr) (Qd : Hp → Prop) : Prop := ∃ W : Nat → Nat → Hp → Prop, (∃ m, W 0 m (upd H1 D (.lst []))) ∧ ∀ i m H, W i m H →
  (J.stop i H ∧ Qd H) ∨ (J.go i H ∧ ∃ Nx : Hp → Prop, (∀ H', Nx H' → ∃ m', m' < m ∧ W (i + 1) m' H') ∧ ∀ x H', J.yld i H x H' → g x (wipe σ vs) H' fun σ2 H2 => wipe σ2 vs = wipe σ vs ∧ tt σ2 H2 fun b H3 =>
    if b = true then te σ2 H3 fun y H4 => ∃ acc, H4 D = some (.lst acc) ∧ acc.length < sizeLine ∧ Nx (upd H4 D (.lst (acc ++ [y]))) else Nx H3)
theorem tLc_eq {wi : TI} {g : TG} {tt : TT} {te : TE} {vs : List Nat} {σ : L2.St} {H : Hp} {Q : VK} : tLc wi g tt te vs σ H Q = wi σ H fun J H1 => ∀ D, H1 D = none → LcP J g tt te vs σ H1 D (Q (.ref D)) := rfl
theorem lc_its {x : Str} {g : TG} {tt : TT} {te : TE} {vs : List Nat} {σ : L2.St} {H1 : Hp} {D : Addr} {Qd : Hp → Prop} (Pv : Nat → Hp → Prop) (h0 : Pv 0 (upd H1 D (.lst [])))
    (hs : ∀ i c H, (TL.tl x)[i]? = some c → Pv i H → g (.str ⟨#[c]⟩) (wipe σ vs) H fun σ2 H2 => wipe σ2 vs = wipe σ vs ∧ tt σ2 H2 fun b H3 =>
      if b = true then te σ2 H3 fun y H4 => ∃ acc, H4 D = some (.lst acc) ∧ acc.length < sizeLine ∧ Pv (i + 1) (upd H4 D (.lst (acc ++ [y]))) else Pv (i + 1) H3) (hd : ∀ H, Pv (TL.tl x).length H → Qd H) : LcP (Its x) g tt te vs σ H1 D Qd := by
  have hl : (TL.tl x).length = x.cps.size := by simp [TL.tl]
  refine ⟨fun i m H => m = x.cps.size - i ∧ i ≤ x.cps.size ∧ Pv i H, ⟨x.cps.size, by simp, Nat.zero_le _, h0⟩, ?_⟩
  rintro i m H ⟨rfl, hi, p⟩
  by_cases hlt : i < x.cps.size
  · refine .inr ⟨hlt, Pv (i + 1), fun H' p' => ⟨x.cps.size - (i + 1), by omega, rfl, hlt, p'⟩, fun v H' y => ?_⟩
    obtain ⟨e, c, hc, e2⟩ := y
    subst e e2
    exact hs i c _ (by rw [show (TL.tl x)[i]? = x.cps.toList[i]? from rfl, Array.getElem?_toList]; exact hc) p
  · have e : i = x.cps.size := by omega
    subst e
    exact .inl ⟨Nat.le_refl _, hd H (by rw [hl]; exact p)⟩
theorem cps {R : VK → Prop} {Q : VK} (Pp : V → Hp → Prop) (h1 : ∀ v H, Pp v H → Q v H) (h2 : ∀ Q' : VK, (∀ v H, Pp v H → Q' v H) → R Q') : R Q := h2 Q h1
section
variable {X : Cx}
/-! ### ==, != by kinds -/
def hEq (K : PySem.W.Frag) : R2 := fun x y H Q => match x, y with
  | .int i, .int j => Q (.bl (decide (i = j))) H
  | .str a, .str b => Q (.bl (decide (a = b))) H
  | x, y => cEq K false x y H Q
def hNe (K : PySem.W.Frag) : R2 := fun x y H Q => match x, y with
  | .int i, .int j => Q (.bl (decide (¬ i = j))) H
  | .str a, .str b => Q (.bl (decide (¬ a = b))) H
  | x, y => cEq K true x y H Q
theorem hEq_imp {K : PySem.W.Frag} {x y : V} {H : Hp} {Q : VK} (h : hEq K x y H Q) : cEq K false x y H Q := by
  unfold hEq at h
  split at h
  · refine ⟨rfl, ?_⟩
    rw [if_neg (by decide)]
    rename_i i j
    have e : decide (V.int i = V.int j) = decide (i = j) := by simp
    rw [e]; exact h
  · refine ⟨rfl, ?_⟩
    rw [if_neg (by decide)]
    rename_i i j
    have e : decide (V.str i = V.str j) = decide (i = j) := by simp
    rw [e]; exact h
  · exact h
theorem hNe_imp {K : PySem.W.Frag} {x y : V} {H : Hp} {Q : VK} (h : hNe K x y H Q) : cEq K true x y H Q := by
  unfold hNe at h
  split at h
  · refine ⟨rfl, ?_⟩
    rw [if_pos rfl]
    rename_i i j
    have e : (!decide (V.int i = V.int j)) = decide (¬ i = j) := by simp
    rw [e]; exact h
  · refine ⟨rfl, ?_⟩
    rw [if_pos rfl]
    rename_i i j
    have e : (!decide (V.str i = V.str j)) = decide (¬ i = j) := by simp
    rw [e]; exact h
  · exact h
theorem ho_eq (hu : X.A.units + 64 < cLine) : OpR X (compareOp .Eq) (hEq X.K) := OpR.imp (co_eq hu) fun _ _ _ _ q => hEq_imp q
theorem ho_ne (hu : X.A.units + 64 < cLine) : OpR X (compareOp .NotEq) (hNe X.K) := OpR.imp (co_ne hu) fun _ _ _ _ q => hNe_imp q
end
/-- "..".join(a list of texts) -/
def cJoin (K : PySem.W.Frag) : V → List V → Hp → VK → Prop := fun x xs H Q => match x, xs with
  | .str a, [.ref p] => ∃ ys : List Str, (SqL K H p (ys.map V.str) ∨ SqT K H p (ys.map V.str)) ∧ (ys.map (·.length)).sum + ys.length * a.length ≤ 16777216 ∧ Q (.str (Txt.join a ys)) H
  | _, _ => False
theorem hm_join {X : Cx} : MtR X "str.join" (cJoin X.K) := MtR.imp mt_join fun x xs H Q h => by
  unfold cJoin at h
  split at h
  · obtain ⟨ys, h1, h2, h3⟩ := h
    exact ⟨_, _, ys, rfl, rfl, h1, h2, h3⟩
  · exact h.elim
/-- isinstance(x, str) -/
def hIsS : List V → Hp → VK → Prop := fun xs H Q => match xs with
  | [x, .ty n] => n = "str" ∧ (match x with
    | .str _ => Q (.bl true) H
    | .non => Q (.bl false) H
    | .bl _ => Q (.bl false) H
    | .int _ => Q (.bl false) H
    | .ref p => (match H p with
      | some (.lst _) => Q (.bl false) H
      | some (.tup _) => Q (.bl false) H
      | _ => False)
    | _ => False)
  | _ => False
theorem hc_isS {X : Cx} : CallR X (.builtin "isinstance") hIsS := by
  intro pins s σ H xs us Q I rs h
  refine call_isi pins s σ H xs us Q I rs ?_
  unfold hIsS at h
  split at h
  · rename_i x n
    obtain ⟨rfl, h⟩ := h
    split at h
    · exact ⟨_, _, _, _, true, rfl, .ty _, .base (.str _), rfl, h⟩
    · exact ⟨_, _, _, _, false, rfl, .ty _, .base .non, rfl, h⟩
    · exact ⟨_, _, _, _, false, rfl, .ty _, .base (.bl _), rfl, h⟩
    · exact ⟨_, _, _, _, false, rfl, .ty _, .base (.int _), rfl, h⟩
    · split at h
      · exact ⟨_, _, _, _, false, rfl, .ty _, .base (.lst ‹_›), rfl, h⟩
      · exact ⟨_, _, _, _, false, rfl, .ty _, .base (.tup ‹_›), rfl, h⟩
      · exact h.elim
    · exact h.elim
  · exact h.elim
theorem hEq_nil {K : PySem.W.Frag} {H : Hp} {p q : Addr} {xs : List V} {ds : List PyData} {Q : VK} (hp : H p = some (.lst xs)) (hq : H q = some (.lst [])) (hd : DpAll K H xs ds) (hs : SeqAt.shaped (.list ds) = true) (h : Q (.bl ds.isEmpty) H) : hEq K (.ref p) (.ref q) H Q := by
  refine ⟨_, _, .lst (.inl (Rd.of hp)) hd, .lst (.inl (Rd.of hq)) .nil, hs, rfl, ?_⟩
  rw [if_neg (by decide)]
  have e : PyData.eqv (.list ds) (.list []) = ds.isEmpty := by cases ds <;> rfl
  rw [e]
  exact h
theorem hIx_lit {K : PySem.W.Frag} {H : Hp} {p : Addr} {i : Int} {xs : List V} {v : V} {Q : VK} (h : H p = some (.lst xs)) (e : atI xs i = some v) (q : Q v H) : hIx K (.ref p) (.int i) H Q := by
  show (match seqAt H p i with
    | some v => Q v H
    | none => cIx K (.ref p) (.int i) H Q)
  rw [seqAt_lst h, e]; exact q
theorem hIx_tup {K : PySem.W.Frag} {H : Hp} {p : Addr} {i : Int} {xs : List V} {v : V} {Q : VK} (h : H p = some (.tup xs)) (e : atI xs i = some v) (q : Q v H) : hIx K (.ref p) (.int i) H Q := by
  show (match seqAt H p i with
    | some v => Q v H
    | none => cIx K (.ref p) (.int i) H Q)
  rw [seqAt_tup h, e]; exact q
theorem hIx_str {K : PySem.W.Frag} {H : Hp} {z : Str} {i : Int} {c : Nat} {Q : VK} (hz : z.length ≤ sizeLine) (e : atI z.cps.toList i = some c) (q : Q (.str ⟨#[c]⟩) H) : hIx K (.str z) (.int i) H Q := ⟨hz, by rw [e]; exact q⟩
theorem sl : 1000000 ≤ sizeLine := by decide
theorem la (a b : Str) : (a ++ b).length = a.length + b.length := PySem.Str.length_append a b
theorem l1 (c : Nat) : (Str.mk #[c]).length = 1 := rfl
theorem tyL {K : PySem.W.Frag} {H : Hp} {p : Addr} {xs : List V} (h : H p = some (.lst xs)) : tyV K "list" (.ref p) H := .inl ⟨rfl, _, .inl (Rd.of h)⟩
theorem append_at {H : Hp} {p : Addr} {xs : List V} {y : V} {Q : VK} (h : H p = some (.lst xs)) (hl : xs.length < sizeLine) (q : Q .non (upd H p (.lst (xs ++ [y])))) : rAppend (.ref p) [y] H Q := ⟨p, xs, y, rfl, rfl, h, hl, q⟩
theorem dpStrs {K : PySem.W.Frag} {H : Hp} : ∀ ys : List Str, DpAll K H (ys.map V.str) (ys.map PyData.str)
  | [] => .nil
  | y :: ys => .cons (.str y) (dpStrs ys)
theorem spl_ne (S : List Nat) : ∀ (l acc : List Nat) (k : Nat), TL.spl S k acc l ≠ []
  | [], acc, k => by rw [TL.spl_nil]; exact List.cons_ne_nil _ _
  | c :: r, acc, 0 => by
    show (if TL.pre S (c :: r) = true then acc :: TL.spl S (S.length - 1) [] r else TL.spl S 0 (acc ++ [c]) r) ≠ []
    split
    · exact List.cons_ne_nil _ _
    · exact spl_ne S r _ _
  | c :: r, acc, k + 1 => spl_ne S r acc k
theorem split_ne {x y : Str} (hy : TL.tl y ≠ []) (hk : y.cps.all (· < 256) = true) : ∃ z zs, Txt.split x y = z :: zs := by
  have h := TL.split_spl x y hy (TL.kind_ok hk)
  cases e : Txt.split x y with
  | nil => rw [e] at h; exact absurd h.symm (spl_ne _ _ _ _)
  | cons z zs => exact ⟨z, zs, rfl⟩
/-- a text of signs below 256 -/
def Sg (t : Str) : Prop := ∀ c ∈ TL.tl t, c < 256
theorem Sg.app {a b : Str} (h : Sg a) (h' : Sg b) : Sg (a ++ b) := fun c hc => by
  rw [TL.tl_append] at hc
  exact (List.mem_append.mp hc).elim (h c) (h' c)
theorem Sg.one {c : Nat} (h : c < 256) : Sg ⟨#[c]⟩ := fun d hd => by
  rw [List.mem_singleton.mp (show d ∈ [c] from hd)]; exact h
theorem Sg.cut {z : Str} {lo hi : Option Int} (h : Sg z) : Sg (cutS z lo hi) := fun c hc => h c (List.mem_of_mem_drop (List.mem_of_mem_take hc))
theorem Sg.lit {s : String} (h : (TL.tl (Str.ofString s)).all (· < 256) = true) : Sg (Str.ofString s) := fun c hc => of_decide_eq_true (List.all_eq_true.mp h c hc)
theorem sgJ (S : List Nat) (hS : ∀ c ∈ S, c < 256) : ∀ ps : List (List Nat), (∀ p ∈ ps, ∀ c ∈ p, c < 256) → ∀ c ∈ TL.joinL S ps, c < 256
  | [], _ => fun c hc => nomatch hc
  | [p], h => fun c hc => h p (List.mem_cons_self ..) c (by simpa only [TL.joinL] using hc)
  | p :: q :: r, h => fun c hc => by
    simp only [TL.joinL, List.mem_append] at hc
    rcases hc with hc | hc | hc
    · exact h p (List.mem_cons_self ..) c hc
    · exact hS c hc
    · exact sgJ S hS (q :: r) (fun x hx => h x (List.mem_cons_of_mem _ hx)) c hc
theorem Sg.join {y : Str} {ys : List Str} (h : Sg y) (h' : ∀ z ∈ ys, Sg z) : Sg (Txt.join y ys) := by
  unfold Sg
  rw [TL.join_eq, TL.tl_join]
  refine sgJ _ h _ fun p hp => ?_
  obtain ⟨z, hz, rfl⟩ := List.mem_map.mp hp
  exact h' z hz
theorem Sg.ok {t : Str} (h : Sg t) : PyData.strOk t = true := by
  unfold PyData.strOk
  rw [← Array.all_toList]
  exact List.all_eq_true.mpr fun c hc => decide_eq_true (Nat.lt_trans (h c hc) (by decide))
theorem canStrs : ∀ {ys : List Str}, (∀ y ∈ ys, Sg y) → PyData.canLayAll0 (ys.map PyData.str) = true
  | [], _ => rfl
  | y :: ys, h => by
    show (PyData.canLay0 (.str y) && PyData.canLayAll0 (ys.map PyData.str)) = true
    rw [Bool.and_eq_true]
    exact ⟨by simp only [PyData.canLay0]; exact (h y (List.mem_cons_self ..)).ok, canStrs fun z hz => h z (List.mem_cons_of_mem _ hz)⟩
theorem depStrs : ∀ ys : List Str, PyData.depthAll (ys.map PyData.str) ≤ 1
  | [] => by simp [PyData.depthAll]
  | y :: ys => by
    have := depStrs ys
    simp only [List.map_cons, PyData.depthAll, PyData.depth]
    omega
theorem shStrs {ys : List Str} (h : ∀ y ∈ ys, Sg y) : SeqAt.shaped (.list (ys.map PyData.str)) = true := by
  have := depStrs ys
  unfold SeqAt.shaped
  rw [Bool.and_eq_true]
  refine ⟨by simp only [PyData.canLay0]; exact canStrs h, decide_eq_true ?_⟩
  simp only [PyData.depth]
  omega
theorem atI_zero {α : Type} (x : α) (xs : List α) : atI (x :: xs) 0 = some x := by
  unfold atI ixN
  rw [if_pos (by decide), if_pos (by simp only [List.length_cons]; omega)]
  rfl
/-- a sign in a text; other texts in a text -/
def isIn (a b : Str) : Bool := match a.cps.toList with
  | [c] => decide (c ∈ b.cps.toList)
  | _ => inTx a b
def hIn (K : PySem.W.Frag) : R2 := fun x y H Q => match x, y with
  | .str a, .str b => Q (.bl (isIn a b)) H
  | x, y => cIn K false x y H Q
def hNotIn (K : PySem.W.Frag) : R2 := fun x y H Q => match x, y with
  | .str a, .str b => Q (.bl (!isIn a b)) H
  | x, y => cIn K true x y H Q
section
variable {X : Cx}
theorem ho_in : OpR X (compareOp .In) (hIn X.K) := by
  intro pins s σ H x y v u Q I rx ry h
  unfold hIn at h
  split at h
  · rename_i a b
    unfold isIn at h
    split at h
    · rename_i c e
      have ea : a = ⟨#[c]⟩ := TL.ext_tl e
      subst ea
      exact op_in_sign pins s σ H _ _ v u Q I rx ry ⟨c, b, rfl, rfl, h⟩
    · exact co_in pins s σ H _ _ v u Q I rx ry h
  · exact co_in pins s σ H _ _ v u Q I rx ry h
theorem ho_notIn : OpR X (compareOp .NotIn) (hNotIn X.K) := by
  intro pins s σ H x y v u Q I rx ry h
  unfold hNotIn at h
  split at h
  · rename_i a b
    unfold isIn at h
    split at h
    · rename_i c e
      have ea : a = ⟨#[c]⟩ := TL.ext_tl e
      subst ea
      exact op_notIn_sign pins s σ H _ _ v u Q I rx ry ⟨c, b, rfl, rfl, h⟩
    · exact co_notIn pins s σ H _ _ v u Q I rx ry h
  · exact co_notIn pins s σ H _ _ v u Q I rx ry h
end
def tlen (o : Option (Option V)) : Nat := match o with
  | some (some (.str t)) => t.length
  | _ => 0
theorem cpsT {R : (Bool → Hp → Prop) → Prop} {Q : Bool → Hp → Prop} (Pp : Bool → Hp → Prop) (h1 : ∀ v H, Pp v H → Q v H) (h2 : ∀ Q' : Bool → Hp → Prop, (∀ v H, Pp v H → Q' v H) → R Q') : R Q := h2 Q h1
theorem seqCps {t u : TS} {D : Ends} {σ : L2.St} {H : Hp} (Pp : L2.St → Hp → Prop) (h1 : ∀ Nx : L2.St → Hp → Prop, (∀ σ H, Pp σ H → Nx σ H) → t { D with nx := Nx } σ H) (h2 : ∀ σ H, Pp σ H → u D σ H) : tSeq t u D σ H := h1 (u D) h2
theorem seqStep {t u : TS} {D : Ends} {σ : L2.St} {H : Hp} (h : t { D with nx := u D } σ H) : tSeq t u D σ H := h
theorem _root_.Xs.Kp.new {a p : Addr} {H H' : Hp} {o : HO} (h : Kp a H H') (hp : H p = none) : Kp a H (upd H' p o) := fun q o' n e => by
  unfold upd
  split
  · subst q; rw [hp] at e; cases e
  · exact h q o' n e
theorem _root_.L2.Ext.new {p : Addr} {H H' : Hp} {o : HO} (h : Ext H H') (hp : H p = none) : Ext H (upd H' p o) := fun q o' e => by
  unfold upd
  split
  · subst q; rw [hp] at e; cases e
  · exact h q o' e
theorem joinL_len (S : List Nat) (m : Nat) : ∀ ps : List (List Nat), (∀ p ∈ ps, p.length ≤ m) → (TL.joinL S ps).length ≤ ps.length * (m + S.length)
  | [], _ => Nat.zero_le _
  | [p], h => by
    have := h p (List.mem_cons_self ..)
    show (TL.joinL S [p]).length ≤ 1 * (m + S.length)
    simp only [TL.joinL]
    omega
  | p :: q :: r, h => by
    have h1 := h p (List.mem_cons_self ..)
    have h2 := joinL_len S m (q :: r) fun x hx => h x (List.mem_cons_of_mem _ hx)
    simp only [TL.joinL, List.length_append, List.length_cons] at h2 ⊢
    have e : (r.length + 1 + 1) * (m + S.length) = (r.length + 1) * (m + S.length) + (m + S.length) := Nat.succ_mul _ _
    omega
theorem join_len {y : Str} {m : Nat} {ys : List Str} (h : ∀ z ∈ ys, z.length ≤ m) : (Txt.join y ys).length ≤ ys.length * (m + y.length) := by
  rw [TL.join_eq, TL.len_tl, TL.tl_join, TL.len_tl y]
  have := joinL_len (TL.tl y) m (ys.map TL.tl) fun p hp => by
    obtain ⟨z, hz, rfl⟩ := List.mem_map.mp hp
    have := h z hz
    rw [TL.len_tl] at this
    exact this
  rw [List.length_map] at this
  exact this
theorem sum_len {m : Nat} : ∀ {ys : List Str}, (∀ z ∈ ys, z.length ≤ m) → (ys.map (·.length)).sum ≤ ys.length * m
  | [], _ => Nat.zero_le _
  | y :: ys, h => by
    have h1 := h y (List.mem_cons_self ..)
    have h2 := sum_len (ys := ys) fun x hx => h x (List.mem_cons_of_mem _ hx)
    simp only [List.map_cons, List.sum_cons, List.length_cons, Nat.succ_mul]
    omega
end Xs
set_option Elab.async false
set_option linter.all false
set_option maxRecDepth 100000
set_option maxHeartbeats 4000000
namespace Xr
open PySem PySem.Spec PyProof.Rows L2 ClX
/-- C.m(k = v, ..) within a try's body -/
def tCMethNS (C : Addr) (ks : List Str) (dfl : List (Str × V)) (sp : Sp) (E : L2.St → XK) (ta : TE) (tk : TA) : TE := fun σ H Q => ta σ H fun x H1 => x = .ref C ∧ tk σ H1 fun zs H2 => zs.length = ks.length ∧ sp (kwVals dfl (.ref C) (ks.zip zs)) H2 Q (E σ)
theorem pe_cmethNS {X : Cx} {CX : CXT} {k : Nat} {C p g : Addr} {mc : Value} {sp : Sp} {E : L2.St → XK} {o : Expr} {m c : Str} {pos apos : Pos} {ta : TE} {tk : TA} {fd : FuncData} {dfl : List (Str × V)} {kws : List Keyword} {ks : List Str} {pl : Sem Bool} (he : PE X o ta) (r : CRead X.K C mc) (cm : CMet X.K C mc m p g)
    (F : FnOk X.prog X.w X.K X.mg X.base CX k g fd (c :: dfl.map (·.1)) sp) (B : KwB X.K fd c dfl) (hr : Room k X.A) (hx : ∀ σ, PassesAt CX X σ (E σ)) (hkw : PK X kws tk)
    (hsub : ∀ n ∈ ks, n ∈ dfl.map (·.1)) (hnd : ks.Nodup)
    (hall : (backToKw pos (keywordEach kws X.env)).all (·.1.isSome) = true := by rfl) (hks : (backToKw pos (keywordEach kws X.env)).filterMap (·.1) = ks := by rfl)
    (hpl : ((backTo pos (starEach [] X.env)).any (·.1) || (backToKw pos (keywordEach kws X.env)).any (·.1.isNone)) = false := by rfl)
    (ht : eval (.Call (.Attribute o m apos) [] kws pos) X.env = (do
      let ov ← eval o X.env
      standAt apos.atName
      let (f, first) ← holding [ov] (getMethod ov m pl)
      callWith pos f first (backTo pos (starEach [] X.env)) (backToKw pos (keywordEach kws X.env))) := by rfl) :
    PE X (.Call (.Attribute o m apos) [] kws pos) (tCMethNS C ks dfl sp E ta tk) := by
  refine ⟨fun pins s σ H Q I h => ?_⟩
  refine PySem.W.methodCall_KW (pl := pl) (thn (he.run pins s σ H _ I h) fun u s1 ⟨x, H1, I1, rx, ex, q⟩ => ?_) ht
  subst ex
  obtain rfl : u = Value.ref C := rx
  refine getmethcm_ok I1 r cm fun s2 I2 => ?_
  refine PySem.W.callWith_of (P := PySem.W.MethP X.K s1.heap.objs.size g (.ref C)) hpl (PySem.W.keeps_M cm.fi) (PyProof.Rows.evalArgs_kw2_nil hall ?_)
  refine thn (hkw.run pos _ s2 σ H1 _ I2 q) fun ws s3 ⟨zs, H3, I3, rz, hl, hsp⟩ => ?_
  refine ⟨⟨pin_at I3, I3.kIn⟩, ?_⟩
  rw [hks]
  obtain ⟨us, hbind, rv⟩ := B.binds (s := s3) I3.kIn (show RelV (.ref C) (.ref C) from rfl) (relK_zip (ks := ks) rz) (fun q hq => hsub q.1 (by
    have z : q.1 ∈ (ks.zip zs).map (·.1) := List.mem_map.mpr ⟨q, hq, rfl⟩
    rw [zip_fst hl] at z
    exact z)) (by rw [zip_fst hl]; exact hnd)
  have z : wpAny (model X.prog X.w) X.A (call (.ref s1.heap.objs.size) ([] ++ []) (ks.zip ws)) (EP X ((s1.heap.objs.size, PySem.W.methodObj (.ref g) (.ref C)) :: pins) σ Q) X.xe s3 := by
    refine wpAny_call (PySem.W.method_call (pin_at I3) (codeAny_mono (F.run X.A X.stack s3 H3 ⟨[.ref C], ks.zip ws⟩ us _ Q (E σ) hr I3.env0 hbind rv hsp) fun r s' hq => ?_))
    cases r with
    | error e => exact hx σ _ H3 s3 e s' I3 hq
    | ok fl =>
      cases fl with
      | ret u => exact I3.after hq
      | next => exact False.elim hq
      | brk => exact False.elim hq
      | cont => exact False.elim hq
  exact thn z fun _ _ y => unpinE y
end Xr
set_option Elab.async false
set_option linter.all false
set_option maxRecDepth 100000
set_option maxHeartbeats 4000000
/-! R9: == and != of instances by the class's own __eq__; repr of texts and bools; a try whose body raises nothing. -/
namespace Xr
open PySem PySem.Spec PyProof.Rows L2 ClX
section
variable {X : Cx}
def cRepr : List V → Hp → VK → Prop := fun xs H Q => match xs with
  | [.str a] => (reprText a).length ≤ sizeLine ∧ Q (.str (reprText a)) H
  | [.bl b] => Q (.str (if b then "True" else "False")) H
  | _ => False
theorem call_reprV : CallR X (.builtin "repr") cRepr := by
  intro pins s σ H xs us Q I r h
  unfold cRepr at h
  split at h
  · obtain ⟨hz, q⟩ := h
    obtain ⟨u, rfl, t, rfl⟩ := vals1 r
    exact PySem.P.repr_of_str (Q := EP X pins σ Q) ⟨.str _, H, I.tok _, ⟨_, rfl⟩, q⟩ hz
  · rename_i b
    obtain ⟨u, rfl, hu⟩ := vals1 r
    obtain rfl : u = Value.bool b := hu
    exact PySem.P.repr_of_bool (Q := EP X pins σ Q) ⟨.str _, H, I.tok _, ⟨_, rfl⟩, h⟩
  · exact h.elim
end
/-! ### == and != of own instances -/
section
variable {prog : Program} {w : World} {A : Around} {E : Value → Shared → Prop} {s : Shared} {K : PySem.W.Frag} {x C L f : Addr} {h₀ : Heap} {m : Str → Option Value} {ox : Obj} {od : Option Obj} {b tb : Value}
open PySem.W in
theorem objNe_run (hu : A.units < cLine) (X : K.In s.heap) (I : InstAt s.heap x ox C od) (hs : findIn K (.ref C) "__eq__" = some (some (.ref f))) (hf : isFn K (.ref f) = true) {Q : Fin → Shared → Prop}
    (hcall : wpAny (model prog w) A (call (.ref f) [.ref x, b]) (fun v s' => ∃ c, v = .bool c ∧ Q (.done (.ret (.bool (!c)))) s') E s) :
    wpAny (model prog w) A (Builtin.«object.__ne__» ⟨[.ref x, b], []⟩) Q E s := by
  unfold Builtin.«object.__ne__»
  repeat (first
    | with_reducible refine wpAny_cRoomFor hu ?_
    | (refine wpAny_bind (m := callSpecialIfBound? (.ref x) (Str.ofString "__eq__") [b])
        (ifBound_K X I hs hf (wpAny_mono hcall (fun r s' hr => by
          obtain ⟨c, rfl, hq⟩ := hr
          repeat (first | exact hq | exact wpAny_pure hq | exact wpAny_truthy_bool hq | (refine wpAny_bind (m := truthy (.bool _)) (wpAny_truthy_bool ?_)) | wp_step)) fun _ _ e => e)))
    | wp_step)
open PySem.W in
theorem ne_K {Q : Value → Shared → Prop} (hu : A.units + 1 < cLine) (F : Fr h₀ L s.heap m) (X₀ : K.In h₀) (I : InstAt s.heap x ox C od) (hb : Looks (model prog w) s.heap (typeOf b) tb) (hn : notFirst K C tb = true)
    (hne : findIn K (.ref C) "__ne__" = some (some (.builtin "object.__ne__"))) (hob : subIn K (.ref C) (.type "object") = some true)
    (hs : findIn K (.ref C) "__eq__" = some (some (.ref f))) (hf : isFn K (.ref f) = true)
    (h : wpAny (model prog w) A.in1 (call (.ref f) [.ref x, b]) (fun v s' => ∃ c, v = .bool c ∧ Q (.bool (!c)) s') E s) : wpAny (model prog w) A (richCompare .NotEq (.ref x) b) Q E s := by
  have X := X₀.keeps F.keep
  have one : wpAny (model prog w) A (tryCompare (.ref x) "__ne__" b) (fun r s' => ∃ v, r = some v ∧ Q v s') E s := by
    unfold tryCompare
    refine wpAny_bind ?_
    simp only [callSpecialIfBound?, bindSpecialIfBound?]
    have fin : wpAny (model prog w) A (call (.builtin "object.__ne__") ([.ref x] ++ [b]) >>= fun v => pure (some v)) (fun r s' => wpAny (model prog w) A (match r with
        | some .notImplemented | none => pure none
        | some v => pure (some v) : Sem (Option Value)) (fun r s' => ∃ v, r = some v ∧ Q v s') E s') E s := by
      refine wpAny_bind (wpAny_call (codeAny_call_builtin PySem.F.cmp_object.ne.plain PySem.F.cmpEntry_ne
        (check_slot PySem.F.cmpKind_ne PySem.F.cmpSplit_ne (I.type.andThen (looks_subIn X hob)) (PySem.F.cmpArgs_ne _ _)
          (objNe_run (A := A.in1) hu X I hs hf (wpAny_mono h (fun v s' hv => ?_) fun _ _ e => e)))))
      obtain ⟨c, rfl, hq⟩ := hv
      exact ⟨c, rfl, wpAny_pure (wpAny_pure ⟨_, rfl, hq⟩)⟩
    refine wpAny_holding (wpAny_bind (wpAny_bind (wpAny_bind (I.type.here ((looks_findIn X hne).here ?_)))))
    refine wpAny_bind (wpAny_askSetting (wpAny_ite ?_))
    split
    · exact wpAny_bind ((Looks.of_pure (PySem.F.cmp_object.ne.bind _)).here (wpAny_pure (by exact fin)))
    · exact wpAny_tryCatch (wpAny_bind ((Looks.of_pure (PySem.F.cmp_object.ne.bind _)).here (wpAny_pure (by exact fin))))
  unfold richCompare
  simp only [oneThing_ref]
  refine wpAny_holding (wpAny_bind (wpAny_cRoomFor (Nat.lt_of_succ_lt hu) ?_))
  rw [cmpInfo_NotEq]
  dsimp only
  refine wpAny_bind (I.type.here (wpAny_bind (hb.here ?_)))
  split
  · rename_i q
    have e : subIn K tb (.ref C) = some false := by
      rcases Bool.or_eq_true_iff.mp hn with e | e
      · rw [beq_iff_eq.mp e] at q; simp at q
      · exact beq_iff_eq.mp e
    refine wpAny_bind ((looks_subIn X e).here ?_)
    simp only [Bool.false_eq_true, if_false]
    refine wpAny_bind (wpAny_mono one (fun r s' z => ?_) fun _ _ e => e)
    obtain ⟨v, rfl, hq⟩ := z
    exact wpAny_pure hq
  · refine wpAny_bind (wpAny_pure ?_)
    simp only [Bool.false_eq_true, if_false]
    refine wpAny_bind (wpAny_mono one (fun r s' z => ?_) fun _ _ e => e)
    obtain ⟨v, rfl, hq⟩ := z
    exact wpAny_pure hq
end
/-- what the class's facts must say -/
structure EqC (K : PySem.W.Frag) (C f : Addr) : Prop where
  eq : PySem.W.findIn K (.ref C) "__eq__" = some (some (.ref f))
  fn : PySem.W.isFn K (.ref f) = true
  ne : PySem.W.findIn K (.ref C) "__ne__" = some (some (.builtin "object.__ne__"))
  ob : PySem.W.subIn K (.ref C) (.type "object") = some true
  s : PySem.W.notFirst K C (.type "str") = true
  i : PySem.W.notFirst K C (.type "int") = true
  n : PySem.W.notFirst K C (.type "NoneType") = true
  ks : PySem.W.kitOne K (.type "str") (.ref C) = some false
  ki : PySem.W.kitOne K (.type "int") (.ref C) = some false
  kn : PySem.W.kitOne K (.type "NoneType") (.ref C) = some false
  kc : PySem.W.kitOne K (.ref C) (.ref C) = some true
  ca : PySem.W.findIn K (.ref C) "__class__" = some (some (.builtin "object.__class__"))
  cn : PySem.W.specialIn K (.builtin "object.__class__") "__get__" = some (some (.builtin "getset_descriptor.__get__"))
  ct : PySem.W.takesIn K (.builtin "object.__class__") = some true
  cm : PySem.W.mroIn K C (.type "object") = some true
def eqcB (K : PySem.W.Frag) (C f : Addr) : Bool := decide (PySem.W.findIn K (.ref C) "__eq__" = some (some (.ref f))) && (PySem.W.isFn K (.ref f) && (decide (PySem.W.findIn K (.ref C) "__ne__" = some (some (.builtin "object.__ne__"))) && (decide (PySem.W.subIn K (.ref C) (.type "object") = some true) &&
  (PySem.W.notFirst K C (.type "str") && (PySem.W.notFirst K C (.type "int") && (PySem.W.notFirst K C (.type "NoneType") && (decide (PySem.W.kitOne K (.type "str") (.ref C) = some false) && (decide (PySem.W.kitOne K (.type "int") (.ref C) = some false) &&
  (decide (PySem.W.kitOne K (.type "NoneType") (.ref C) = some false) && (decide (PySem.W.kitOne K (.ref C) (.ref C) = some true) && (decide (PySem.W.findIn K (.ref C) "__class__" = some (some (.builtin "object.__class__"))) &&
  (decide (PySem.W.specialIn K (.builtin "object.__class__") "__get__" = some (some (.builtin "getset_descriptor.__get__"))) && (decide (PySem.W.takesIn K (.builtin "object.__class__") = some true) && decide (PySem.W.mroIn K C (.type "object") = some true))))))))))))))
theorem eqcB_ok {K : PySem.W.Frag} {C f : Addr} (h : eqcB K C f = true) : EqC K C f := by
  unfold eqcB at h
  simp only [Bool.and_eq_true] at h
  obtain ⟨h1, h2, h3, h4, h5, h6, h7, h8, h9, h10, h11, h12, h13, h14, h15⟩ := h
  exact ⟨of_decide_eq_true h1, h2, of_decide_eq_true h3, of_decide_eq_true h4, h5, h6, h7, of_decide_eq_true h8, of_decide_eq_true h9, of_decide_eq_true h10, of_decide_eq_true h11, of_decide_eq_true h12, of_decide_eq_true h13, of_decide_eq_true h14, of_decide_eq_true h15⟩
/-- isinstance(x, C): an instance of C, or a flat value -/
def cIsC (C : Addr) : List V → Hp → VK → Prop := fun xs H Q => ∃ x, xs = [x, .ref C] ∧ ((∃ b dy gs, x = .ref b ∧ H b = some (.ins C dy gs) ∧ Q (.bl true) H) ∨ (((∃ t, x = .str t) ∨ (∃ i, x = .int i) ∨ x = .non) ∧ Q (.bl false) H))
theorem call_isC9 {X : Cx} {C f : Addr} (T : EqC X.K C f) (cl : Cls X.K C) : CallR X (.builtin "isinstance") (cIsC C) := by
  intro pins s σ H xs us Q I rs h
  refine call_isi pins s σ H xs us Q I rs ?_
  obtain ⟨x, rfl, h⟩ := h
  rcases h with ⟨b, dy, gs, rfl, e, q⟩ | ⟨h, q⟩
  · exact ⟨_, _, .ref C, _, true, rfl, .own C, .base (.ins e cl T.ca T.cn T.ct T.cm), T.kc, q⟩
  · rcases h with ⟨t, rfl⟩ | ⟨i, rfl⟩ | rfl
    · exact ⟨_, _, _, _, false, rfl, .own C, .base (.str _), T.ks, q⟩
    · exact ⟨_, _, _, _, false, rfl, .own C, .base (.int _), T.ki, q⟩
    · exact ⟨_, _, _, _, false, rfl, .own C, .base .non, T.kn, q⟩
/-- the values beside which an instance of C may stand here -/
def Beside (C : Addr) (y : V) (H : Hp) : Prop := (∃ b dy gs, y = .ref b ∧ H b = some (.ins C dy gs)) ∨ (∃ t, y = .str t) ∨ (∃ i, y = .int i) ∨ y = .non
section
variable {X : Cx} {C f : Addr} {n : Nat} {sp : Sp}
theorem beside_type {pins : List (Addr × Obj)} {σ : L2.St} {H : Hp} {s : Shared} {y : V} {u : Value} (T : EqC X.K C f) (I : Inv X pins σ H s) (ry : RelV y u) (h : Beside C y H) : ∃ tb, PySem.W.Looks (model X.prog X.w) s.heap (typeOf u) tb ∧ PySem.W.notFirst X.K C tb = true := by
  rcases h with ⟨b, dy, gs, rfl, hb⟩ | ⟨t, rfl⟩ | ⟨i, rfl⟩ | rfl
  · cases ry
    obtain ⟨mB, J', _⟩ := ins_get I.hok hb
    obtain ⟨od', J', _⟩ := J'.look
    exact ⟨.ref C, J'.type, by simp [PySem.W.notFirst]⟩
  · obtain ⟨k, rfl⟩ := ry
    exact ⟨.type "str", PySem.W.Looks.of_pure (by kernel_rfl), T.s⟩
  · obtain ⟨k, rfl⟩ := ry
    exact ⟨.type "int", PySem.W.Looks.of_pure (by kernel_rfl), T.i⟩
  · cases ry
    exact ⟨.type "NoneType", PySem.W.Looks.of_pure (by kernel_rfl), T.n⟩
/-- x == y, x != y, x an instance of C -/
def rEqO (C : Addr) (sp : Sp) (neg : Bool) : R2 := fun x y H Q => ∃ a dx fs, x = .ref a ∧ H a = some (.ins C dx fs) ∧ Beside C y H ∧ sp [.ref a, y] H (fun v H' => ∃ c, v = .bl c ∧ Q (.bl (if neg then !c else c)) H') E0
theorem op_eqO (F : FnR X.prog X.w X.K X.mg X.base CX0 n f sp) (hr : Room n X.A) (T : EqC X.K C f) : OpR X (compareOp .Eq) (rEqO C sp false) := by
  intro pins s σ H x y v u Q I rx ry h
  obtain ⟨a, dx, fs, rfl, ea, hy, h⟩ := h
  cases rx
  obtain ⟨mA, O, _⟩ := ins_get I.hok ea
  obtain ⟨od, J, _⟩ := O.look
  obtain ⟨m, hF⟩ := I.fr
  obtain ⟨tb, hl, hn⟩ := beside_type T I ry hy
  show wpAny (model X.prog X.w) X.A (richCompare .Eq (.ref a) u) (EP X pins σ Q) X.xe s
  refine PySem.W.cmp_K (op := .Eq) hr.units0 hF I.ok.mod.kin J hl hn T.eq T.fn (wpAny_mono (run_sp (A := X.A) (vs := [.ref a, y]) F hr I.ok.frames I (.cons rfl (.cons ry .nil)) h) (fun r s' hv => ?_) fun _ _ e => e)
  obtain ⟨z, H', I', rz, c, rfl, q⟩ := hv
  cases rz
  exact ⟨.bl c, H', I', rfl, q⟩
theorem op_neO (F : FnR X.prog X.w X.K X.mg X.base CX0 n f sp) (hr : Room (n + 1) X.A) (T : EqC X.K C f) : OpR X (compareOp .NotEq) (rEqO C sp true) := by
  intro pins s σ H x y v u Q I rx ry h
  obtain ⟨a, dx, fs, rfl, ea, hy, h⟩ := h
  cases rx
  obtain ⟨mA, O, _⟩ := ins_get I.hok ea
  obtain ⟨od, J, _⟩ := O.look
  obtain ⟨m, hF⟩ := I.fr
  obtain ⟨tb, hl, hn⟩ := beside_type T I ry hy
  show wpAny (model X.prog X.w) X.A (richCompare .NotEq (.ref a) u) (EP X pins σ Q) X.xe s
  refine ne_K (by have := hr.un; omega) hF I.ok.mod.kin J hl hn T.ne T.ob T.eq T.fn (wpAny_mono (run_sp (A := X.A.in1) (vs := [.ref a, y]) F hr.in1 I.ok.frames I (.cons rfl (.cons ry .nil)) h) (fun r s' hv => ?_) fun _ _ e => e)
  obtain ⟨z, H', I', rz, c, rfl, q⟩ := hv
  cases rz
  exact ⟨c, rfl, .bl (!c), H', I', rfl, q⟩
end
/-! ### a try whose body raises nothing -/
theorem ps_try_quiet {X : Cx} {body : List Stmt} {h₀ : ExceptHandler} {hds : List ExceptHandler} {pos : Pos} {t : TS}
    (hb : ∀ (pn : List (Addr × Obj)) (xe : Value → Shared → Prop), PassesOwn (model X.prog X.w) X.A X.env xe → PSs (X.tr pn xe) body t) : PS X (.Try body (h₀ :: hds) [] [] pos) t := by
  refine ⟨fun pins s σ H D I h => ?_⟩
  have ok := I.ok
  refine wpAny_Try_except ?_
  refine wpAny_mono ((hb (X.pn ++ pins) (fun e s₁ => wpAny (model X.prog X.w) X.A (noteFrame e X.env) (fun _ s₂ => wpAny (model X.prog X.w) X.A (setFlight e none) (fun _ s₃ =>
    wpAny (model X.prog X.w) X.A (handleBy e X.env (h₀ :: hds)) (SP X pins D) X.xe s₃) X.xe s₂) X.xe s₁) PassesOwn.looking).run [] s σ H D (I.toTry _) h) (fun f s1 hsp => ?_) (fun e s1 he => he)
  cases f with
  | next =>
    obtain ⟨σ', H', J', q⟩ := hsp
    exact wpAny_execs_nil ⟨σ', H', J'.ofTry ok, q⟩
  | brk =>
    obtain ⟨σ', H', J', q⟩ := hsp
    exact ⟨σ', H', J'.ofTry ok, q⟩
  | cont =>
    obtain ⟨σ', H', J', q⟩ := hsp
    exact ⟨σ', H', J'.ofTry ok, q⟩
  | ret u =>
    obtain ⟨v, σ', H', J', r, q⟩ := hsp
    exact ⟨v, σ', H', J'.ofTry ok, r, q⟩
end Xr
set_option Elab.async false
set_option linter.all false
set_option maxRecDepth 100000
set_option maxHeartbeats 4000000
/-! Hc: facts of classes as Bools of the fragment: properties, classmethods, constants of a class, own errors. -/
namespace Hc
open PySem PySem.Spec PyProof.Rows L2 ClX
def oo (a : Option (Option Value)) (b : Value) : Bool := decide (a = some (some b))
theorem oo_ok {a : Option (Option Value)} {b : Value} (h : oo a b = true) : a = some (some b) := of_decide_eq_true h
/-- a property: its record -/
def propP (K : PySem.W.Frag) (C : Addr) (f : Str) : Addr := match PySem.W.findIn K (.ref C) f with
  | some (some (.ref p)) => p
  | _ => 0
def propB (K : PySem.W.Frag) (C : Addr) (f : Str) (g : Addr) : Bool := oo (PySem.W.findIn K (.ref C) f) (.ref (propP K C f)) && (oo (PySem.W.specialIn K (.ref (propP K C f)) "__get__") (.builtin "property.__get__") &&
  (decide (PySem.W.takesIn K (.ref (propP K C f)) = some true) && (match PySem.W.recIn K (propP K C f) "property" with
    | some (.ref q :: _) => decide (q = g)
    | _ => false)))
theorem propB_ok {K : PySem.W.Frag} {C : Addr} {f : Str} {g : Addr} (h : propB K C f g = true) : PropOf K C f (propP K C f) g := by
  unfold propB at h
  simp only [Bool.and_eq_true] at h
  obtain ⟨h1, h2, h3, h4⟩ := h
  refine ⟨oo_ok h1, oo_ok h2, of_decide_eq_true h3, ?_⟩
  split at h4
  · rename_i q rest e
    have eq : q = g := of_decide_eq_true h4
    exact ⟨rest, by rw [e, eq]⟩
  · cases h4
/-- reading attributes of the class itself -/
def readB (K : PySem.W.Frag) (C : Addr) : Bool := PySem.W.readsIn K C (.type "type") && oo (PySem.W.specialIn K (.ref C) "__getattribute__") (.builtin "type.__getattribute__")
theorem readB_ok {K : PySem.W.Frag} {C : Addr} (h : readB K C = true) : CRead K C (.type "type") := by
  unfold readB at h
  rw [Bool.and_eq_true] at h
  exact ⟨h.1, oo_ok h.2⟩
/-- a constant of the class that is an object: its address -/
def cvalP (K : PySem.W.Frag) (C : Addr) (f : Str) : Addr := match PySem.W.findCls K (.ref C) (.type "type") f with
  | some (.val (.ref p)) => p
  | _ => 0
def cvalB (K : PySem.W.Frag) (C : Addr) (f : Str) : Bool := match PySem.W.findCls K (.ref C) (.type "type") f with
  | some (.val (.ref _)) => true
  | _ => false
theorem cvalB_ok {K : PySem.W.Frag} {C : Addr} {f : Str} (h : cvalB K C f = true) : CVal K C (.type "type") f (.ref (cvalP K C f)) (.ref (cvalP K C f)) := by
  unfold cvalB at h
  split at h
  · rename_i p e
    refine ⟨?_, rfl⟩
    rw [e]
    unfold cvalP
    rw [e]
  · cases h
/-- a tuple of texts in the fragment -/
def strsB : List Value → List Str → Bool
  | [], [] => true
  | .str x _ :: r, y :: s => decide (x = y) && strsB r s
  | _, _ => false
theorem strsB_ok : ∀ {us : List Value} {ys : List Str}, strsB us ys = true → Vals (ys.map V.str) us
  | [], [], _ => .nil
  | .str x t :: r, y :: s, h => by
    have h' : (decide (x = y) && strsB r s) = true := h
    rw [Bool.and_eq_true] at h'
    have e : x = y := of_decide_eq_true h'.1
    subst e
    exact .cons ⟨t, rfl⟩ (strsB_ok h'.2)
def tupSB (K : PySem.W.Frag) (a : Addr) (ys : List Str) : Bool := match K.lookup a with
  | some ⟨.type c, _, .seq its _, _⟩ => decide (c = "tuple") && (decide (its.size ≤ 1000) && strsB its.toList ys)
  | _ => false
theorem tupSB_ok {K : PySem.W.Frag} {a : Addr} {ys : List Str} (h : tupSB K a ys = true) (H : Hp) : SqT K H a (ys.map V.str) := by
  unfold tupSB at h
  split at h
  · rename_i c d its n sl e
    simp only [Bool.and_eq_true] at h
    obtain ⟨h1, h2, h3⟩ := h
    have ec : c = "tuple" := of_decide_eq_true h1
    subst ec
    exact .inr ⟨_, its, n, e, rfl, rfl, Nat.le_trans (of_decide_eq_true h2) (by decide), strsB_ok h3⟩
  · cases h
/-- a classmethod: its record, its def -/
def cmP (K : PySem.W.Frag) (C : Addr) (m : Str) : Addr := match PySem.W.findCls K (.ref C) (.type "type") m with
  | some (.get _ (.ref p) _ _) => p
  | _ => 0
def cmB (K : PySem.W.Frag) (C : Addr) (m : Str) (g : Addr) : Bool := (match PySem.W.findCls K (.ref C) (.type "type") m with
  | some (.get (.builtin n) (.ref _) .none (.ref C')) => decide (n = "classmethod.__get__") && decide (C' = C)
  | _ => false) && ((match PySem.W.recIn K (cmP K C m) "classmethod" with
    | some (.ref q :: _) => decide (q = g)
    | _ => false) && PySem.W.fnIn K g)
theorem cmB_ok {K : PySem.W.Frag} {C : Addr} {m : Str} {g : Addr} (h : cmB K C m g = true) : CMet K C (.type "type") m (cmP K C m) g := by
  unfold cmB at h
  simp only [Bool.and_eq_true] at h
  obtain ⟨h1, h2, h3⟩ := h
  refine ⟨?_, ?_, h3⟩
  · split at h1
    · rename_i n p C' e
      rw [Bool.and_eq_true] at h1
      have e1 : n = "classmethod.__get__" := of_decide_eq_true h1.1
      have e2 : C' = C := of_decide_eq_true h1.2
      subst e1 e2
      rw [e]
      unfold cmP
      rw [e]
    · cases h1
  · split at h2
    · rename_i q rest e
      have eq : q = g := of_decide_eq_true h2
      exact ⟨rest, by rw [e, eq]⟩
    · cases h2
/-- an own error right under ValueError, with an __init__ of its own -/
def oexB (K : PySem.W.Frag) (C : Addr) : Bool := (match K.lookup C with
  | some ⟨.type T, _, .cls cd, sl⟩ => (match cd.mro, sl.toList with
    | .ref C' :: bm, [_, _, _, _, some (.builtin n), _] => decide (T = "type") && (decide (C' = C) && (decide (n = "ValueError.__new__") && (!cd.hasDel && (cd.hasDict && PySem.HandSPX.refsVE bm))))
    | _, _ => false)
  | _ => false) && (oo (PySem.W.findIn K (.ref C) "__setattr__") (.builtin "object.__setattr__") && (decide (PySem.W.subIn K (.ref C) (.type "BaseException") = some true) && (decide (PySem.W.typeIn K (.ref C) = some (.type "type")) && PySem.W.keepIn K (.ref C))))
theorem oexB_ok {K : PySem.W.Frag} {C : Addr} (h : oexB K C = true) : OexC K C := by
  unfold oexB at h
  simp only [Bool.and_eq_true] at h
  obtain ⟨h1, h2, h3, h4, h5⟩ := h
  refine ⟨?_, oo_ok h2, of_decide_eq_true h3, of_decide_eq_true h4, h5⟩
  split at h1
  · rename_i T dd cd sl ho
    split at h1
    · rename_i C' bm k0 k1 k2 k3 n k5 hm hs
      simp only [Bool.and_eq_true, Bool.not_eq_true'] at h1
      obtain ⟨e1, e2, e3, hdel, hd, hr⟩ := h1
      have e1 : T = "type" := of_decide_eq_true e1
      have e2 : C' = C := of_decide_eq_true e2
      have e3 : n = "ValueError.__new__" := of_decide_eq_true e3
      subst e1 e2 e3
      obtain ⟨nm, bs, mro, ns, qn, hdd, sn, sub, ab, col, del⟩ := cd
      dsimp only at hm hdel hd
      subst hm hdel hd
      have hsl : sl = #[k0, k1, k2, k3, some (.builtin "ValueError.__new__"), k5] := by
        obtain ⟨l⟩ := sl
        simp only at hs
        rw [hs]
      subst hsl
      exact ⟨nm, qn, ns, bs, bm, sn, sub, ab, col, dd, k0, k1, k2, k3, k5, ho, hr⟩
    · cases h1
  · cases h1
/-- __init__ of the class -/
def iniB (K : PySem.W.Frag) (C f : Addr) : Bool := oo (PySem.W.findIn K (.ref C) "__init__") (.ref f) && decide (PySem.W.typeIn K (.ref f) = some (.type "function"))
/-- any special method -/
def spcB (K : PySem.W.Frag) (C : Addr) (m : Str) (f : Addr) : Bool := oo (PySem.W.findIn K (.ref C) m) (.ref f) && PySem.W.isFn K (.ref f)
theorem iniB_ok {K : PySem.W.Frag} {C f : Addr} (h : iniB K C f = true) : PySem.W.findIn K (.ref C) "__init__" = some (some (.ref f)) ∧ PySem.W.typeIn K (.ref f) = some (.type "function") := by
  unfold iniB at h
  rw [Bool.and_eq_true] at h
  exact ⟨oo_ok h.1, of_decide_eq_true h.2⟩
theorem spcB_ok {K : PySem.W.Frag} {C f : Addr} {m : Str} (h : spcB K C m f = true) : PySem.W.findIn K (.ref C) m = some (some (.ref f)) ∧ PySem.W.isFn K (.ref f) = true := by
  unfold spcB at h
  rw [Bool.and_eq_true] at h
  exact ⟨oo_ok h.1, h.2⟩
end Hc
set_option Elab.async false
set_option linter.all false
set_option maxRecDepth 100000
set_option maxHeartbeats 4000000
/-! R10: a method m(self, **rest) called by keywords. -/
namespace Xr
open PySem PySem.Spec PyProof.Rows L2 ClX StX
open PySem.W (dictOf kwEs kwEs_key)
theorem fillKw {prog : Program} {w : World} {A : Around} {E : Value → Shared → Prop} {d : Addr} {Q : PUnit → Shared → Prop} : ∀ (ex : List (Str × Value)) (s : Shared) (es : List DictEntry) (n : Nat), s.heap.get? d = some (dictOf es n) →
    (∀ e ∈ es, ∀ x ∈ ex, e.key.isStr x.1 = false) → (∀ e ∈ es, e.refKey = false) → (ex.map (·.1)).Nodup →
    (∀ h' : Heap, (∀ b, b ≠ d → h'.get? b = s.heap.get? b) → h'.objs.size = s.heap.objs.size → h'.get? d = some (dictOf (es ++ kwEs w.params s.toks ex) (n + ex.length)) → Q ⟨⟩ { s with heap := h', toks := s.toks + ex.length }) →
    wpAny (model prog w) A (forIn ex PUnit.unit fun x _ => (nsSet d x.1 x.2 >>= fun _ => pure (ForInStep.yield PUnit.unit))) Q E s
  | [], s, es, n, D, _, _, _, h => by
    rw [List.forIn_nil]
    refine wpAny_pure (h s.heap (fun _ _ => rfl) rfl ?_)
    show s.heap.get? d = some (dictOf (es ++ []) n)
    rw [List.append_nil]
    exact D
  | x :: r, s, es, n, D, hs, hr, hn, h => by
    obtain ⟨hn1, hn2⟩ := List.nodup_cons.mp (show (x.1 :: r.map (·.1)).Nodup from hn)
    rw [List.forIn_cons]
    have hsx : ∀ e ∈ es, e.key.isStr x.1 = false := fun e he => hs e he x (.head _)
    have e1 : es.any (·.key.isStr x.1) = false := by
      cases q : es.any (·.key.isStr x.1) with
      | false => rfl
      | true => obtain ⟨e, he, z⟩ := List.any_eq_true.mp q; rw [hsx e he] at z; cases z
    have e2 : es.any (·.refKey) = false := by
      cases q : es.any (·.refKey) with
      | false => rfl
      | true => obtain ⟨e, he, z⟩ := List.any_eq_true.mp q; rw [hr e he] at z; cases z
    have e : Obj.putName x.1 (PyData.keyHash w.params x.1) (.str x.1 s.toks) x.2 (dictOf es n) = dictOf (es ++ [⟨PyData.keyHash w.params x.1, .str x.1 s.toks, x.2⟩]) (n + 1) := by
      rw [PySem.W.putName_dict, PySem.W.putL_new hsx]
      show dictOf _ (if es.any (·.key.isStr x.1) then n else n + 1) = _
      rw [e1, if_neg Bool.false_ne_true]
    have c : aRefKeyMayBeTheName x.1 es.toArray = false := by
      rw [aRefKeyMayBeTheName_at, ← Array.any_toList, ← Array.any_toList]
      show (!es.any (·.key.isStr x.1) && es.any (·.refKey)) = false
      rw [e2, Bool.and_false]
    refine wpAny_bind (wpAny_bind ?_)
    unfold nsSet
    refine wpAny_bind (wpAny_bind (wpAny_askSetting (wpAny_pure (wpAny_bind (wpAny_mkText (wpAny_bind (wpAny_loadPart D ?_)))))))
    dsimp only
    rw [c]
    refine wpAny_updatePart D (wpAny_pure ?_)
    refine fillKw r _ (es ++ [⟨PyData.keyHash w.params x.1, .str x.1 s.toks, x.2⟩]) (n + 1) ?_ (fun e he y hy => ?_) (fun e he => ?_) hn2 fun h'' o1 o2 o3 => ?_
    · show (s.heap.update d (Obj.putName x.1 (PyData.keyHash w.params x.1) (.str x.1 s.toks) x.2)).get? d = _
      rw [Heap.get?_update_self _ D (by rw [e]; rfl), e]
    · rcases List.mem_append.mp he with he | he
      · exact hs e he y (.tail _ hy)
      · obtain rfl := List.mem_singleton.mp he
        show (x.1 == y.1) = false
        exact beq_eq_false_iff_ne.mpr fun q => hn1 (by rw [q]; exact List.mem_map_of_mem hy)
    · rcases List.mem_append.mp he with he | he
      · exact hr e he
      · obtain rfl := List.mem_singleton.mp he
        rfl
    · have t1 : s.toks + 1 + r.length = s.toks + (r.length + 1) := by omega
      have t2 : n + 1 + r.length = n + (r.length + 1) := by omega
      have h1 := h h'' (fun b hb => (o1 b hb).trans (Heap.get?_update_other _ _ (Ne.symm hb))) (o2.trans (Heap.size_update _ _ _)) (by
        rw [t2, List.append_assoc] at o3
        exact o3)
      rw [show s.toks + (x :: r).length = s.toks + 1 + r.length by simp only [List.length_cons]; omega] at h1
      exact h1
theorem kwEs_mix {prog : Program} {w : World} : ∀ (ex : List (Str × Value)) (t : Tok), Pairs (mixKind prog w) (kwEs w.params t ex) (ex.map fun q => ((Sum.inr q.1 : Key), q.2))
  | [], _ => Pairs.nil
  | x :: r, t => Pairs.cons (keyIs_str x.1 t) rfl (kwEs_mix r (t + 1))
theorem kwDict {prog : Program} {w : World} {ex : List (Str × Value)} (t : Tok) (n : Nat) (hn : (ex.map (·.1)).Nodup) : (dictOf (kwEs w.params t ex) n).IsDictOf (mixKind prog w) (ex.map fun q => ((Sum.inr q.1 : Key), q.2)) :=
  ⟨(kwEs w.params t ex).toArray, n, ⟨rfl, rfl, rfl⟩, rfl, fun e he => by
    obtain ⟨k, u, hk, hh⟩ := kwEs_key ex t e (List.mem_toArray.mp he)
    exact ⟨.inr k, by rw [hk]; exact keyIs_str k u, hh.trans rfl⟩, kwEs_mix ex t, by
    rw [List.map_map]
    exact List.pairwise_map.mpr (List.pairwise_map.mp hn |>.imp fun h z => h (Sum.inr.inj z))⟩
def kvI (kw : List (Str × V)) : List (Key × V) := kw.map fun q => ((Sum.inr q.1 : Key), q.2)
theorem kvI_rel : ∀ {kw : List (Str × V)} {ku : List (Str × Value)}, RelK kw ku → KV (kvI kw) (ku.map fun q => ((Sum.inr q.1 : Key), q.2))
  | _, _, .nil => .nil
  | _, _, .cons h t => .cons ⟨congrArg Sum.inr h.1, h.2⟩ (kvI_rel t)
/-- the def at f, called with one argument by place and others by keywords, keeps sp: behind the first argument a new dict -/
def FnKw (P : Program) (w : World) (K : PySem.W.Frag) (mg : Str → Option Value) (base : Heap) (CX : CXT) (k : Nat) (f : Addr) (c : Str) (sp : Sp) : Prop :=
  ∀ (A : Around) (outer : List Env) (s : Shared) (H : Hp) (u : Value) (ku : List (Str × Value)) (y : V) (kw : List (Str × V)) (Q : VK) (E : XK), Room k A → Env0 P w K mg base A outer s H → RelV y u → RelK kw ku → (kw.map (·.1)).Nodup → (∀ q ∈ kw, q.1 ≠ c) → kw.length ≤ 1000 →
    (∀ p, H p = none → sp [y, .ref p] (upd H p (.dK (kvI kw))) Q E) → codeAny (model P w) A (.call (.ref f) ⟨[u], ku⟩) (CR CX outer P w H s Q E) s
section
variable {CX : CXT} {P : Program} {w : World} {K : PySem.W.Frag} {mg : Str → Option Value} {base : Heap} {k : Nat} {x qual c a : Str} {params : Arguments} {body : List Stmt} {scope : Scope} {f : Addr} {fd : FuncData} {N : List Str} {sp : Sp}
theorem fn_kwargs (F : FunD K x qual params body scope [] [] f fd) (S : FnScope N [c, a] scope) (hCX : CXUp CX) (h1 : params.posonlyargs.map (·.arg) = []) (h2 : params.args.map (·.arg) = [c]) (h3 : params.kwonlyargs.map (·.arg) = []) (h4 : params.vararg = none) (h5 : ∃ g, params.kwarg = some g ∧ g.arg = a)
    (hbody : ∀ (cdv : Value) (A : Around) (outer : List Env) (s : Shared) (H : Hp) (vs : List V) (Q : VK) (E : XK), Room k (A.deeper (envOfC qual scope s.heap.objs.size f cdv)) → sp vs H Q E →
      ∃ t, PSs (cxOf CX P w K mg base N qual scope f cdv A outer s H E) body t ∧ t { nx := fun _ H' => Q .non H', rt := Q } (start N vs) H) : FnKw P w K mg base CX (k + 1) f c sp := by
  intro A outer s H u ku y kw Q E hr e0 ry rk hnd hc hlen hq
  obtain ⟨oc, od, dV, kV, doc, pm, an, cdv, ct, osl, rfl, lk, hcd, hD, _⟩ := F.ex
  obtain rfl : dV = .none := by
    rcases hD with ⟨_, e⟩ | ⟨e, _⟩
    · exact e
    · exact absurd rfl e
  obtain ⟨g, h5, rfl⟩ := h5
  have hn : H s.heap.objs.size = Option.none := e0.hok.fresh (Nat.le_refl _)
  have hku : ku.map (·.1) = kw.map (·.1) := relK_keys rk
  have hcu : ∀ q ∈ ku, q.1 ≠ c := fun q hm e => by
    have : q.1 ∈ kw.map (·.1) := by rw [← hku]; exact List.mem_map_of_mem hm
    obtain ⟨z, hz, e2⟩ := List.mem_map.mp this
    exact hc z hz (e2.trans e)
  have hklen : ku.length = kw.length := by
    have := congrArg List.length hku
    simpa using this
  refine run_bnd lk hcd S hr e0 (G := fun xs H2 => ∃ p, H p = Option.none ∧ xs = [y, V.ref p] ∧ H2 = upd H p (.dK (kvI kw))) (fun A' Ex Q' h => ?_) fun s2 H2 xs ⟨p, hp, ex, eH⟩ hr' => ?_
  · delta bindArgs
    dsimp only [PySem.W.fnOf]
    rw [h1, h2, h3, h4, h5]
    refine wpAny_bind ?_
    refine wpAny_forIn_list _ (fun rest b s' => s' = s ∧ ∃ done, ku = done ++ rest ∧ b = ([(c, u)], done)) _ ?_ ?_ _ _ ⟨rfl, [], rfl, rfl⟩
    · rintro ⟨k1, v1⟩ rest b s' ⟨rfl, done, he, rfl⟩
      have hne : k1 ≠ c := hcu (k1, v1) (by rw [he]; exact List.mem_append_right _ List.mem_cons_self)
      have hcont : ((([c] : List Str).contains k1 || ([] : List Str).contains k1) = true) = False := by
        simp [hne]
      rw [if_neg (by rw [hcont]; exact id)]
      rw [if_pos (show (some g).isSome = true from rfl)]
      exact wpAny_pure ⟨rfl, done ++ [(k1, v1)], by rw [he]; simp, rfl⟩
    · rintro b s' ⟨rfl, done, he, rfl⟩
      rw [List.append_nil] at he
      subst he
      refine wpAny_bind (seqNone ?_)
      rw [if_neg (by simp)]
      rw [if_neg (by simp [List.lookup])]
      refine wpAny_bind (wpAny_pure ?_)
      dsimp only
      rw [List.forIn_nil]
      refine wpAny_bind (wpAny_pure ?_)
      dsimp only
      have sl : 1000000 ≤ sizeLine := by decide
      rw [if_neg (by simp), if_neg (by omega)]
      refine wpAny_bind (wpAny_alloc ?_)
      have hnd' : (ku.map (·.1)).Nodup := by rw [hku]; exact hnd
      refine wpAny_bind (fillKw ku _ [] 0 (Heap.get?_push_size _ rfl) (fun e he => nomatch he) (fun e he => nomatch he) hnd' fun h' o1 o2 o3 => wpAny_pure ?_)
      have kp : ∀ b o, s'.heap.get? b = some o → h'.get? b = some o := fun b o e => (o1 b (Nat.ne_of_lt (Heap.lt_size e))).trans (Heap.get?_push_of_some _ e)
      have new : ObjOk P w (upd H s'.heap.objs.size (.dK (kvI kw))) h' s'.heap.objs.size (.dK (kvI kw)) :=
        ⟨by unfold kvI; rw [List.length_map]; omega, beq_eq_false_iff_ne.mpr (Ne.symm (Nat.ne_of_lt (env0_big e0))), _, kvI_rel rk, Heap.dictOf_iff.mpr ⟨_, o3, kwDict _ _ hnd'⟩⟩
      have un : Un (frs outer) [] H (upd H s'.heap.objs.size (.dK (kvI kw))) s'.heap h' := Un.laid kp (Nat.le_refl _) hn
      have e2 : Env0 P w K mg base A outer { s' with heap := h', toks := s'.toks + ku.length } (upd H s'.heap.objs.size (.dK (kvI kw))) := by
        refine ⟨e0.frames, e0.mod, fun b x e => ⟨kp b x (e0.bs b x e).1, ?_⟩, ?_, Heap.FunFrames.of_keeps (fun b x e _ => ⟨x, kp b x e, rfl⟩) e0.funs, fun b hb => ?_, e0.hok.laid kp (Nat.le_refl _) new, e0.bare⟩
        · rw [upd_ne (Nat.ne_of_lt (Heap.lt_size (e0.bs b x e).1))]
          exact (e0.bs b x e).2
        · show base.objs.size ≤ h'.objs.size
          rw [o2]
          show base.objs.size ≤ (s'.heap.push _).objs.size
          rw [Heap.size_push]
          exact Nat.le_succ_of_le e0.bsz
        · obtain ⟨_, x, hx, _⟩ := e0.funs.mem hb
          rw [upd_ne (Nat.ne_of_lt (Heap.lt_size hx))]
          exact e0.frf b hb
      have z := h _ _ [y, V.ref s'.heap.objs.size] [u, Value.ref s'.heap.objs.size] e2 un rfl (fun e s'' => hCX outer s' H _ _ E e s'' un kp rfl) (.cons ry (.cons rfl .nil)) rfl ⟨_, hn, rfl, rfl⟩
      have ef : List.filterMap (fun n => Option.map (fun x => (n, x)) (List.lookup n [(c, u)])) ([] ++ [c] ++ []) ++ [(g.arg, Value.ref s'.heap.objs.size)] = [c, g.arg].zip [u, Value.ref s'.heap.objs.size] := by simp [List.lookup]
      rw [ef]
      exact z
  · subst ex eH
    exact hbody cdv A outer s2 _ _ Q E hr' (hq p hp)
end
end Xr
set_option Elab.async false
set_option linter.all false
set_option maxRecDepth 100000
set_option maxHeartbeats 4000000
/-! R11: dict(zip(a, b)) of two tuples. -/
namespace Xr
open PySem PySem.Spec PyProof.Rows L2 ClX StX RZ
section
variable {prog : Program} {w : World} {A : Around} {E : Value → Shared → Prop} {s : Shared}
/-- the two tuples' iterators at turn i, and what stands still -/
structure ZtS (h : Heap) (TI i1 i2 l1 l2 : Addr) (xs ys : Array Value) (i : Nat) : Prop where
  ti : IsPair h TI (.ref i1) (.ref i2)
  h1 : h.IsTupleIter i1 l1 i
  h2 : h.IsTupleIter i2 l2 i
  a1 : h.IsTuple l1 xs
  a2 : h.IsTuple l2 ys
theorem ZtS.keep {h h' : Heap} {TI i1 i2 l1 l2 : Addr} {xs ys : Array Value} {i : Nat} (S : ZtS h TI i1 i2 l1 l2 xs ys i) (k : ∀ b ∈ [TI, i1, i2, l1, l2], ∀ o, h.get? b = some o → h'.get? b = some o) : ZtS h' TI i1 i2 l1 l2 xs ys i :=
  ⟨k TI (by simp) _ S.ti, S.h1.at fun o => k i1 (by simp) o, S.h2.at fun o => k i2 (by simp) o, S.a1.at fun o => k l1 (by simp) o, S.a2.at fun o => k l2 (by simp) o⟩
/-- the first tuple given out is still there: the next pair is a new one -/
theorem zt_next {z TI TO T i1 i2 l1 l2 : Addr} {f : Bool} {oT : Obj} {i : Nat} {xs ys : Array Value} {x y : Value} {Q : Option Value → Shared → Prop} (D : ZipApart z TI TO i1 i2 l1 l2) (hz : IsZipHeld s.heap z TI TO T f) (hT : s.heap.get? T = some oT)
    (S : ZtS s.heap TI i1 i2 l1 l2 xs ys i) (hx : xs[i]? = some x) (hy : ys[i]? = some y)
    (hQ : ∀ h', IsZipHeld h' z TI TO T true → ZtS h' TI i1 i2 l1 l2 xs ys (i + 1) → IsPair h' s.heap.objs.size x y → (∀ c o, c ≠ z → c ≠ i1 → c ≠ i2 → s.heap.get? c = some o → h'.get? c = some o) → Q (some (.ref s.heap.objs.size)) { s with heap := h' }) :
    wpAny (model prog w) A (pyNext (.ref z)) Q E s := by
  have ty : s.TypeIs (.ref z) "zip" := ⟨_, hz, rfl⟩
  unfold pyNext
  refine wpAny_bind (wpAny_attempt (wpAny_callSpecial?_slot (name := Str.ofString "__next__") ty F.slot_zip_next (wpAny_call_entry F.slot_zip_next ty F.entry_zip_next ?_ (F.args_zip_next_1 _))))
  show wpAny _ _ (field (.ref z) 2 >>= _) _ _ _
  refine wpAny_bind (wpAny_field hz rfl (x := .bool false) rfl ?_)
  show wpAny _ _ (field (.ref z) 3 >>= _) _ _ _
  refine wpAny_bind (wpAny_field hz rfl (x := .ref TI) rfl (wpAny_bind (wpAny_seqItems S.ti rfl ?_)))
  show wpAny _ _ (Builtin.SmallTypes.ownedTupleIsFree (.ref z) >>= _) _ _ _
  refine wpAny_bind (wpAny_tupleHeld_zip hz hT fun g1 z1 b1 => ?_)
  rw [if_neg Bool.false_ne_true]
  refine wpAny_bind ?_
  rw [← Array.forIn_toList]
  simp only [List.forIn_cons, List.forIn_nil]
  refine wpAny_bind (wpAny_bind (wpAny_holding ?_))
  show wpAny _ _ (Builtin.SmallTypes.nextOf (.ref i1) >>= _) _ _ _
  refine wpAny_bind (nextOf_tuple_item (s := { s with heap := g1 }) (S.h1.extBut b1.extBut D.i1z) (S.a1.extBut b1.extBut D.l1z) hx fun g2 t1 b2 => wpAny_pure (wpAny_pure (wpAny_bind (wpAny_bind (wpAny_holding ?_)))))
  show wpAny _ _ (Builtin.SmallTypes.nextOf (.ref i2) >>= _) _ _ _
  refine wpAny_bind (nextOf_tuple_item (s := { s with heap := g2 }) ((S.h2.extBut b1.extBut D.i2z).extBut b2.extBut D.i12.symm) ((S.a2.extBut b1.extBut D.l2z).extBut b2.extBut D.l2i1) hy fun g3 t2 b3 => wpAny_pure (wpAny_pure (wpAny_pure ?_)))
  show wpAny _ _ (newTuple [x, y] >>= _) _ _ _
  refine wpAny_bind (wpAny_newTuple (wpAny_pure ⟨_, rfl, wpAny_pure ?_⟩))
  have sz : g3.objs.size = s.heap.objs.size := b3.1.trans (b2.1.trans b1.1)
  have kp : ∀ c o, c ≠ z → c ≠ i1 → c ≠ i2 → s.heap.get? c = some o → (g3.push { cls := .type "tuple", data := .seq #[x, y] }).get? c = some o := fun c o c1 c2 c3 e => Heap.get?_push_of_some _ (b3.extBut _ _ c3 (b2.extBut _ _ c2 (b1.extBut _ _ c1 e)))
  show Q (some (.ref g3.objs.size)) _
  rw [sz]
  refine hQ _ (Heap.get?_push_of_some _ (b3.extBut _ _ D.i2z.symm (b2.extBut _ _ D.i1z.symm z1))) ⟨kp _ _ D.TIz D.TIi1 D.TIi2 S.ti, (t1.extBut b3.extBut D.i12).at fun o e => Heap.get?_push_of_some _ e, t2.at fun o e => Heap.get?_push_of_some _ e, S.a1.at fun o e => kp _ o D.l1z D.l1i1 D.l1i2 e, S.a2.at fun o e => kp _ o D.l2z D.l2i1 D.l2i2 e⟩ ?_ kp
  have e : (g3.push { cls := .type "tuple", data := .seq #[x, y] }).get? g3.objs.size = some { cls := .type "tuple", data := .seq #[x, y] } := Heap.get?_push_size _ rfl
  rw [sz] at e
  exact e
theorem zt_end {z TI TO T i1 i2 l1 l2 : Addr} {f : Bool} {oT : Obj} {i : Nat} {xs ys : Array Value} {Q : Option Value → Shared → Prop} (hh : A.handled = none) (D : ZipApart z TI TO i1 i2 l1 l2) (hz : IsZipHeld s.heap z TI TO T f) (hT : s.heap.get? T = some oT)
    (S : ZtS s.heap TI i1 i2 l1 l2 xs ys i) (hend : xs[i]? = none)
    (hQ : ∀ h', (∀ c o, c ≠ z → c ≠ i1 → c ≠ i2 → s.heap.get? c = some o → h'.get? c = some o) → Q none { s with heap := h' }) : wpAny (model prog w) A (pyNext (.ref z)) Q E s := by
  have ty : s.TypeIs (.ref z) "zip" := ⟨_, hz, rfl⟩
  unfold pyNext
  refine wpAny_bind (wpAny_attempt (wpAny_callSpecial?_slot (name := Str.ofString "__next__") ty F.slot_zip_next (wpAny_call_entry F.slot_zip_next ty F.entry_zip_next ?_ (F.args_zip_next_1 _))))
  show wpAny _ _ (field (.ref z) 2 >>= _) _ _ _
  refine wpAny_bind (wpAny_field hz rfl (x := .bool false) rfl ?_)
  show wpAny _ _ (field (.ref z) 3 >>= _) _ _ _
  refine wpAny_bind (wpAny_field hz rfl (x := .ref TI) rfl (wpAny_bind (wpAny_seqItems S.ti rfl ?_)))
  show wpAny _ _ (Builtin.SmallTypes.ownedTupleIsFree (.ref z) >>= _) _ _ _
  refine wpAny_bind (wpAny_tupleHeld_zip hz hT fun g1 z1 b1 => ?_)
  rw [if_neg Bool.false_ne_true]
  refine wpAny_bind ?_
  rw [← Array.forIn_toList]
  simp only [List.forIn_cons, List.forIn_nil]
  refine wpAny_bind (wpAny_bind (wpAny_holding ?_))
  show wpAny _ _ (Builtin.SmallTypes.nextOf (.ref i1) >>= _) _ _ _
  refine wpAny_bind (nextOf_tuple_end (s := { s with heap := g1 }) hh (S.h1.extBut b1.extBut D.i1z) (S.a1.extBut b1.extBut D.l1z) hend fun g2 e b2 he => ?_)
  obtain ⟨o, ho, hc⟩ := he
  refine wpAny_bind (wpAny_isInstance (T := "StopIteration") (b := true) ⟨o, ho, hc⟩ isSubtype_stop (wpAny_pure (hQ _ fun c o c1 c2 _ x => b2 _ _ c2 (b1.extBut _ _ c1 x))))
/-- zip(l1, l2) of two tuples of one length, as what dict() may be given -/
theorem zt_arg {z TI TO i1 i2 l1 l2 : Addr} (D : ZipApart z TI TO i1 i2 l1 l2) {xs ys : Array Value} (hl : xs.size = ys.size) :
    PairArg prog w "zip" z [z, TI, TO, i1, i2, l1, l2] [z, TO, i1, i2] xs.size (fun i k v => xs[i]? = some k ∧ ys[i]? = some v) (fun h => IsZip h z TI TO .none ∧ (∃ a b, IsPair h TO a b) ∧ ZtS h TI i1 i2 l1 l2 xs ys 0) where
  type := fun s ok => ⟨_, ok.1, rfl⟩
  notDict := by decide
  keep := fun h h' ok k => ⟨k _ _ ok.1, ok.2.1.imp fun a ⟨b, e⟩ => ⟨b, k _ _ e⟩, ok.2.2.keep fun b _ o => k b o⟩
  there := fun h ok b hb => by
    obtain ⟨hz, ⟨a, c, hO⟩, S⟩ := ok
    obtain ⟨o1, e1, _⟩ := S.h1
    obtain ⟨o2, e2, _⟩ := S.h2
    obtain ⟨o3, e3, _⟩ := S.a1
    obtain ⟨o4, e4, _⟩ := S.a2
    have e : b = z ∨ b = TI ∨ b = TO ∨ b = i1 ∨ b = i2 ∨ b = l1 ∨ b = l2 := by simpa using hb
    rcases e with e | e | e | e | e | e | e <;> rw [e]
    · exact ⟨_, hz⟩
    · exact ⟨_, S.ti⟩
    · exact ⟨_, hO⟩
    · exact ⟨_, e1⟩
    · exact ⟨_, e2⟩
    · exact ⟨_, e3⟩
    · exact ⟨_, e4⟩
  sub := fun b hb => by
    have e : b = z ∨ b = TO ∨ b = i1 ∨ b = i2 := by simpa using hb
    rcases e with e | e | e | e <;> rw [e] <;> simp
  noKeys := fun A s Q E hA ok h => getAttrOr_miss_zip ok.1 rfl rfl rfl zip_no_keys (by decide +kernel) hA h
  iter := fun A s d Q E hA ok hd hdf h => by
    obtain ⟨hz, ⟨a, b, hO⟩, S⟩ := ok
    have hdf' : d ≠ z ∧ d ≠ TI ∧ d ≠ TO ∧ d ≠ i1 ∧ d ≠ i2 ∧ d ≠ l1 ∧ d ≠ l2 := by simpa using hdf
    obtain ⟨dz, dT, dO, d1, d2, d3, d4⟩ := hdf'
    have off : ∀ {h h' : Heap} {n : Nat}, ZtS h TI i1 i2 l1 l2 xs ys n → (∀ b o, b ≠ d → h.get? b = some o → h'.get? b = some o) → ZtS h' TI i1 i2 l1 l2 xs ys n := fun S k => S.keep fun b hb o => k b o (by
      have e : b = TI ∨ b = i1 ∨ b = i2 ∨ b = l1 ∨ b = l2 := by simpa using hb
      rcases e with e | e | e | e | e <;> rw [e] <;> exact Ne.symm (by assumption))
    refine wpAny_pyIter_zip hz (h z [z, TO, i1, i2] (fun n g => ZtS g TI i1 i2 l1 l2 xs ys n ∧ ((IsZip g z TI TO .none ∧ ∃ a b, IsPair g TO a b) ∨ ∃ T f oT, IsZipHeld g z TI TO T f ∧ g.get? T = some oT ∧ T ≠ z ∧ T ≠ i1 ∧ T ≠ i2 ∧ T ≠ d)) s.heap s.toks
      ⟨by simp; exact ⟨dz, dO, d1, d2⟩, fun n g g' st k => ⟨off st.1 k, st.2.imp (fun q => ⟨k _ _ (Ne.symm dz) q.1, q.2.imp fun a ⟨b, e⟩ => ⟨b, k _ _ (Ne.symm dO) e⟩⟩) fun ⟨T, f, oT, q1, q2, r1, r2, r3, r4⟩ => ⟨T, f, oT, k _ _ (Ne.symm dz) q1, k _ _ r4 q2, r1, r2, r3, r4⟩⟩, ?_, ?_⟩
      ⟨S, .inl ⟨hz, a, b, hO⟩⟩ (fun _ _ e => e) fun b hb => .inl hb)
    · intro n t Qn En hn st hds q
      obtain ⟨S, st⟩ := st
      obtain ⟨x, hx⟩ : ∃ x, xs[n]? = some x := ⟨_, Array.getElem?_eq_getElem hn⟩
      obtain ⟨y, hy⟩ : ∃ y, ys[n]? = some y := ⟨_, Array.getElem?_eq_getElem (hl ▸ hn)⟩
      have lt : ∀ {c o}, t.heap.get? c = some o → t.heap.objs.size ≠ c := fun e => Nat.ne_of_gt (Heap.lt_size e)
      have n1 : t.heap.objs.size ≠ i1 := let ⟨_, e, _⟩ := S.h1; lt e
      have n2 : t.heap.objs.size ≠ i2 := let ⟨_, e, _⟩ := S.h2; lt e
      rcases st with ⟨kz, a, b, kO⟩ | ⟨T, f, oT, kz, kT, r1, r2, r3, r4⟩
      · refine pyNext_zipT_item D kz S.ti kO S.h1 S.h2 S.a1 S.a2 hx hy fun h' c1 c2 c3 c4 c5 c6 k => ?_
        exact q _ x y h' t.toks ⟨hx, hy⟩ (.inl ⟨_, c5, rfl, _, rfl⟩) ⟨⟨k _ _ D.TIz D.TITO D.TIi1 D.TIi2 S.ti, c3, c4, S.a1.at fun o => k _ o D.l1z D.l1TO D.l1i1 D.l1i2, S.a2.at fun o => k _ o D.l2z D.l2TO D.l2i1 D.l2i2⟩, .inr ⟨_, false, _, c1, c5, lt kz, n1, n2, Nat.ne_of_gt hds⟩⟩
          fun c o hc e => k c o (fun x => hc (by simp [x])) (fun x => hc (by simp [x])) (fun x => hc (by simp [x])) (fun x => hc (by simp [x])) e
      · refine zt_next D kz kT S hx hy fun h' c1 c2 c3 k => ?_
        exact q _ x y h' t.toks ⟨hx, hy⟩ (.inl ⟨_, c3, rfl, _, rfl⟩) ⟨c2, .inr ⟨T, true, oT, c1, k _ _ r1 r2 r3 kT, r1, r2, r3, r4⟩⟩
          fun c o hc e => k c o (fun x => hc (by simp [x])) (fun x => hc (by simp [x])) (fun x => hc (by simp [x])) e
    · intro t Qn En st q
      obtain ⟨S, st⟩ := st
      have hx : xs[xs.size]? = none := Array.getElem?_eq_none (Nat.le_refl _)
      rcases st with ⟨kz, a, b, kO⟩ | ⟨T, f, oT, kz, kT, r1, r2, r3, r4⟩
      · exact pyNext_zipT_end hA D kz S.ti kO S.h1 S.h2 S.a1 S.a2 (.inl hx) fun h' k => q h' t.toks fun c o hc e => k c o (fun x => hc (by simp [x])) (fun x => hc (by simp [x])) (fun x => hc (by simp [x])) (fun x => hc (by simp [x])) e
      · exact zt_end hA D kz kT S hx fun h' k => q h' t.toks fun c o hc e => k c o (fun x => hc (by simp [x])) (fun x => hc (by simp [x])) (fun x => hc (by simp [x])) e
end
/-- the pairs of names and values -/
theorem zt_kv : ∀ {ns : List Str} {zs : List V} {us vs : List Value} {P : Program} {w : World}, Vals (ns.map V.str) us → Vals zs vs → us.length = vs.length →
    ∃ ku : List (Key × Value), KV (kvI (ns.zip zs)) ku ∧ PairsHave (mixKind P w) us.length (fun i k v => us.toArray[i]? = some k ∧ vs.toArray[i]? = some v) ku := by
  intro ns
  induction ns with
  | nil =>
    intro zs us vs P w r q hl
    cases r
    exact ⟨[], .nil, rfl, fun i k v e => by simp at e⟩
  | cons n ns ih =>
    intro zs us vs P w r q hl
    cases r with
    | @cons a u as us h t =>
      cases q with
      | nil => cases hl
      | @cons y v zs vs hy tq =>
        obtain ⟨ku, rk, ek, hk⟩ := ih (P := P) (w := w) t tq (Nat.succ.inj hl)
        refine ⟨(.inr n, v) :: ku, .cons ⟨rfl, hy⟩ rk, congrArg Nat.succ ek, fun i k v' e => ?_⟩
        cases i with
        | zero =>
          obtain ⟨e1, e2⟩ := e
          have e1' : u = k := by simpa using e1
          have e2' : v = v' := by simpa using e2
          subst e1' e2'
          obtain ⟨tk, rfl⟩ := (show ∃ t, u = Value.str n t from h)
          exact ⟨.inr n, rfl, keyIs_str n tk⟩
        | succ i => exact hk i k v' ⟨by simpa using e.1, by simpa using e.2⟩
/-- dict(zip(a, b)), a a tuple of names, b another one as long -/
def tDictZip (K : PySem.W.Frag) (t : TA) : TE := fun σ H Q => t σ H fun vs H1 => ∃ (a b : Addr) (ns : List Str) (zs : List V), vs = [.ref a, .ref b] ∧ SqT K H1 a (ns.map V.str) ∧ SqT K H1 b zs ∧ ns.length = zs.length ∧ ∀ p, H1 p = none → Q (.ref p) (upd H1 p (.dK (mergeK [] (kvI (ns.zip zs)))))
theorem pe_dictZip {X : Cx} {e e2 : Expr} {ta : TA} {p pos p2 pos2 : Pos} (hc : X.calm = true) (hg : Gl X "dict") (hm : X.mg "dict" = none) (hg2 : Gl X "zip") (hm2 : X.mg "zip" = none) (ha : PA X [e, e2] ta)
    (hs : starEach [e, e2] X.env = (false, eval e X.env) :: starEach [e2] X.env := by rfl) (hpl : (backTo pos2 (starEach [e2] X.env)).any (·.1) = false := by rfl)
    (hs1 : starEach [(.Call (.Name "zip" p2) [e, e2] [] pos2)] X.env = (false, eval (.Call (.Name "zip" p2) [e, e2] [] pos2) X.env) :: starEach [] X.env := by rfl) :
    PE X (.Call (.Name "dict" p) [.Call (.Name "zip" p2) [e, e2] [] pos2] [] pos) (tDictZip X.K ta) := by
  refine ⟨fun pins s σ H R I h => ?_⟩
  refine wpAny_Call_Name_kw (ld_blt I hg hm PyProof.Rows.boot_dict ?_)
  refine PyProof.Rows.callWith_type1 ?_ hs1 rfl
  rw [hs1]
  show wpAny _ _ (spliced ((false, eval (.Call (.Name "zip" p2) [e, e2] [] pos2) X.env) :: backTo pos (starEach [] X.env))) _ _ s
  refine Calls.spliced_cons ?_
  refine Call_ (ld_blt I hg2 hm2 PyProof.Rows.boot_zip (PyProof.Rows.callWith_type1 (thn (ha.run pos2 pins s σ H _ I h) fun us s1 ⟨vs, H1, I1, r1, q1⟩ => ?_) hs hpl))
  obtain ⟨a, b, ns, zs, ex, ta', tb', hl, q⟩ := q1
  subst ex
  obtain ⟨u, v, eu, ru, rv⟩ := vals2 r1
  subst eu
  cases ru
  cases rv
  obtain ⟨its, r2, p1, z1⟩ := I1.tuple ta'
  obtain ⟨its2, r3, p2', z2⟩ := I1.tuple tb'
  obtain ⟨o1, ho1, _⟩ := id p1
  obtain ⟨o2, ho2, _⟩ := id p2'
  have el : its.length = its2.length := by rw [← r2.length, ← r3.length, List.length_map, hl]
  refine call_zipT (show s1.heap.IsTuple a its.toArray from p1) (show s1.heap.IsTuple b its2.toArray from p2') fun h' hz hTI hTO h1 h2 hsz hk => ?_
  have D := PySem.W.ktu_apart s1.heap.objs.size a b (Heap.lt_size ho1) (Heap.lt_size ho2)
  have I2 : Inv X pins σ H1 { s1 with heap := h' } := I1.kept (t' := s1.toks) hk
  refine Calls.spliced_nil ?_
  obtain ⟨ku, rk, hp⟩ := zt_kv (P := X.prog) (w := X.w) r2 r3 el
  have ex : its.toArray.size = its.length := by simp
  have hp' : PairsHave (mixKind X.prog X.w) its.toArray.size (fun i k v => its.toArray[i]? = some k ∧ its2.toArray[i]? = some v) ku := by rw [ex]; exact hp
  refine PySem.call_dict_pairs (zt_arg D (xs := its.toArray) (ys := its2.toArray) (by simp [el])) (I2.ok.hd hc) ⟨hz, ⟨_, _, hTO⟩, hTI, h1, h2, Heap.IsTuple.at (h := s1.heap) p1 fun o e => hk _ o e, Heap.IsTuple.at (h := s1.heap) p2' fun o e => hk _ o e⟩ hp' ?_ fun h2 tk hd k => ?_
  · rw [ex, ← r2.length]; exact z1
  · have hb : (h'.objs.size == sysModules) = false := beq_eq_false_iff_ne.mpr (Nat.ne_of_gt I2.big)
    have hle : s1.heap.objs.size ≤ h'.objs.size := by rw [hsz]; omega
    have hlen : (mergeK [] (kvI (ns.zip zs))).length ≤ sizeLine := by
      refine Nat.le_trans (length_mergeK _ []) ?_
      have e1 : (kvI (ns.zip zs)).length = its.length := by rw [rk.length, hp.1]
      have e2 : its.length ≤ sizeLine := by rw [← r2.length]; exact z1
      rw [e1]
      simpa using e2
    refine ⟨.ref h'.objs.size, upd H1 h'.objs.size (.dK (mergeK [] (kvI (ns.zip zs)))), I1.laid (t' := tk) (fun c o e => k c o ?_ (hk _ _ e)) hle (show ObjOk X.prog X.w _ _ _ (.dK (mergeK [] (kvI (ns.zip zs)))) from ⟨hlen, hb, merged [] ku, KV.merge rk .nil, hd⟩), rfl, q _ (I1.hok.fresh hle)⟩
    have lt : c < s1.heap.objs.size := Heap.lt_size e
    intro hm
    have hm' : c = s1.heap.objs.size + 4 ∨ c = s1.heap.objs.size + 3 ∨ c = s1.heap.objs.size ∨ c = s1.heap.objs.size + 1 := by simpa using hm
    have l2 : @LT.lt Nat _ c s1.heap.objs.size := lt
    rcases hm' with z | z | z | z
    · have z2 : @Eq Nat c (s1.heap.objs.size + 4) := z
      omega
    · have z2 : @Eq Nat c (s1.heap.objs.size + 3) := z
      omega
    · have z2 : @Eq Nat c s1.heap.objs.size := z
      omega
    · have z2 : @Eq Nat c (s1.heap.objs.size + 1) := z
      omega
end Xr
set_option Elab.async false
set_option linter.all false
set_option maxRecDepth 100000
set_option maxHeartbeats 4000000
/-! R12: {**a, **b}. -/
namespace Xr
open PySem PySem.Spec PyProof.Rows L2 ClX StX
section
variable {X : Cx} {pins : List (Addr × Obj)} {σ : L2.St} {H : Hp} {s : Shared}
/-- the dict at a, merged into the one at d -/
theorem mergeD {d a : Addr} {kd ka : List (Key × V)} {Q : Unit → Shared → Prop} {E : Value → Shared → Prop} (I : Inv X pins σ H s) (hd : H d = some (.dK kd)) (ha : H a = some (.dK ka)) (hne : a ≠ d) (hsz : kd.length + ka.length ≤ sizeLine)
    (h : ∀ h', Inv X pins σ (upd H d (.dK (mergeK kd ka))) { s with heap := h' } → Q () { s with heap := h' }) : wpAny (model X.prog X.w) X.A (mergeMapping d (.ref a) false) Q E s := by
  obtain ⟨z, hS, vs, rel, dd⟩ := dk_of I.hok ha
  obtain ⟨z0, hS0, vs0, rel0, dd0⟩ := dk_of I.hok hd
  refine wpAny_mergeMapping (fun q => hne q.symm) hS dd0 dd (fun e => nomatch e) (fun h' hd' hs' => h h' ?_) (by rw [← rel0.length, ← rel.length]; exact hsz)
  have hex : ∃ u, h'.get? d = some u := by
    obtain ⟨o, _, _, ho, _⟩ := hd'
    exact ⟨o, ho⟩
  exact I.write (t' := s.toks) (x := d) (e := d) (o := .dK (mergeK kd ka)) (by rw [hd]; exact True.intro) (.inl rfl) (fun b u hb q => (hs'.2 b hb).trans q) hex ⟨Nat.le_trans (length_mergeK ka kd) hsz, hS0, _, rel.merge rel0, hd'⟩
end
/-- {**a, **b}: a new dict, which a and b are merged into -/
def tMerge2 (ta tb : TE) : TE := fun σ H Q => ∀ d, H d = none → ta σ (upd H d (.dK [])) fun x H1 => H1 d = some (.dK []) ∧ ∃ a ka, x = .ref a ∧ a ≠ d ∧ H1 a = some (.dK ka) ∧ ka.length ≤ 1000 ∧
  tb σ (upd H1 d (.dK (mergeK [] ka))) fun y H2 => H2 d = some (.dK (mergeK [] ka)) ∧ ∃ b kb, y = .ref b ∧ b ≠ d ∧ H2 b = some (.dK kb) ∧ kb.length ≤ 1000 ∧ Q (.ref d) (upd H2 d (.dK (mergeK (mergeK [] ka) kb)))
theorem pe_merge2 {X : Cx} {e1 e2 : Expr} {ta tb : TE} {pos : Pos} (ha : PE X e1 ta) (hb : PE X e2 tb) : PE X (.Dict [none, none] [e1, e2] pos) (tMerge2 ta tb) := by
  refine ⟨fun pins s σ H Q I h => ?_⟩
  have sl : 1000000 ≤ sizeLine := by decide
  have hn : H s.heap.objs.size = none := I.hok.fresh (Nat.le_refl _)
  have I1 : Inv X pins σ (upd H s.heap.objs.size (.dK [])) { s with heap := s.heap.push { cls := .type "dict", data := .dict #[] } } :=
    I.laid (t' := s.toks) (fun b u q => Heap.get?_push_of_some _ q) (Nat.le_refl _) (dk_empty _ I.big)
  have e : eval (.Dict [none, none] [e1, e2] pos) X.env = (do
      standAt pos
      dictDisplay [(none, do let x ← eval e1 X.env; standAt pos; pure x), (none, do let x ← eval e2 X.env; standAt pos; pure x)]) := by rfl
  rw [e]
  refine wpAny_bind (wpAny_standAt ?_)
  unfold dictDisplay
  simp only [List.forIn_cons, List.forIn_nil, List.isEmpty_nil, if_true]
  refine wpAny_bind (wpAny_bind (wpAny_bind (wpAny_pure ?_)))
  dsimp only
  refine wpAny_bind (wpAny_alloc (wpAny_bind (wpAny_holding (wpAny_bind (thn (ha.run pins _ σ _ _ I1 (h _ hn)) fun v s1 ⟨x, H1, I2, rx, hd, a, ka, ex, hne, ea, hl, q1⟩ => ?_)))))
  subst ex
  obtain rfl : v = Value.ref a := rx
  refine wpAny_bind (wpAny_standAt (wpAny_pure (wpAny_bind (wpAny_onRaise (wpAny_tryCatch (wpAny_onRaise (wpAny_holding (mergeD I2 hd ea hne (by rw [List.length_nil]; omega) fun h1 I3 => ?_))))))))
  refine wpAny_pure ?_
  dsimp only
  refine wpAny_bind (wpAny_bind ?_)
  rw [if_pos (by rfl)]
  refine wpAny_pure ?_
  dsimp only
  refine wpAny_bind (wpAny_pure (wpAny_bind (wpAny_holding (wpAny_bind (thn (hb.run pins _ σ _ _ I3 q1) fun v s2 ⟨y, H2, I4, ry, hd2, b, kb, ey, hne2, eb, hl2, q2⟩ => ?_)))))
  subst ey
  obtain rfl : v = Value.ref b := ry
  have lk : (mergeK [] ka).length ≤ 1000 := Nat.le_trans (length_mergeK ka []) (by rw [List.length_nil]; omega)
  refine wpAny_bind (wpAny_standAt (wpAny_pure (wpAny_bind (wpAny_onRaise (wpAny_tryCatch (wpAny_onRaise (wpAny_holding (mergeD I4 hd2 eb hne2 (by omega) fun h2 I5 => ?_))))))))
  refine wpAny_pure ?_
  dsimp only
  refine wpAny_pure ?_
  dsimp only
  refine wpAny_bind ?_
  rw [if_pos (by rfl)]
  refine wpAny_pure (wpAny_pure ⟨.ref s.heap.objs.size, _, I5, rfl, q2⟩)
end Xr
set_option Elab.async false
set_option linter.all false
set_option maxRecDepth 100000
set_option maxHeartbeats 4000000
/-! R13: o.m(k = v, ..), m a def m(self, **rest). -/
namespace Xr
open PySem PySem.Spec PyProof.Rows L2 ClX StX
/-- o.m(k = v, ..) -/
def tMethKw (C : Addr) (m : Str) (ks : List Str) (sp : Sp) (E : XK) (ta : TE) (tk : TA) : TE := fun σ H Q => ta σ H fun x H1 => ∃ a dx fs, x = .ref a ∧ H1 a = some (.ins C dx fs) ∧ fs.lookup m = none ∧
  tk σ H1 fun zs H2 => zs.length = ks.length ∧ ∀ p, H2 p = none → sp [.ref a, .ref p] (upd H2 p (.dK (kvI (ks.zip zs)))) Q E
theorem pe_methKw {X : Cx} {CX : CXT} {k : Nat} {C f : Addr} {c m : Str} {sp : Sp} {E : XK} {o : Expr} {pos apos : Pos} {ta : TE} {tk : TA} {kws : List Keyword} {ks : List Str} {pl : Sem Bool} (he : PE X o ta) (cl : Cls X.K C) (hm : Meth X.K C m f)
    (F : FnKw X.prog X.w X.K X.mg X.base CX k f c sp) (hr : Room k X.A) (hx : Passes CX X E) (hkw : PK X kws tk) (hnd : ks.Nodup) (hc : c ∉ ks) (hlen : ks.length ≤ 1000)
    (hall : (backToKw pos (keywordEach kws X.env)).all (·.1.isSome) = true := by rfl) (hks : (backToKw pos (keywordEach kws X.env)).filterMap (·.1) = ks := by rfl)
    (hpl : ((backTo pos (starEach [] X.env)).any (·.1) || (backToKw pos (keywordEach kws X.env)).any (·.1.isNone)) = false := by rfl)
    (ht : eval (.Call (.Attribute o m apos) [] kws pos) X.env = (do
      let ov ← eval o X.env
      standAt apos.atName
      let (f, first) ← holding [ov] (getMethod ov m pl)
      callWith pos f first (backTo pos (starEach [] X.env)) (backToKw pos (keywordEach kws X.env))) := by rfl) :
    PE X (.Call (.Attribute o m apos) [] kws pos) (tMethKw C m ks sp E ta tk) := by
  refine ⟨fun pins s σ H Q I h => ?_⟩
  refine PySem.W.methodCall_KW (pl := pl) (thn (he.run pins s σ H _ I h) fun u s1 ⟨x, H1, I1, rx, a, dx, fs, ex, ea, l, q⟩ => ?_) ht
  subst ex
  obtain rfl : u = Value.ref a := rx
  refine getmeth_ok I1 ea cl hm l ?_
  refine PySem.W.callWith_KW0 (first := [.ref a]) (h₀ := X.base) I.ok.mod.kin hm.kp hall (thn (hkw.run pos pins s1 σ H1 _ I1 q) fun ws s3 ⟨zs, H3, I3, rz, hl, hsp⟩ => ⟨I3.kIn, ?_⟩) hpl
  rw [hks]
  have zf : (ks.zip zs).map (·.1) = ks := zip_fst hl
  refine wpAny_call (codeAny_mono (F X.A X.stack s3 H3 (.ref a) (ks.zip ws) (.ref a) (ks.zip zs) Q E hr I3.env0 rfl (relK_zip rz) (by rw [zf]; exact hnd) (fun q hq e => hc ?_) ?_ hsp) fun r s' hq => ?_)
  · rw [← e, ← zf]
    exact List.mem_map_of_mem hq
  · have e := congrArg List.length zf
    rw [List.length_map] at e
    rw [e]
    exact hlen
  · cases r with
    | error e => exact hx _ σ H3 s3 e s' I3 hq
    | ok fl =>
      cases fl with
      | ret u => exact I3.after hq
      | next => exact False.elim hq
      | brk => exact False.elim hq
      | cont => exact False.elim hq
end Xr
set_option Elab.async false
set_option linter.all false
set_option maxRecDepth 100000
set_option maxHeartbeats 4000000
/-! R14: dicts of names, some of them exchanged. -/
namespace Xr
open PySem PySem.Spec PyProof.Rows L2 ClX StX
theorem kwV_kvI : ∀ kw : List (Str × V), kwV (kvI kw) = some kw
  | [] => rfl
  | (x, v) :: r => by
    show (kwV (kvI r)).map ((x, v) :: ·) = _
    rw [kwV_kvI r]; rfl
theorem merge_app : ∀ (more kvs : List (Key × V)), ((kvs ++ more).map (·.1)).Nodup → mergeK kvs more = kvs ++ more
  | [], kvs, _ => by rw [List.append_nil]; rfl
  | p :: r, kvs, h => by
    have e : kvs ++ p :: r = (kvs ++ [p]) ++ r := by rw [List.append_assoc]; rfl
    have hn : (kvs.any fun kv => decide (kv.1 = p.1)) = false := by
      rw [List.any_eq_false]
      intro kv hm z
      rw [List.map_append, List.nodup_append] at h
      exact h.2.2 kv.1 (List.mem_map_of_mem hm) p.1 (by rw [List.map_cons]; exact List.mem_cons_self ..) (of_decide_eq_true z)
    show mergeK (putK kvs p.1 p.2) r = _
    unfold putK
    rw [hn, if_neg Bool.false_ne_true, e]
    exact merge_app r _ (by rw [← e]; exact h)
theorem zip_miss (n : Str) (v : V) : ∀ (ns : List Str) (xs : List V), n ∉ ns → (kvI (ns.zip xs)).map (fun kv => if kv.1 = (Sum.inr n : Key) then (kv.1, v) else kv) = kvI (ns.zip xs)
  | [], _, _ => rfl
  | m :: ns, [], _ => rfl
  | m :: ns, x :: xs, h => by
    have h1 : ¬ ((Sum.inr m : Key) = Sum.inr n) := fun e => h (by rw [← Sum.inr.inj e]; exact List.mem_cons_self ..)
    show (if (Sum.inr m : Key) = Sum.inr n then ((Sum.inr m : Key), v) else ((Sum.inr m : Key), x)) :: (kvI (ns.zip xs)).map _ = _
    rw [if_neg h1, zip_miss n v ns xs fun e => h (List.mem_cons_of_mem _ e)]
    rfl
theorem zip_hit (n : Str) (v : V) : ∀ (ns : List Str) (xs : List V) (i : Nat), ns.Nodup → xs.length = ns.length → ns[i]? = some n → (kvI (ns.zip xs)).map (fun kv => if kv.1 = (Sum.inr n : Key) then (kv.1, v) else kv) = kvI (ns.zip (xs.set i v))
  | [], _, i, _, _, h => by simp at h
  | m :: ns, [], i, _, hl, _ => by cases hl
  | m :: ns, x :: xs, 0, hn, hl, h => by
    have e : m = n := by simpa using h
    subst e
    show (if (Sum.inr m : Key) = Sum.inr m then ((Sum.inr m : Key), v) else ((Sum.inr m : Key), x)) :: (kvI (ns.zip xs)).map _ = _
    rw [if_pos rfl, zip_miss m v ns xs (List.nodup_cons.mp hn).1]
    rfl
  | m :: ns, x :: xs, i + 1, hn, hl, h => by
    obtain ⟨hn1, hn2⟩ := List.nodup_cons.mp hn
    have hi : ns[i]? = some n := by simpa using h
    have h1 : ¬ ((Sum.inr m : Key) = Sum.inr n) := fun e => hn1 (by rw [Sum.inr.inj e]; exact List.mem_of_getElem? hi)
    show (if (Sum.inr m : Key) = Sum.inr n then ((Sum.inr m : Key), v) else ((Sum.inr m : Key), x)) :: (kvI (ns.zip xs)).map _ = _
    rw [if_neg h1, zip_hit n v ns xs i hn2 (Nat.succ.inj hl) hi]
    rfl
theorem kvI_keys (ns : List Str) (xs : List V) (hl : xs.length = ns.length) : (kvI (ns.zip xs)).map (·.1) = ns.map Sum.inr := by
  unfold kvI
  rw [List.map_map]
  have e := zip_fst (ks := ns) (zs := xs) hl
  rw [show ((fun x : Key × V => x.1) ∘ fun q : Str × V => ((Sum.inr q.1 : Key), q.2)) = (fun n => (Sum.inr n : Key)) ∘ (·.1) from rfl, ← List.map_map, e]
theorem put_zip {ns : List Str} {xs : List V} {i : Nat} {n : Str} (v : V) (hn : ns.Nodup) (hl : xs.length = ns.length) (h : ns[i]? = some n) : putK (kvI (ns.zip xs)) (.inr n) v = kvI (ns.zip (xs.set i v)) := by
  unfold putK
  rw [if_pos]
  · exact zip_hit n v ns xs i hn hl h
  · rw [List.any_eq_true]
    have hm : (Sum.inr n : Key) ∈ (kvI (ns.zip xs)).map (·.1) := by
      rw [kvI_keys ns xs hl]
      exact List.mem_map_of_mem (List.mem_of_getElem? h)
    obtain ⟨kv, hm, e⟩ := List.mem_map.mp hm
    exact ⟨kv, hm, decide_eq_true e⟩
theorem merge_self {ns : List Str} {xs : List V} (hn : ns.Nodup) (hl : xs.length = ns.length) : mergeK [] (kvI (ns.zip xs)) = kvI (ns.zip xs) :=
  merge_app (kvI (ns.zip xs)) [] (by
    rw [List.nil_append, kvI_keys ns xs hl]
    exact List.pairwise_map.mpr (hn.imp fun h z => h (Sum.inr.inj z)))
/-- parts exchanged, by their places -/
def setAll (xs : List V) (is : List (Nat × V)) : List V := is.foldl (fun xs iv => xs.set iv.1 iv.2) xs
def kwOfI (ns : List Str) (is : List (Nat × V)) : List (Str × V) := is.map fun iv => (ns.getD iv.1 "", iv.2)
theorem setAll_len : ∀ (is : List (Nat × V)) (xs : List V), (setAll xs is).length = xs.length
  | [], xs => rfl
  | iv :: is, xs => by
    show (setAll (xs.set iv.1 iv.2) is).length = _
    rw [setAll_len is, List.length_set]
theorem merge_set {ns : List Str} (hn : ns.Nodup) : ∀ (is : List (Nat × V)) (xs : List V), xs.length = ns.length → (∀ iv ∈ is, iv.1 < ns.length) → mergeK (kvI (ns.zip xs)) (kvI (kwOfI ns is)) = kvI (ns.zip (setAll xs is))
  | [], xs, _, _ => rfl
  | iv :: is, xs, hl, hi => by
    have h0 : ns[iv.1]? = some (ns.getD iv.1 "") := by
      rw [List.getD_eq_getElem?_getD, List.getElem?_eq_getElem (hi iv (List.mem_cons_self ..))]; rfl
    show mergeK (putK (kvI (ns.zip xs)) (.inr (ns.getD iv.1 "")) iv.2) (kvI (kwOfI ns is)) = kvI (ns.zip (setAll (xs.set iv.1 iv.2) is))
    rw [put_zip iv.2 hn hl h0]
    exact merge_set hn is _ (by rw [List.length_set]; exact hl) fun x hx => hi x (List.mem_cons_of_mem _ hx)
end Xr
set_option Elab.async false
set_option linter.all false
set_option maxRecDepth 100000
set_option maxHeartbeats 4000000
/-! R15: a def called in an except suite, that needs no more than its arguments there. -/
namespace Xr
open PySem PySem.Spec PyProof.Rows L2 ClX StX
/-- the def at f keeps sp while p's exception is handled, and lets nothing out -/
structure FnQ (P : Program) (w : World) (K : PySem.W.Frag) (mg : Str → Option Value) (base : Heap) (k : Nat) (f : Addr) (fd : FuncData) (ps : List Str) (sp : Sp) : Prop where
  len : ∀ vs H Q E, sp vs H Q E → vs.length = ps.length
  run : ∀ (A : Around) (outer : List Env) (s : Shared) (H : Hp) (args : Args) (us : List Value) (vs : List V) (Q : VK) (E : XK) (p : Addr × Obj), Room k A → L2H.PinOk outer H s p → (∃ vs, p.2.data = .fields vs) → Env0 P w K mg base A outer s H → BindsTo s fd args (ps.zip us) → Vals vs us → sp vs H Q E →
    codeAny (model P w) (A.mark (some (.ref p.1))) (.call (.ref f) args) (CR CX0 outer P w H s Q E) s
section
variable {P : Program} {w : World} {K : PySem.W.Frag} {mg : Str → Option Value} {base : Heap} {x qual : Str} {params : Arguments} {body : List Stmt} {scope : Scope} {dvs : List V} {kws : List (Str × V)} {f : Addr} {fd : FuncData}
theorem fn_q {N ps : List Str} {k : Nat} {sp : Sp} (F : FunD K x qual params body scope dvs kws f fd) (S : FnScope N ps scope) (len : ∀ vs H Q E, sp vs H Q E → vs.length = ps.length)
    (hbody : ∀ (cdv : Value) (A : Around) (outer : List Env) (s : Shared) (H : Hp) (vs : List V) (Q : VK) (E : XK) (p : Addr × Obj), Room k (A.deeper (envOfC qual scope s.heap.objs.size f cdv)) → sp vs H Q E →
      ∃ t, PSs ((cxOf CX0 P w K mg base N qual scope f cdv A outer s H E).suite p.1 [p]) body t ∧ t { nx := fun _ H' => Q .non H', rt := Q } (start N vs) H) : FnQ P w K mg base (k + 1) f fd ps sp := by
  obtain ⟨oc, od, dV, kV, doc, pm, an, cdv, ct, osl, rfl, lk, hcd, _, _⟩ := F.ex
  refine ⟨len, fun A outer s H args us vs Q E p hr hpin hfl e0 hb r hsp => ?_⟩
  have hl := len _ _ _ _ hsp
  have KX : K.In s.heap := e0.mod.kin.keeps fun b o e => (e0.bs b o e).1
  have lim : s.heap.NoLimit := e0.mod.nolimit.keeps fun b o e => (e0.bs b o e).1
  have hkind : ∀ y ∈ ps.zip us, scope.names.lookup y.1 = some .local ∨ (scope.names.lookup y.1 = some .cell ∧ ((cellsFrom (s.heap.objs.size + 1) scope.names []).lookup y.1).isSome = true) := fun ⟨n, v⟩ hy =>
    (S.par n (List.of_mem_zip hy).1).imp id fun q => ⟨q, PySem.W.cellsFrom_some _ _ _ (.inl q)⟩
  refine codeAny_call_function (show (A.mark (some (.ref p.1))).depth < recursionLimit from hr.depth) (KX _ _ lk) rfl S.co S.gen rfl (PySem.W.codeRec_of KX hcd) (hb _ _ _ _ ?_)
  refine wpAny_newFunctionEnv_cells S.kind hkind fun env he s1 y => ?_
  subst he
  refine ⟨lim.keeps y.toInCall.keep, codeAny_func ?_⟩
  obtain ⟨t, ht, hq⟩ := hbody cdv A outer s H vs Q E p (hr.deeper _) hsp
  have I0 := inv_start (CX := CX0) (E := E) S hr.hd e0 hl r y
  obtain ⟨vs0, hd0⟩ := hfl
  have I := I0.suite (a := p.1) (oe := p.2) (y.toInCall.keep _ _ hpin.get) hd0 hpin.free (Nat.ne_of_lt (Heap.lt_size hpin.get)) hpin.nofs
  refine wpAny_mono (ht.run [] s1 (start N vs) H _ I hq) (fun fl s' hs => ?_) fun e s' hs => hs.elim
  cases fl with
  | ret u =>
    obtain ⟨v, σ', H', J, rv, q⟩ := hs
    exact ⟨v, H', J.os, J.bare, J.base, J.hok, rv, q⟩
  | next =>
    obtain ⟨σ', H', J, q⟩ := hs
    exact ⟨.non, H', J.os, J.bare, J.base, J.hok, rfl, q⟩
  | brk =>
    obtain ⟨_, _, _, q⟩ := hs
    exact False.elim q
  | cont =>
    obtain ⟨_, _, _, q⟩ := hs
    exact False.elim q
end
def tCallQ (sp : Sp) (t : TA) : TE := fun σ H Q => t σ H fun vs H1 => sp vs H1 Q E0
section
variable {X : Cx} {a : Addr} {oe : Obj} {pn : List (Addr × Obj)} {k : Nat} {f : Addr} {fd : FuncData} {ps : List Str} {sp : Sp} {x : Str} {q pos : Pos} {e : Expr} {es : List Expr} {t : TA}
theorem run_fnQ {pins : List (Addr × Obj)} {σ : L2.St} {H : Hp} {s : Shared} {Q : VK} {us : List Value} {vs : List V} (F : FnQ X.prog X.w X.K X.mg X.base k f fd ps sp) (hr : Room k X.A) (hfl : ∃ vs, oe.data = .fields vs) (hb : Binds X.K fd ps [])
    (I : Inv (X.suite a ((a, oe) :: pn)) pins σ H s) (r : Vals vs us) (h : sp vs H Q E0) : wpAny (model X.prog X.w) (X.A.mark (some (.ref a))) (call (.ref f) us) (EP (X.suite a ((a, oe) :: pn)) pins σ Q) (fun _ _ => False) s := by
  have hl : us.length = ps.length := by rw [← r.length]; exact F.len _ _ _ _ h
  have b := hb s us I.kIn (by rw [List.append_nil]; exact hl)
  rw [List.append_nil] at b
  have P1 := I.pin (a, oe) (List.mem_append_left _ List.mem_cons_self)
  have hpin : L2H.PinOk X.stack H s (a, oe) := ⟨P1.1, P1.2.1, fun hm => (List.mem_cons.mp (I.stkSub a hm)).elim P1.2.2.1 P1.2.2.2.1, P1.2.2.2.2⟩
  have e0 : Env0 X.prog X.w X.K X.mg X.base X.A X.stack s H := by
    have e1 := I.env0
    exact ⟨e1.frames, e1.mod, e1.bs, e1.bsz, e1.funs, e1.frf, e1.hok, e1.bare⟩
  refine wpAny_call (codeAny_mono (F.run X.A X.stack s H ⟨us, []⟩ us vs Q E0 (a, oe) hr hpin hfl e0 b r h) fun r s' hq => ?_)
  cases r with
  | error e => exact hq.elim
  | ok fl =>
    cases fl with
    | ret u => exact I.after hq
    | next => exact False.elim hq
    | brk => exact False.elim hq
    | cont => exact False.elim hq
theorem pe_callQ (F : FnQ X.prog X.w X.K X.mg X.base k f fd ps sp) (hr : Room k X.A) (hfl : ∃ vs, oe.data = .fields vs) (hg : Gl X x) (hm : X.mg x = some (.ref f)) (hk : PySem.W.keepIn X.K (.ref f) = true) (hb : Binds X.K fd ps [])
    (ha : PA (X.suite a ((a, oe) :: pn)) (e :: es) t) (hdb : (x == ("__debug__" : Str)) = false := by decide) (he : starEach (e :: es) X.env = (false, eval e X.env) :: starEach es X.env := by rfl) (hpl : (backTo pos (starEach es X.env)).any (·.1) = false := by rfl) :
    PE (X.suite a ((a, oe) :: pn)) (.Call (.Name x q) (e :: es) [] pos) (tCallQ sp t) := by
  refine ⟨fun pins s σ H Q I h => ?_⟩
  refine wpAny_Call_Name_kw (ld_glob (X := X.suite a ((a, oe) :: pn)) I hg hm ?_ hdb)
  refine PySem.W.callWith_K (h₀ := X.base) I.ok.mod.kin hk (thn (ha.run pos pins s σ H _ I h) fun us s1 ⟨vs, H1, I1, r, q⟩ => ⟨I1.kIn, ?_⟩) he hpl
  exact run_fnQ (X := X) (a := a) (oe := oe) (pn := pn) F hr hfl hb I1 r q
end
end Xr
set_option Elab.async false
set_option linter.all false
set_option maxRecDepth 100000
set_option maxHeartbeats 4000000
/-! R16: except clauses one after another, each by a test (a class, a pair of classes), with or without a name. -/
namespace Xr
open PySem PySem.Spec PyProof.Rows L2 ClX StX
/-- the exception at a has landed in X, over the state sI -/
structure Fly (X : Cx) (pins : List (Addr × Obj)) (a : Addr) (B : Heap) (sI s : Shared) (σ : L2.St) (H : Hp) (cls : Value) (d : Option Addr) : Prop where
  J : Inv X pins σ H sI
  nb : ∀ b o, sI.heap.get? b = some o → b ∉ frs X.stack → B.get? b = some o
  up : sI.heap.UpToSlots s.heap
  fl : HandSPX.FlyingZ B (X.env :: X.outer) a (Zc cls d) s.heap
  na : H a = none
  os : s.os = sI.os
  ag : AllBare s.gens
section
variable {X : Cx} {pins : List (Addr × Obj)} {a : Addr} {B : Heap} {sI s : Shared} {σ : L2.St} {H : Hp} {cls : Value} {d : Option Addr}
theorem Fly.inv (F : Fly X pins a B sI s σ H cls d) : Inv X pins σ H s := F.J.landed F.nb F.fl.1 F.up F.os F.ag
theorem Fly.keeps {h' : Heap} {t : Nat} (F : Fly X pins a B sI s σ H cls d) (k : ∀ b o, s.heap.get? b = some o → h'.get? b = some o) : Fly X pins a B sI { s with heap := h', toks := t } σ H cls d := by
  obtain ⟨k1, k2, k3, oe, vs, T, oT, ts, e1, e2, e3, e4, e5, e6, e7, e8, e9⟩ := F.fl
  exact ⟨F.J, F.nb, F.up.trans (Heap.UpToSlots.of_keeps k), ⟨fun b o e => k b o (k1 b o e), k2, Heap.FunFrames.of_keeps (fun b x e _ => ⟨x, k b x e, rfl⟩) k3, oe, vs, T, oT, ts, k _ _ e1, e2, e3, e4, e5, e6, k _ _ e7, e8, e9⟩, F.na, F.os, F.ag⟩
theorem Fly.suite (hf : X.env.frame = some X.env.locals) (F : Fly X pins a B sI s σ H cls d) : ∃ oe vs, s.heap.get? a = some oe ∧ Zc cls d oe ∧ oe.data = .fields vs ∧ Inv (X.suite a ((a, oe) :: (X.pn ++ pins))) [] σ H s := by
  obtain ⟨oe, vs, he, hz, hd⟩ := F.fl.there
  have nfr : a ∉ frs (X.env :: X.outer) := fun hm => by
    obtain ⟨_, o', e', hnf⟩ := F.fl.2.2.1.mem hm
    rw [he] at e'
    cases e'
    exact hnf _ hd
  refine ⟨oe, vs, he, hz, hd, F.inv.suite he hd F.na (fun z => nfr (List.mem_filterMap.mpr ⟨X.env, List.mem_cons_self, by rw [hf, z]⟩)) fun hm => ?_⟩
  obtain ⟨e, he, q⟩ := List.mem_filterMap.mp hm
  exact nfr (List.mem_filterMap.mpr ⟨e, List.mem_cons_of_mem _ he, q⟩)
end
/-- what the clauses do with it -/
structure Catch (X : Cx) (hds : List ExceptHandler) (w : Ends → WX) : Prop where
  run : ∀ (pins : List (Addr × Obj)) (a : Addr) (B : Heap) (sI s : Shared) (σ : L2.St) (H : Hp) (cls : Value) (d : Option Addr) (D : Ends), Fly X pins a B sI s σ H cls d → w D cls d σ H → wpAny (model X.prog X.w) X.A (handleBy (.ref a) X.env hds) (SP X pins D) X.xe s
/-- a clause's test -/
structure Test (X : Cx) (t : Expr) (m : Value → Option Bool) : Prop where
  run : ∀ (pins : List (Addr × Obj)) (a : Addr) (B : Heap) (sI s : Shared) (σ : L2.St) (H : Hp) (cls : Value) (d : Option Addr) (b : Bool) (R : Bool → Shared → Prop) (E1 E2 : Value → Shared → Prop), Fly X pins a B sI s σ H cls d → m cls = some b → (∀ s', Fly X pins a B sI s' σ H cls d → R b s') →
    wpAny (model X.prog X.w) (X.A.mark (some (.ref a))) (eval t X.env) (fun c s₁ => wpAny (model X.prog X.w) (X.A.mark (some (.ref a))) (excMatches (.ref a) c) R E1 s₁) E2 s
section
variable {X : Cx} {hds : List ExceptHandler} {w : Ends → WX}
theorem ps_try_c {body : List Stmt} {h₀ : ExceptHandler} {pos : Pos} {tb : WX → TS} (hs : X.stack = X.env :: X.outer) (hf : X.env.frame = some X.env.locals)
    (hb : ∀ (W : WX) (pn : List (Addr × Obj)) (xe : Value → Shared → Prop), Takes (X.tr pn xe) W → PassesOwn (model X.prog X.w) X.A X.env xe → PSs (X.tr pn xe) body (tb W)) (hc : Catch X (h₀ :: hds) w) :
    PS X (.Try body (h₀ :: hds) [] [] pos) (fun D σ H => tb (w D) D σ H) := by
  refine ⟨fun pins s σ H D I h => ?_⟩
  have ok := I.ok
  have hfr : X.A.frames = some (X.env :: X.outer) := by rw [ok.frames, hs]
  refine wpAny_Try_except ?_
  refine wpAny_mono ((hb (w D) (X.pn ++ pins) (fun e s₁ => wpAny (model X.prog X.w) X.A (noteFrame e X.env) (fun _ s₂ => wpAny (model X.prog X.w) X.A (setFlight e none) (fun _ s₃ =>
    wpAny (model X.prog X.w) X.A (handleBy e X.env (h₀ :: hds)) (SP X pins D) X.xe s₃) X.xe s₂) X.xe s₁) (fun u s' xx => ?_) PassesOwn.looking).run [] s σ H D (I.toTry _) h) (fun f s1 hsp => ?_) (fun e s1 he => he)
  · obtain ⟨a, B, sI, pins', σ', H', cls, d, rfl, J', nb, up, sky, na, os, ag, wi⟩ := xx
    have sky' : Sky B (X.env :: X.outer) a (Zc cls d) X.env.locals s'.heap := by rw [← hs]; exact sky
    show wpAny (model X.prog X.w) X.A (noteFrame (.ref a) X.env) _ _ _
    exact Sky.land Zc.steady hfr hf sky' fun h3 fl3 up3 => hc.run pins a B sI { s' with heap := h3 } σ' H' cls d D ⟨J'.ofTry ok, nb, up.trans up3, fl3, na, os, ag⟩ wi
  · cases f with
    | next =>
      obtain ⟨σ', H', J', q⟩ := hsp
      exact wpAny_execs_nil ⟨σ', H', J'.ofTry ok, q⟩
    | brk =>
      obtain ⟨σ', H', J', q⟩ := hsp
      exact ⟨σ', H', J'.ofTry ok, q⟩
    | cont =>
      obtain ⟨σ', H', J', q⟩ := hsp
      exact ⟨σ', H', J'.ofTry ok, q⟩
    | ret u =>
      obtain ⟨v, σ', H', J', r, q⟩ := hsp
      exact ⟨v, σ', H', J'.ofTry ok, r, q⟩
/-- no clause is left: the exception flies on -/
theorem catch_nil {Wout : WX} (hs : X.stack = X.env :: X.outer) (hf : X.env.frame = some X.env.locals) (tk : Takes X Wout) : Catch X [] (fun _ => Wout) := by
  refine ⟨fun pins a B sI s σ H cls d D F wi => wpAny_handleBy_nil ?_⟩
  obtain ⟨k1, k2, k3, oe, vs, T, oT, ts', he, hz, hd, h1, hr⟩ := id F.fl
  unfold PySem.passOn
  refine wpAny_bind (wpAny_field he hd h1 ?_)
  rw [if_neg (show ¬ ((Value.ref T == Value.none) = true) from by simp)]
  have fin : wpAny (model X.prog X.w) X.A (setFlight (.ref a) X.env.frame) (fun _ s4 => wpAny (model X.prog X.w) X.A (throw (.ref a) : Sem Flow) (SP X pins D) X.xe s4) X.xe s := by
    rw [hf]
    refine HandSPX.setFlight_upZ F.fl fun h4 hh4 up4 => wpAny_throw (tk _ _ ?_)
    exact ⟨a, B, sI, pins, σ, H, cls, d, rfl, F.J, F.nb, F.up.trans up4, .inr (.inr (by rw [hs]; exact hh4)), F.na, F.os, F.ag, wi⟩
  first
    | exact wpAny_bind (wpAny_pure (wpAny_bind fin))
    | exact wpAny_bind fin
/-- a class's name -/
theorem name_ok {x : Str} {c : Value} {np : Pos} {a : Addr} {pn : List (Addr × Obj)} {pins : List (Addr × Obj)} {σ : L2.St} {H : Hp} {s : Shared} {Q : Value → Shared → Prop} {E : Value → Shared → Prop} (hc : Names X x c) (S : Inv (X.suite a pn) pins σ H s) (q : Q c s) :
    wpAny (model X.prog X.w) (X.A.mark (some (.ref a))) (eval (.Name x np) X.env) Q E s := by
  obtain ⟨hg, hdbg, hm | ⟨hm, hv, hnn⟩⟩ := hc
  · exact ld_glob (X := X.suite a pn) S hg hm q hdbg
  · exact ld_blt (X := X.suite a pn) S hg hm hv q hnn hdbg
theorem test_one {x : Str} {c : Value} {np : Pos} (hf : X.env.frame = some X.env.locals) (hc : Names X x c) : Test X (.Name x np) (fun cls => PySem.W.exmOne X.K cls c) := by
  refine ⟨fun pins a B sI s σ H cls d b R E1 E2 F hm q => ?_⟩
  obtain ⟨oe, vs, he, hz, hd, S⟩ := F.suite hf
  have LT : PySem.W.Looks (model X.prog X.w) s.heap (typeOf (.ref a)) cls := fun A Q E s k q => wpAny_typeOf_ref (k _ _ he) (by rw [hz.1]; exact q)
  exact name_ok hc S ((PySem.W.exm_one (M := model X.prog X.w) F.inv.kIn LT hm).here (q s F))
/-- (x, y), two classes -/
theorem test_two {x y : Str} {c c2 : Value} {np np2 pos : Pos} {kk : Nat} (hf : X.env.frame = some X.env.locals) (hc : Names X x c) (hc2 : Names X y c2)
    (hst : starEach [Expr.Name x np, .Name y np2] X.env = [(false, eval (.Name x np) X.env), (false, eval (.Name y np2) X.env)] := by rfl) : Test X (.Tuple [.Name x np, .Name y np2] kk pos) (fun cls => PySem.W.exmAny X.K cls [c, c2]) := by
  refine ⟨fun pins a B sI s σ H cls d b R E1 E2 F hm q => ?_⟩
  obtain ⟨oe, vs, he, hz, hd, S⟩ := F.suite hf
  refine wpAny_Tuple_spliced ?_
  rw [hst]
  show wpAny _ _ (spliced [(false, eval (.Name x np) X.env), (false, eval (.Name y np2) X.env)]) _ _ _
  refine Calls.spliced_cons (name_ok hc S (Calls.spliced_cons (name_ok hc2 S (Calls.spliced_nil ?_))))
  refine ⟨(by decide : 2 ≤ sizeLine), ?_⟩
  have k : ∀ b o, s.heap.get? b = some o → (s.heap.push { cls := .type "tuple", data := .seq #[c, c2] }).get? b = some o := fun b o e => Heap.get?_push_of_some _ e
  have F2 : Fly X pins a B sI { s with heap := s.heap.push { cls := .type "tuple", data := .seq #[c, c2] } } σ H cls d := F.keeps (t := s.toks) k
  obtain ⟨oe2, vs2, he2, hz2, _⟩ := F2.fl.there
  have LT : PySem.W.Looks (model X.prog X.w) (s.heap.push { cls := .type "tuple", data := .seq #[c, c2] }) (typeOf (.ref a)) cls := fun A Q E s k q => wpAny_typeOf_ref (k _ _ he2) (by rw [hz2.1]; exact q)
  exact (PySem.W.exm_tup2 (M := model X.prog X.w) F2.inv.kIn LT (Heap.get?_push_size _ rfl) hm).here (q _ F2)
/-- what a clause without a name wishes -/
def wCl (m : Value → Option Bool) (ts : Addr → Value → Option Addr → TS) (w : Ends → WX) : Ends → WX := fun D cls d σ H => ∃ b, m cls = some b ∧ (b = true → ∀ a, H a = none → ts a cls d D σ H) ∧ (b = false → w D cls d σ H)
/-- .. with a name: slot i is its -/
def wClAs (m : Value → Option Bool) (i : Nat) (ts : Addr → Value → Option Addr → TS) (w : Ends → WX) : Ends → WX := fun D cls d σ H => ∃ b, m cls = some b ∧
  (b = true → ∀ a, H a = none → ts a cls d { nx := fun σ' H' => D.nx (σ'.set i none) H', rt := D.rt, bk := fun σ' H' => D.bk (σ'.set i none) H', ct := fun σ' H' => D.ct (σ'.set i none) H' } (σ.set i (some (.ref a))) H) ∧ (b = false → w D cls d σ H)
theorem catch_cl {t : Expr} {m : Value → Option Bool} {ts : Addr → Value → Option Addr → TS} {b₀ : Stmt} {suite : List Stmt} {pos' : Pos} (hf : X.env.frame = some X.env.locals) (T : Test X t m)
    (hsu : ∀ (a : Addr) (oe : Obj) (cls : Value) (d : Option Addr) (pn : List (Addr × Obj)), Zc cls d oe → (∃ vs, oe.data = .fields vs) → PSs (X.suite a ((a, oe) :: pn)) (b₀ :: suite) (ts a cls d)) (R : Catch X hds w) :
    Catch X (.ExceptHandler (some t) none (b₀ :: suite) pos' :: hds) (wCl m ts w) := by
  refine ⟨fun pins a B sI s σ H cls d D F ⟨b, hm, hyes, hno⟩ => ?_⟩
  refine wpAny_handleBy_cons (codeAny_handlers_test (T.run pins a B sI s σ H cls d b _ _ _ F hm fun s2 F2 => ?_)) (by intro q; cases q)
  cases b with
  | false => exact R.run pins a B sI s2 σ H cls d D F2 (hno rfl)
  | true =>
    have ok := F.J.ok
    refine codeAny_handlers_suite ?_
    refine HandSPX.lands_againZ F2.fl fun h4 fl4 up4 => ?_
    have F4 : Fly X pins a B sI { s2 with heap := h4 } σ H cls d := ⟨F2.J, F2.nb, F2.up.trans up4, fl4, F2.na, F2.os, F2.ag⟩
    obtain ⟨oe4, vs4, he4, hz4, hd4, S4⟩ := F4.suite hf
    refine wpAny_mono ((hsu a oe4 cls d (X.pn ++ pins) hz4 ⟨_, hd4⟩).run [] _ _ H _ S4 (hyes rfl a F.na)) (fun f s6 hsp => ?_) (fun _ _ z => False.elim z)
    cases f with
    | next =>
      obtain ⟨σ6, H6, S6, q6⟩ := hsp
      exact ⟨_, _, S6.unsuite ok, q6⟩
    | brk =>
      obtain ⟨σ6, H6, S6, q6⟩ := hsp
      exact ⟨_, _, S6.unsuite ok, q6⟩
    | cont =>
      obtain ⟨σ6, H6, S6, q6⟩ := hsp
      exact ⟨_, _, S6.unsuite ok, q6⟩
    | ret u =>
      obtain ⟨v6, σ6, H6, S6, r6, q6⟩ := hsp
      exact ⟨_, _, _, S6.unsuite ok, r6, q6⟩
theorem catch_as {t : Expr} {m : Value → Option Bool} {i : Nat} {n : Str} {ts : Addr → Value → Option Addr → TS} {b₀ : Stmt} {suite : List Stmt} {pos' : Pos} (hf : X.env.frame = some X.env.locals) (hN : X.N.Nodup) (hi : X.N[i]? = some n) (hln : X.env.kindOf n = some .local) (T : Test X t m)
    (hsu : ∀ (a : Addr) (oe : Obj) (cls : Value) (d : Option Addr) (pn : List (Addr × Obj)), Zc cls d oe → (∃ vs, oe.data = .fields vs) → PSs (X.suite a ((a, oe) :: pn)) (b₀ :: suite) (ts a cls d)) (R : Catch X hds w) :
    Catch X (.ExceptHandler (some t) (some n) (b₀ :: suite) pos' :: hds) (wClAs m i ts w) := by
  refine ⟨fun pins a B sI s σ H cls d D F ⟨b, hm, hyes, hno⟩ => ?_⟩
  refine wpAny_handleBy_cons (codeAny_handlers_test (T.run pins a B sI s σ H cls d b _ _ _ F hm fun s2 F2 => ?_)) (by intro q; cases q)
  cases b with
  | false => exact R.run pins a B sI s2 σ H cls d D F2 (hno rfl)
  | true =>
    have ok := F.J.ok
    refine codeAny_handlers_suite_as ?_
    refine HandSPX.lands_againZ F2.fl fun h4 fl4 up4 => ?_
    have F4 : Fly X pins a B sI { s2 with heap := h4 } σ H cls d := ⟨F2.J, F2.nb, F2.up.trans up4, fl4, F2.na, F2.os, F2.ag⟩
    obtain ⟨oe4, vs4, he4, hz4, hd4, S4⟩ := F4.suite hf
    refine store_ok (X := X.suite a ((a, oe4) :: (X.pn ++ pins))) (v := .ref a) S4 hN hi (.inl hln) rfl (fun s5 S5 => ?_) (.inr hln)
    refine wpAny_mono ((hsu a oe4 cls d (X.pn ++ pins) hz4 ⟨_, hd4⟩).run [] s5 _ H _ S5 (hyes rfl a F.na)) (fun f s6 hsp => ?_) (fun _ _ z => False.elim z)
    have end_ : ∀ {σ6 : L2.St} {H6 : Hp} {Q : Shared → Prop}, Inv (X.suite a ((a, oe4) :: (X.pn ++ pins))) [] σ6 H6 s6 → (∀ s7, Inv X pins (σ6.set i none) H6 s7 → Q s7) →
        wpAny (model X.prog X.w) X.A (do bindName X.env n .none; unbindBehindTheSuite X.env n pos') (fun _ s7 => Q s7) X.xe s6 := fun {σ6 H6 Q} S6 hq => gone_ok (S6.unsuite ok) hN hi hln hq
    cases f with
    | next =>
      obtain ⟨σ6, H6, S6, q6⟩ := hsp
      exact end_ S6 fun s7 J7 => ⟨_, _, J7, q6⟩
    | brk =>
      obtain ⟨σ6, H6, S6, q6⟩ := hsp
      exact end_ S6 fun s7 J7 => ⟨_, _, J7, q6⟩
    | cont =>
      obtain ⟨σ6, H6, S6, q6⟩ := hsp
      exact end_ S6 fun s7 J7 => ⟨_, _, J7, q6⟩
    | ret u =>
      obtain ⟨v6, σ6, H6, S6, r6, q6⟩ := hsp
      exact end_ S6 fun s7 J7 => ⟨_, _, _, J7, r6, q6⟩
end
end Xr
set_option Elab.async false
set_option linter.all false
set_option maxRecDepth 100000
set_option maxHeartbeats 4000000
/-! R17: min(xs) of a list of tuples (number, text). -/
namespace Xr
open PySem PySem.Spec PyProof.Rows L2 ClX StX
/-- the comparison, while the walk is on -/
def CmpIn (prog : Program) (w : World) (A : Around) (P : Nat → Value → Prop) (bt : Nat → Nat → Bool) (St : Nat → Heap → Prop) : Prop :=
  ∀ i j k vi vj (s : Shared) (Q : Value → Shared → Prop) (E : Value → Shared → Prop), St k s.heap → P i vi → P j vj → Q (.bool (bt i j)) s → wpAny (model prog w) A (richCompare .Lt vi vj) Q E s
section
variable {prog : Program} {w : World} {A : Around} {R : Result → Shared → Prop} {I : Addr} {fp wr : List Addr} {n : Nat} {P : Nat → Value → Prop} {St : Nat → Heap → Prop} {bt : Nat → Nat → Bool} {S : Addr}
theorem minOn (W : Walks prog w A.in1 I fp wr n P St) (cmp : CmpIn prog w A.in1 P bt St) (hSf : S ∉ fp) : ∀ (k j : Nat) (s : Shared) (vb : Value) (c : Nat), n = j + 1 + k → St (j + 1) s.heap → P (argBest bt j) vb →
    s.heap.get? S = some { cls := .type "list", dict := none, data := .seq #[vb, vb] c, slots := #[] } →
    (∀ v h' tk, P (argBest bt (n - 1)) v → (∀ b o, b ∉ wr → b ≠ S → s.heap.get? b = some o → h'.get? b = some o) → R (.ok (.ret v)) { s with heap := h', toks := tk }) →
    codeAny (model prog w) A (.builtin "min.loop" ⟨[.ref I, .none, .ref S], []⟩) R s := by
  have hSw : S ∉ wr := fun h => hSf (W.sub _ h)
  have nm : (toString "min" ++ toString ".loop" : String) = "min.loop" := by decide
  intro k
  induction k with
  | zero =>
    intro j s vb c e st pb g hR
    have e1 : n = j + 1 := e
    refine codeAny_builtin F.entry_min_loop ?_
    rw [Around.under_plainId F.plain_min_loop _]
    show wpAny _ A.in1 (seqItems? (.ref S) >>= _) _ _ s
    refine wpAny_bind (wpAny_seqItems g rfl ?_)
    show wpAny _ A.in1 (tryCatch (pyNext (.ref I)) _ >>= _) _ _ s
    refine wpAny_bind (wpAny_tryCatch (W.done s _ _ (e1 ▸ st) fun h' tk kp => ?_))
    have g' := kp S _ hSw g
    show wpAny _ A.in1 (updateSeq S (fun _ => #[]) >>= _) _ _ _
    refine wpAny_bind (wpAny_updateSeq g' rfl (wpAny_bind (wpAny_letGo (wpAny_pure ?_))))
    refine hR vb _ tk ?_ fun b o b1 b2 e => (Heap.get?_update_other _ _ (Ne.symm b2)).trans (kp b o b1 e)
    rw [e1]
    exact pb
  | succ k ih =>
    intro j s vb c e st pb g hR
    refine codeAny_builtin F.entry_min_loop ?_
    rw [Around.under_plainId F.plain_min_loop _]
    show wpAny _ A.in1 (seqItems? (.ref S) >>= _) _ _ s
    refine wpAny_bind (wpAny_seqItems g rfl ?_)
    show wpAny _ A.in1 (tryCatch (pyNext (.ref I)) _ >>= _) _ _ s
    refine wpAny_bind (wpAny_tryCatch (W.item (j + 1) s _ _ (by omega) st fun v h' tk pv st' kp => ?_))
    have g' := kp S _ hSw g
    show wpAny _ A.in1 (tryCatch (holding [v, v] (richCompare .Lt v vb >>= _)) _ >>= _) _ _ _
    refine wpAny_bind (wpAny_tryCatch (wpAny_holding (wpAny_bind (cmp (j + 1) (argBest bt j) _ v vb _ _ _ st' pv pb ?_))))
    refine wpAny_bind (wpAny_holding (wpAny_truthy_bool (wpAny_bind (wpAny_letGo (wpAny_pure ?_)))))
    cases hb : bt (j + 1) (argBest bt j) with
    | true =>
      simp only [if_true]
      refine wpAny_bind (wpAny_updateSeq g' rfl (wpAny_bind (wpAny_letGo ?_)))
      rw [nm]
      refine wpAny_pure ⟨plainId_quiet F.plain_min_loop _, ih (j + 1) _ v _ (by omega) (W.frame _ _ _ st' fun b hbf o e => (Heap.get?_update_other _ _ (fun h : S = b => hSf (by rw [h]; exact hbf))).trans e) (by simp only [argBest, hb, if_true]; exact pv) (Heap.get?_update_self _ g' rfl) fun v' h2 tk2 pv' kp2 => ?_⟩
      exact hR v' h2 tk2 pv' fun b o b1 b2 e => kp2 b o b1 b2 ((Heap.get?_update_other _ _ (Ne.symm b2)).trans (kp b o b1 e))
    | false =>
      simp only [Bool.false_eq_true, if_false]
      refine wpAny_bind (wpAny_letGo ?_)
      rw [nm]
      refine wpAny_pure ⟨plainId_quiet F.plain_min_loop _, ih (j + 1) _ vb c (by omega) st' (by simp only [argBest, hb, Bool.false_eq_true, if_false]; exact pb) g' fun v' h2 tk2 pv' kp2 => ?_⟩
      exact hR v' h2 tk2 pv' fun b o b1 b2 e => kp2 b o b1 b2 (kp b o b1 e)
theorem minFrom (W : Walks prog w A.in1 I fp wr n P St) (cmp : CmpIn prog w A.in1 P bt St) (hSf : S ∉ fp) (hn : 0 < n) {s : Shared} {c : Nat} (st : St 0 s.heap) (g : s.heap.get? S = some { cls := .type "list", dict := none, data := .seq #[] c, slots := #[] })
    (hR : ∀ v h' tk, P (argBest bt (n - 1)) v → (∀ b o, b ∉ wr → b ≠ S → s.heap.get? b = some o → h'.get? b = some o) → R (.ok (.ret v)) { s with heap := h', toks := tk }) :
    codeAny (model prog w) A (.builtin "min.loop" ⟨[.ref I, .none, .ref S], []⟩) R s := by
  have hSw : S ∉ wr := fun h => hSf (W.sub _ h)
  have nm : (toString "min" ++ toString ".loop" : String) = "min.loop" := by decide
  refine codeAny_builtin F.entry_min_loop ?_
  rw [Around.under_plainId F.plain_min_loop _]
  show wpAny _ A.in1 (seqItems? (.ref S) >>= _) _ _ s
  refine wpAny_bind (wpAny_seqItems g rfl ?_)
  show wpAny _ A.in1 (tryCatch (pyNext (.ref I)) _ >>= _) _ _ s
  refine wpAny_bind (wpAny_tryCatch (W.item 0 s _ _ hn st fun v h' tk pv st' kp => ?_))
  have g' := kp S _ hSw g
  show wpAny _ A.in1 (updateSeq S (fun _ => #[v, v]) >>= _) _ _ _
  refine wpAny_bind (wpAny_updateSeq g' rfl ?_)
  rw [nm]
  refine wpAny_pure ⟨plainId_quiet F.plain_min_loop _, minOn W cmp hSf (n - 1) 0 _ v _ (by omega) (W.frame _ _ _ st' fun b hbf o e => (Heap.get?_update_other _ _ (fun h : S = b => hSf (by rw [h]; exact hbf))).trans e) pv (Heap.get?_update_self _ g' rfl) fun v' h2 tk2 pv' kp2 => ?_⟩
  exact hR v' h2 tk2 pv' fun b o b1 b2 e => kp2 b o b1 b2 ((Heap.get?_update_other _ _ (Ne.symm b2)).trans (kp b o b1 e))
end
section
variable {prog : Program} {w : World} {A : Around} {E : Value → Shared → Prop} {s : Shared}
theorem call_minIn {x : Value} {Q : Value → Shared → Prop}
    (h : wpAny (model prog w) A.in1 (pyIter x) (fun it s₂ => ∃ I fp wr n P St bt, it = .ref I ∧ Walks prog w A.in1 I fp wr n P St ∧ St 0 s₂.heap ∧ (∀ b ∈ fp, b < s₂.heap.objs.size) ∧ 0 < n ∧ CmpIn prog w A.in1 P bt St ∧
      ∀ v h' tk, P (argBest bt (n - 1)) v → (∀ b o, b ∉ wr → s₂.heap.get? b = some o → h'.get? b = some o) → Q v { s₂ with heap := h', toks := tk }) E s) :
    wpAny (model prog w) A (call (.builtin "min") [x]) Q E s := by
  have nm : (toString "min" ++ toString ".loop" : String) = "min.loop" := by decide
  refine call_function_tree F.kind_min F.plain_min F.entry_min (F.args_min1 _) ?_
  show wpAny _ A.in1 (Builtin.Builtins.bindParams "min" ["key", "default"] 0 ⟨[], []⟩ >>= _) _ _ s
  refine wpAny_bind (wpAny_of_eq (show Builtin.Builtins.bindParams "min" ["key", "default"] 0 ⟨[], []⟩ = pure [none, none] from rfl) (wpAny_bind (wpAny_pure ?_)))
  refine wpAny_bind (wpAny_mono h (fun it s₂ ⟨I, fp, wr, n, P, S0, bt, eI, W, st, lt, hn, cmp, q⟩ => ?_) fun _ _ e => e)
  subst eI
  refine wpAny_bind (wpAny_newObj_type ?_)
  have hSf : s₂.heap.objs.size ∉ fp := fun hm => Nat.lt_irrefl _ (lt _ hm)
  rw [nm]
  refine wpAny_pure ⟨plainId_quiet F.plain_min_loop _, minFrom W cmp hSf hn (W.frame _ _ _ st fun b _ o e => Heap.get?_push_of_some _ e) (Heap.get?_push_size _ rfl) fun v h' tk pv kp => ?_⟩
  exact q v h' tk pv fun b o b1 e => kp b o b1 (Nat.ne_of_lt (Heap.lt_size e)) (Heap.get?_push_of_some _ e)
end
theorem argBest_key {key : Nat → Int} {bt : Nat → Nat → Bool} (h1 : ∀ i j, bt i j = true → key i ≤ key j) (h2 : ∀ i j, bt i j = false → key j ≤ key i) : ∀ k, argBest bt k ≤ k ∧ ∀ j, j ≤ k → key (argBest bt k) ≤ key j
  | 0 => ⟨Nat.le_refl _, fun j hj => by rw [Nat.le_zero.mp hj]; exact Int.le_refl _⟩
  | k + 1 => by
    obtain ⟨a1, a2⟩ := argBest_key h1 h2 k
    cases hb : bt (k + 1) (argBest bt k) with
    | true =>
      have e : argBest bt (k + 1) = k + 1 := by simp only [argBest, hb, if_true]
      rw [e]
      refine ⟨Nat.le_refl _, fun j hj => ?_⟩
      by_cases hjk : j = k + 1
      · rw [hjk]; exact Int.le_refl _
      · exact Int.le_trans (h1 _ _ hb) (a2 j (by omega))
    | false =>
      have e : argBest bt (k + 1) = argBest bt k := by simp only [argBest, hb, Bool.false_eq_true, if_false]
      rw [e]
      refine ⟨by omega, fun j hj => ?_⟩
      by_cases hjk : j = k + 1
      · rw [hjk]; exact h2 _ _ hb
      · exact a2 j (by omega)
/-- min(xs), xs a list of pairs (number, text): one whose number is least -/
def rMinT (K : PySem.W.Frag) : List V → Hp → VK → Prop := fun vs H Q => ∃ (a : Addr) (ps : List Addr) (ks : List (Int × Str)), vs = [V.ref a] ∧ SqL K H a (ps.map V.ref) ∧ 0 < ps.length ∧ ps.length = ks.length ∧
  (∀ (j : Nat) (p : Addr) (k : Int × Str), ps[j]? = some p → ks[j]? = some k → SqT K H p [.int k.1, .str k.2]) ∧ ∀ (m : Nat) (p : Addr) (k : Int × Str), ps[m]? = some p → ks[m]? = some k → (∀ k' ∈ ks, k.1 ≤ k'.1) → Q (.ref p) H
def tupBt (ks : List (Int × Str)) (i j : Nat) : Bool := Ob.lexAt (fun x => if x = 0 then (ks.getD i (0, "")).1 == (ks.getD j (0, "")).1 else (ks.getD i (0, "")).2 == (ks.getD j (0, "")).2)
  (fun x => if x = 0 then decide ((ks.getD i (0, "")).1 < (ks.getD j (0, "")).1) else decide ((ks.getD i (0, "")).2.cps.toList < (ks.getD j (0, "")).2.cps.toList)) false 0 2
theorem tupBt_1 {ks : List (Int × Str)} {i j : Nat} (h : tupBt ks i j = true) : (ks.getD i (0, "")).1 ≤ (ks.getD j (0, "")).1 := by
  unfold tupBt at h
  rw [Ob.lexAt_succ] at h
  by_cases e : (ks.getD i (0, "")).1 = (ks.getD j (0, "")).1
  · exact Int.le_of_eq e
  · have e' : ((ks.getD i (0, "")).1 == (ks.getD j (0, "")).1) = false := beq_eq_false_iff_ne.mpr e
    simp only [if_true, e', Bool.false_eq_true, if_false] at h
    exact Int.le_of_lt (of_decide_eq_true h)
theorem tupBt_2 {ks : List (Int × Str)} {i j : Nat} (h : tupBt ks i j = false) : (ks.getD j (0, "")).1 ≤ (ks.getD i (0, "")).1 := by
  unfold tupBt at h
  rw [Ob.lexAt_succ] at h
  by_cases e : (ks.getD i (0, "")).1 = (ks.getD j (0, "")).1
  · exact Int.le_of_eq e.symm
  · have e' : ((ks.getD i (0, "")).1 == (ks.getD j (0, "")).1) = false := beq_eq_false_iff_ne.mpr e
    simp only [if_true, e', Bool.false_eq_true, if_false] at h
    have := of_decide_eq_false h
    omega
theorem cr_minT {X : Cx} (hc : X.calm = true) (hu : X.A.units + 64 < cLine) : CallR X (.builtin "min") (rMinT X.K) := by
  intro pins s σ H vs us Q I r h
  obtain ⟨a, ps, ks, rfl, hs, h0, hl, ht, q⟩ := h
  obtain ⟨its, rv, pl, _⟩ := I.list hs
  have ei := refs_at rv
  subst ei
  rw [Vals.ref1 r]
  have hL : s.heap.IsList a (ps.map Value.ref).toArray := pl.isList
  have tup : ∀ (j : Nat) (p : Addr) (k : Int × Str), ps[j]? = some p → ks[j]? = some k → ∃ t u, s.heap.IsTuple p #[.int k.1 t, .str k.2 u] := fun j p k hp hk => by
    obtain ⟨its, rv, pt, _⟩ := I.tuple (ht j p k hp hk)
    obtain ⟨x, y, rfl, ⟨t, rfl⟩, ⟨u, rfl⟩⟩ := vals2 rv
    exact ⟨t, u, pt⟩
  have hal : a < s.heap.objs.size := by obtain ⟨_, e, _⟩ := hL; exact Heap.lt_size e
  have hpl : ∀ (j : Nat) (p : Addr), ps[j]? = some p → p < s.heap.objs.size := fun j p hp => by
    have hj : j < ks.length := by rw [← hl]; exact (List.getElem?_eq_some_iff.mp hp).1
    obtain ⟨t, u, o, e, _⟩ := tup j p _ hp (List.getElem?_eq_getElem hj)
    exact Heap.lt_size e
  have hI : a ≠ s.heap.objs.size := Nat.ne_of_lt hal
  have W := Walks.list (prog := X.prog) (w := X.w) (A := X.A.in1) (I.ok.hd hc) s.heap.objs.size a hI (ps.map Value.ref).toArray
  have k0 : ∀ b o, s.heap.get? b = some o → (s.heap.push { cls := .type "list_iterator", data := .fields #[.ref a, .int 0 0] }).get? b = some o := fun b o e => Heap.get?_push_of_some _ e
  refine call_minIn (wpAny_pyIter_list hL ?_)
  refine ⟨s.heap.objs.size, [s.heap.objs.size, a] ++ ps, [s.heap.objs.size], ps.length, fun i v => (ps.map Value.ref).toArray[i]? = some v, fun i h => (h.IsListIter s.heap.objs.size a i ∧ h.IsList a (ps.map Value.ref).toArray) ∧ ∀ (j : Nat) (p : Addr) (k : Int × Str), ps[j]? = some p → ks[j]? = some k → ∃ t u, h.IsTuple p #[.int k.1 t, .str k.2 u], tupBt ks, rfl, ?_, ?_, ?_, h0, ?_, ?_⟩
  · have sz : (ps.map Value.ref).toArray.size = ps.length := by simp
    rw [sz] at W
    refine ⟨fun b hb => List.mem_append_left _ (W.sub b hb), fun i h h' st k => ⟨W.frame i h h' st.1 fun b hb => k b (List.mem_append_left _ hb), fun j p kk hp hk => ?_⟩, fun i s' Q' E' hi st hq => ?_, fun s' Q' E' st hq => W.done s' Q' E' st.1 hq, fun i s' Q' E' st hq => W.self i s' Q' E' st.1 hq⟩
    · obtain ⟨t, u, z⟩ := st.2 j p kk hp hk
      exact ⟨t, u, Heap.IsTuple.at (h := h) z fun o => k p (List.mem_append_right _ (List.mem_of_getElem? hp)) o⟩
    · refine W.item i s' Q' E' hi st.1 fun v h' tk pv st' kp => hq v h' tk pv ⟨st', fun j p kk hp hk => ?_⟩ kp
      obtain ⟨t, u, z⟩ := st.2 j p kk hp hk
      have hne : p ∉ [s.heap.objs.size] := fun hm => Nat.ne_of_lt (hpl j p hp) (List.mem_singleton.mp hm)
      exact ⟨t, u, Heap.IsTuple.at (h := s'.heap) z fun o => kp p o hne⟩
  · refine ⟨⟨⟨_, Heap.get?_push_size _ rfl, rfl, rfl⟩, hL.at fun o => k0 a o⟩, fun j p k hp hk => ?_⟩
    obtain ⟨t, u, z⟩ := tup j p k hp hk
    exact ⟨t, u, Heap.IsTuple.at (h := s.heap) z fun o => k0 p o⟩
  · intro b hb
    have szp : (s.heap.push { cls := .type "list_iterator", data := .fields #[.ref a, .int 0 0] }).objs.size = s.heap.objs.size + 1 := Heap.size_push ..
    show b < (s.heap.push { cls := .type "list_iterator", data := .fields #[.ref a, .int 0 0] }).objs.size
    rw [szp]
    rcases List.mem_append.mp hb with hb | hb
    · have hb' : b = s.heap.objs.size ∨ b = a := by simpa using hb
      rcases hb' with z | z
      · rw [z]; exact Nat.lt_succ_self _
      · rw [z]; exact Nat.lt_succ_of_lt hal
    · obtain ⟨j, hj⟩ := List.mem_iff_getElem?.mp hb
      exact Nat.lt_succ_of_lt (hpl j b hj)
  · intro i j k vi vj s' Q' E' st hi hj hq
    have at_ : ∀ (i : Nat) (v : Value), (ps.map Value.ref).toArray[i]? = some v → ∃ p, ps[i]? = some p ∧ v = .ref p ∧ ∃ t u, s'.heap.IsTuple p #[.int (ks.getD i (0, "")).1 t, .str (ks.getD i (0, "")).2 u] := fun i v e => by
      have e' : (ps[i]?).map Value.ref = some v := by simpa using e
      cases hp : ps[i]? with
      | none => rw [hp] at e'; cases e'
      | some p =>
        rw [hp] at e'
        have hk : i < ks.length := by rw [← hl]; exact (List.getElem?_eq_some_iff.mp hp).1
        obtain ⟨t, u, z⟩ := st.2 i p _ hp (List.getElem?_eq_getElem hk)
        refine ⟨p, rfl, (Option.some.inj e').symm, t, u, ?_⟩
        rw [List.getD_eq_getElem?_getD, List.getElem?_eq_getElem hk]
        exact z
    obtain ⟨p, _, rfl, t, u, z⟩ := at_ i vi hi
    obtain ⟨p2, _, rfl, t2, u2, z2⟩ := at_ j vj hj
    refine Ob.RcOp.tuples_lt (A := X.A.in1) (s := s') (e := fun x => if x = 0 then (ks.getD i (0, "")).1 == (ks.getD j (0, "")).1 else (ks.getD i (0, "")).2 == (ks.getD j (0, "")).2)
      (r := fun x => if x = 0 then decide ((ks.getD i (0, "")).1 < (ks.getD j (0, "")).1) else decide ((ks.getD i (0, "")).2.cps.toList < (ks.getD j (0, "")).2.cps.toList)) z z2 (show X.A.units + 1 < cLine by omega) (fun x h1 h2 => ?_) (fun x h1 h2 _ => ?_) X.prog X.w E' Q' hq
    · have hx : x = 0 ∨ x = 1 := by
        have : x < 2 := h1
        omega
      rcases hx with rfl | rfl
      · exact PySem.SeqAt.EqAt.int_int _ _ _ _
      · exact PySem.SeqAt.EqAt.str_str _ _ _ _
    · have hx : x = 0 ∨ x = 1 := by
        have : x < 2 := h1
        omega
      rcases hx with rfl | rfl
      · exact Ob.RcOp.lt_int _ _ _ _
      · exact fun _ _ _ _ h => PyProof.Rows.lt_str h
  · intro v h' tk hv kp
    obtain ⟨hm, hall⟩ := argBest_key (key := fun i => (ks.getD i (0, "")).1) (bt := tupBt ks) (fun i j => tupBt_1) (fun i j => tupBt_2) (ps.length - 1)
    have hmp : argBest (tupBt ks) (ps.length - 1) < ps.length := by omega
    generalize argBest (tupBt ks) (ps.length - 1) = m at *
    have hp : ps[m]? = some ps[m] := List.getElem?_eq_getElem hmp
    have hk : m < ks.length := by omega
    have ev : v = .ref ps[m] := by
      have : (ps[m]?).map Value.ref = some v := by simpa using hv
      rw [hp] at this
      exact (Option.some.inj this).symm
    subst ev
    refine ⟨.ref ps[m], H, I.kept (t' := tk) fun b o e => kp b o (fun hb => Nat.ne_of_lt (Heap.lt_size e) (List.mem_singleton.mp hb)) (k0 b o e), rfl, q m _ ks[m] hp (List.getElem?_eq_getElem hk) fun k' hk' => ?_⟩
    obtain ⟨j, hj⟩ := List.mem_iff_getElem?.mp hk'
    have hjl := (List.getElem?_eq_some_iff.mp hj).1
    have hh := hall j (by omega)
    simp only [List.getD_eq_getElem?_getD, List.getElem?_eq_getElem hk, hj, Option.getD_some] at hh
    exact hh
end Xr
set_option Elab.async false
set_option linter.all false
set_option maxRecDepth 100000
set_option maxHeartbeats 4000000
/-! R18: max of two ints, int of a truth, a list times an int, pop, a comprehension over range, a def with keyword-only defaults. -/
namespace Xs
open PySem PySem.Spec PyProof.Rows L2
def hMax2 : List V → Hp → VK → Prop := fun xs H Q => match xs with
  | [.int i, .int j] => Q (.int (if j > i then j else i)) H
  | _ => False
theorem hc_max2 {X : Cx} (hc : X.calm = true) : CallR X (.builtin "max") hMax2 := by
  intro pins s σ H xs us Q I rs h
  refine call_max2 hc pins s σ H xs us Q I rs ?_
  match xs, h with
  | [.int i, .int j], h => exact ⟨i, j, rfl, h⟩
theorem cc_max2 {X : Cx} (hc : X.calm = true) : CallR X (.builtin "max") hMax2 := hc_max2 hc
def hInt1 : List V → Hp → VK → Prop := fun xs H Q => match xs with
  | [.int i] => Q (.int i) H
  | [.bl k] => Q (.int (if k then 1 else 0)) H
  | _ => False
theorem hc_int1 {X : Cx} : CallR X (.type "int") hInt1 := by
  intro pins s σ H xs us Q I rs h
  refine call_int1 pins s σ H xs us Q I rs ?_
  match xs, h with
  | [.int i], h => exact .inl ⟨i, rfl, h⟩
  | [.bl k], h => exact .inr ⟨k, rfl, h⟩
/-- a product: of two ints; of a list and an int -/
def hMul : R2 := fun x y H Q => match x, y with
  | .int i, .int j => CMul i j ∧ Q (.int (i * j)) H
  | .ref l, .int k => (match H l with
    | some (.lst xs) => -(2 ^ 63) ≤ k ∧ k < 2 ^ 63 ∧ xs.length * k.toNat ≤ sizeLine ∧ ∀ p, H p = none → Q (.ref p) (upd H p (.lst (List.replicate k.toNat xs).flatten))
    | _ => False)
  | _, _ => False
theorem ho_mul {X : Cx} : OpR X (binaryOp .Mult) hMul := by
  intro pins s σ H x y v u Q I rx ry h
  unfold hMul at h
  split at h
  · exact op_mul pins s σ H _ _ v u Q I rx ry ⟨_, _, rfl, rfl, h.1, h.2⟩
  · split at h
    · obtain ⟨h1, h2, h3, h4⟩ := h
      exact op_rep pins s σ H _ _ v u Q I rx ry ⟨_, _, _, rfl, rfl, ‹_›, h1, h2, h3, h4⟩
    · exact h.elim
  · exact h.elim
theorem pop_at {H : Hp} {l : Addr} {xs : List V} {y : V} {Q : VK} (h : H l = some (.lst xs)) (hy : xs[xs.length - 1]? = some y) (q : Q y (upd H l (.lst xs.dropLast))) : rPop (.ref l) [] H Q := ⟨l, xs, y, rfl, rfl, h, hy, q⟩
theorem cat_ok {H : Hp} {p r : Addr} {xs ys : List V} {Q : VK} (hp : H p = some (.lst xs)) (hq : H r = some (.lst ys)) (hl : xs.length + ys.length ≤ sizeLine) (k : ∀ t, H t = none → Q (.ref t) (upd H t (.lst (xs ++ ys)))) : rCat (.ref p) (.ref r) H Q := ⟨_, _, _, _, rfl, rfl, hp, hq, hl, k⟩
/-- isinstance(x, list) -/
def hIsL : List V → Hp → VK → Prop := fun xs H Q => match xs with
  | [x, .ty n] => n = "list" ∧ (match x with
    | .str _ => Q (.bl false) H
    | .non => Q (.bl false) H
    | .bl _ => Q (.bl false) H
    | .int _ => Q (.bl false) H
    | .ref p => (match H p with
      | some (.lst _) => Q (.bl true) H
      | some (.tup _) => Q (.bl false) H
      | _ => False)
    | _ => False)
  | _ => False
theorem hc_isL {X : Cx} : CallR X (.builtin "isinstance") hIsL := by
  intro pins s σ H xs us Q I rs h
  refine call_isi pins s σ H xs us Q I rs ?_
  unfold hIsL at h
  split at h
  · rename_i x n
    obtain ⟨rfl, h⟩ := h
    split at h
    · exact ⟨_, _, _, _, false, rfl, .ty _, .base (.str _), rfl, h⟩
    · exact ⟨_, _, _, _, false, rfl, .ty _, .base .non, rfl, h⟩
    · exact ⟨_, _, _, _, false, rfl, .ty _, .base (.bl _), rfl, h⟩
    · exact ⟨_, _, _, _, false, rfl, .ty _, .base (.int _), rfl, h⟩
    · split at h
      · exact ⟨_, _, _, _, true, rfl, .ty _, .base (.lst ‹_›), rfl, h⟩
      · exact ⟨_, _, _, _, false, rfl, .ty _, .base (.tup ‹_›), rfl, h⟩
      · exact h.elim
    · exact h.elim
  · exact h.elim
theorem lcp_range {lo : Int} {n : Nat} {g : TG} {tt : TT} {te : TE} {vs : List Nat} {σ : L2.St} {H1 : Hp} {D : Addr} {Qd : Hp → Prop} (Pv : Nat → Hp → Prop) (h0 : Pv 0 (upd H1 D (.lst [])))
    (hs : ∀ i H, i < n → Pv i H → g (.int (lo + (i : Nat))) (wipe σ vs) H fun σ2 H2 => wipe σ2 vs = wipe σ vs ∧ tt σ2 H2 fun b H3 =>
      if b = true then te σ2 H3 fun y H4 => ∃ acc, H4 D = some (.lst acc) ∧ acc.length < sizeLine ∧ Pv (i + 1) (upd H4 D (.lst (acc ++ [y]))) else Pv (i + 1) H3) (hd : ∀ H, Pv n H → Qd H) : LcP (Itr lo n) g tt te vs σ H1 D Qd := by
  refine ⟨fun i m H => m = n - i ∧ i ≤ n ∧ Pv i H, ⟨n, by simp, Nat.zero_le _, h0⟩, ?_⟩
  rintro i m H ⟨rfl, hi, p⟩
  by_cases hlt : i < n
  · refine .inr ⟨hlt, Pv (i + 1), fun H' p' => ⟨n - (i + 1), by omega, rfl, hlt, p'⟩, fun v H' y => ?_⟩
    obtain ⟨e, e2⟩ := y
    subst e e2
    exact hs i _ hlt p
  · have e : i = n := by omega
    subst e
    exact .inl ⟨Nat.le_refl _, hd H p⟩
/-- the def at f keeps the promise sp; ds: the values of its keyword-only parameters ks, which a call may leave out all together or name all together -/
def OkK (P : Program) (w : World) (K : PySem.W.Frag) (mg : Str → Option Value) (base : Heap) (CX : CXT) (k : Nat) (f : Addr) (n : Nat) (ps ks : List Str) (dv : List V) (sp : Sp) : Prop :=
  ∃ fd, FnOk P w K mg base CX k f fd ps sp ∧ (∃ ds, Vals dv ds ∧ Binds K fd ps ds) ∧ ∃ g, KBn K fd ps n ks g (fun vs zs => vs ++ zs)
section
variable {X : Cx} {CX : CXT} {k n : Nat} {f : Addr} {ps ks : List Str} {dv : List V} {sp : Sp} {E : XK} {x : Str} {e : Expr} {es : List Expr} {t tk : TA} {p pos : Pos} {kws : List Keyword}
def tCallD (sp : Sp) (dv : List V) (E : XK) (t : TA) : TE := fun σ H Q => t σ H fun vs H1 => sp (vs ++ dv) H1 Q E
/-- f(e, ..), the keyword-only parameters left out -/
theorem pfD (F : OkK X.prog X.w X.K X.mg X.base CX k f n ps ks dv sp) (hr : Room k X.A) (hm : X.mg x = some (.ref f)) (hk : PySem.W.keepIn X.K (.ref f) = true) (hx : Passes CX X E) (ha : PA X (e :: es) t) (hg : Gl X x := by rfl) (hdb : (x == ("__debug__" : Str)) = false := by decide)
    (he : starEach (e :: es) X.env = (false, eval e X.env) :: starEach es X.env := by rfl) (hpl : (backTo pos (starEach es X.env)).any (·.1) = false := by rfl) : PE X (.Call (.Name x p) (e :: es) [] pos) (tCallD sp dv E t) := by
  obtain ⟨fd, G, ⟨ds, rv, b⟩, _⟩ := F
  exact pe_call G hr hg hm hk b rv hx ha hdb he hpl
def tCallKO (n m : Nat) (sp : Sp) (E : XK) (t tk : TA) : TE := fun σ H Q => t σ H fun vs H1 => tk σ H1 fun zs H2 => vs.length = n ∧ zs.length = m ∧ sp (vs ++ zs) H2 Q E
/-- f(e, .., k = v, ..), all keyword-only parameters named, in their order -/
theorem pfKO (F : OkK X.prog X.w X.K X.mg X.base CX k f n ps ks dv sp) (hr : Room k X.A) (hm : X.mg x = some (.ref f)) (hk : PySem.W.keepIn X.K (.ref f) = true) (hx : Passes CX X E) (ha : PA X (e :: es) t) (hkw : PK X kws tk) (hg : Gl X x := by rfl)
    (hall : (backToKw pos (keywordEach kws X.env)).all (·.1.isSome) = true := by rfl) (hks : (backToKw pos (keywordEach kws X.env)).filterMap (·.1) = ks := by rfl)
    (hdb : (x == ("__debug__" : Str)) = false := by decide) (he : starEach (e :: es) X.env = (false, eval e X.env) :: starEach es X.env := by rfl)
    (hpl : ((backTo pos (starEach (e :: es) X.env)).any (·.1) || (backToKw pos (keywordEach kws X.env)).any (·.1.isNone)) = false := by rfl) : PE X (.Call (.Name x p) (e :: es) kws pos) (tCallKO n ks.length sp E t tk) := by
  obtain ⟨fd, G, _, g, b⟩ := F
  exact pe_callN G hr hg hm hk b hx ha hkw hall hks hdb he hpl
end
end Xs
set_option Elab.async false
set_option linter.all false
set_option maxRecDepth 100000
set_option maxHeartbeats 4000000
/-! R19: own exceptions right under any of five built-in errors: made, with one field stored, raised. -/
namespace Gx
open PySem PySem.W PySem.Calls PyProof.Rows PySem.HandSPX Builtin Builtin.ObjectAttr
/-- what is asked of a built-in base: n its __new__, bm its mro -/
structure Bas (n : String) (bm : List Value) : Prop where
  F : ∃ B i : String, ExcBaseFacts B n i bm
  pass : ∀ v : Value, refuseLoop v "__setattr__" bm = pure ()
  ob : bm.contains (.type "object") = true
  ne : bm.isEmpty = false
def tailOf (l : List String) : List Value := l.map Value.type
def bases : List (String × List Value) := [("ValueError.__new__", tailOf ["ValueError", "Exception", "BaseException", "object"]), ("TypeError.__new__", tailOf ["TypeError", "Exception", "BaseException", "object"]),
  ("LookupError.__new__", tailOf ["LookupError", "Exception", "BaseException", "object"]), ("OverflowError.__new__", tailOf ["OverflowError", "ArithmeticError", "Exception", "BaseException", "object"]), ("RuntimeError.__new__", tailOf ["RuntimeError", "Exception", "BaseException", "object"])]
theorem bas_ok {p : String × List Value} (h : p ∈ bases) : Bas p.1 p.2 := by
  simp only [bases, List.mem_cons, List.not_mem_nil, or_false] at h
  rcases h with rfl | rfl | rfl | rfl | rfl
  · exact ⟨⟨_, _, F.excBase_ValueError⟩, F.store_ValueError.passes, by decide +kernel, rfl⟩
  · exact ⟨⟨_, _, F.excBase_TypeError⟩, F.store_TypeError.passes, by decide +kernel, rfl⟩
  · exact ⟨⟨_, _, F.excBase_LookupError⟩, F.store_LookupError.passes, by decide +kernel, rfl⟩
  · exact ⟨⟨_, _, F.excBase_OverflowError⟩, F.store_OverflowError.passes, by decide +kernel, rfl⟩
  · exact ⟨⟨_, _, F.excBase_RuntimeError⟩, F.store_RuntimeError.passes, by decide +kernel, rfl⟩
section
variable {pr : Program} {wo : World} {ar : Around} {R : Result → Shared → Prop} {m : Heap} {ge : Array GenState} {dr : Drawn} {tn : Nat} {oss : OsState}
/-- a first field of an exception: the object gets its dict -/
theorem osa_first {K : W.Frag} {key : Str} {kt : Tok} {val : Value} {z C : Addr} {fv : Array Value} {cd : ClassData} {n : String} {bm : List Value} (KI : K.In m) (at_ : m.get? z = some { cls := .ref C, data := .fields fv })
    (ec : W.clsIn K C = some cd) (em : cd.mro = .ref C :: bm) (bas : Bas n bm) (ed : cd.hasDict = true) (no : W.findIn K (.ref C) key = some none)
    (go : ∀ m' kt' dx, (∀ b o, b ≠ z → m.get? b = some o → m'.get? b = some o) → m.objs.size ≤ dx → dx ≠ z → m'.get? z = some { cls := .ref C, dict := some dx, data := .fields fv } →
      m'.Ns1 dx (fun y => if y = key then some val else none) → R (.ok (.ret .none)) ⟨m', ge, dr, kt', oss⟩) :
    codeAny (model pr wo) ar (.call (.builtin "object.__setattr__") ⟨[.ref z, .str key kt, val], []⟩) R ⟨m, ge, dr, tn, oss⟩ := by
  have J : W.InstAt m z { cls := .ref C, data := .fields fv } C none := ⟨at_, rfl, rfl, trivial⟩
  have em0 : cd.mro.isEmpty = false := by rw [em] <;> rfl
  have em1 : cd.mro.contains (.type "object") = true := by rw [em, List.contains_cons, bas.ob, Bool.or_true]
  have lt : z ≠ m.objs.size := Nat.ne_of_lt (Heap.lt_size at_)
  have isO : W.Looks (model pr wo) m (isInstance (.ref z) (.type "object")) true := J.type.andThen (W.looks_mroIn KI (by unfold W.mroIn; rw [ec, Option.bind_some, if_neg (by rw [em0]; decide), em1]))
  refine codeAny_call_builtin F.store_object.slot.plain F.store_object.entry (@W.check_slot (model pr wo) _ _ ⟨m, ge, dr, tn, oss⟩ "object.__setattr__" "object" "__setattr__" (.ref z) [.str key kt, val] [] _ F.store_object.kind F.store_object.split isO (F.store_object.args (.ref z) (.str key kt) val) ?_)
  have lm : W.Looks (model pr wo) m (mroOf (.ref C)) cd.mro := (W.looks_clsIn KI ec).andThen .now
  have l3 : W.Looks (model pr wo) m (storeTaker? none) none := .now
  have lc : W.Looks (model pr wo) m (classData C) cd := W.looks_clsIn KI ec
  rw [W.osa_eq, refuse_eq]
  refine wpAny_bind (wpAny_bind (J.type.at (wpAny_bind (lm.at ?_))))
  rw [em, refuseLoop_ref, bas.pass]
  refine wpAny_pure (wpAny_bind (J.type.at (wpAny_bind ((W.looks_findIn KI no).at (wpAny_bind (l3.at ?_))))))
  show wpAny _ _ (storeInOwnDict (.ref z) (.ref C) (.str key kt) key val false) _ _ _
  clear em em0 em1
  obtain ⟨c1, c2, c3, c4, c5, hd, c7, c8, c9, c10, c11⟩ := cd
  dsimp only at ed
  subst ed
  unfold storeInOwnDict ownDictForStores
  repeat (first | with_reducible refine store_in_new ?_ ?_ | with_reducible refine wpAny_loadPart_at at_ ?_ | with_reducible refine lc.at ?_ | wp_step)
  · exact ⟨_, #[], _, (Heap.get?_update_ne _ _ _ _ lt.symm).trans (Heap.get?_push_at rfl rfl), rfl, fun e he => absurd he (by simp), fun _ => rfl⟩
  · intro m' kt' hn hs
    have a1 : (m.push { cls := .type "dict", data := .dict #[] }).get? z = some { cls := .ref C, data := .fields fv } := Heap.get?_push_of_some _ at_
    refine go m' kt' m.objs.size (fun b o hb ho => ?_) (Nat.le_refl _) lt.symm ?_ hn
    · exact (hs.2 b (Nat.ne_of_lt (Heap.lt_size ho))).trans ((Heap.get?_update_ne _ _ _ _ hb).trans (Heap.get?_push_of_some _ ho))
    · exact (hs.2 z lt).trans (Heap.get?_update_self _ a1 rfl)
end
end Gx
namespace L2
open PySem PySem.Spec PyProof.Rows
/-- what the written part says of an own exception class right under one of the five -/
structure OexA (K : PySem.W.Frag) (C : Addr) : Prop where
  cls : ∃ nm q N bs bm sn sub ab col dd k0 k1 k2 k3 k5 n, K.lookup C = some (excClassObj nm q C N bs bm true sn sub ab col dd k0 k1 k2 k3 k5 n) ∧ Gx.Bas n bm
  sa : PySem.W.findIn K (.ref C) "__setattr__" = some (some (.builtin "object.__setattr__"))
  exC : PySem.W.subIn K (.ref C) (.type "BaseException") = some true
  tyC : PySem.W.typeIn K (.ref C) = some (.type "type")
  kC : PySem.W.keepIn K (.ref C) = true
def oexAB (K : PySem.W.Frag) (C : Addr) : Bool := (match K.lookup C with
  | some ⟨.type T, _, .cls cd, sl⟩ => (match cd.mro, sl.toList with
    | .ref C' :: bm, [_, _, _, _, some (.builtin n), _] => decide (T = "type") && (decide (C' = C) && (decide ((n, bm) ∈ Gx.bases) && (!cd.hasDel && cd.hasDict)))
    | _, _ => false)
  | _ => false) && (Hc.oo (PySem.W.findIn K (.ref C) "__setattr__") (.builtin "object.__setattr__") && (decide (PySem.W.subIn K (.ref C) (.type "BaseException") = some true) && (decide (PySem.W.typeIn K (.ref C) = some (.type "type")) && PySem.W.keepIn K (.ref C))))
theorem oexAB_ok {K : PySem.W.Frag} {C : Addr} (h : oexAB K C = true) : OexA K C := by
  unfold oexAB at h
  simp only [Bool.and_eq_true] at h
  obtain ⟨h1, h2, h3, h4, h5⟩ := h
  refine ⟨?_, Hc.oo_ok h2, of_decide_eq_true h3, of_decide_eq_true h4, h5⟩
  split at h1
  · rename_i T dd cd sl ho
    split at h1
    · rename_i C' bm k0 k1 k2 k3 n k5 hm hs
      simp only [Bool.and_eq_true, Bool.not_eq_true'] at h1
      obtain ⟨e1, e2, e3, hdel, hd⟩ := h1
      have e1 : T = "type" := of_decide_eq_true e1
      have e2 : C' = C := of_decide_eq_true e2
      have e3 : (n, bm) ∈ Gx.bases := of_decide_eq_true e3
      subst e1 e2
      obtain ⟨nm, bs, mro, ns, qn, hdd, sn, sub, ab, col, del⟩ := cd
      dsimp only at hm hdel hd
      subst hm hdel hd
      have hsl : sl = #[k0, k1, k2, k3, some (.builtin n), k5] := by
        obtain ⟨l⟩ := sl
        simp only at hs
        rw [hs]
      subst hsl
      exact ⟨nm, qn, ns, bs, bm, sn, sub, ab, col, dd, k0, k1, k2, k3, k5, n, ho, Gx.bas_ok e3⟩
    · cases h1
  · cases h1
section
variable {X : Cx} {pp : List (Addr × Obj)} {sg : St} {H : Hp} {sh : Shared} {a C : Addr} {f : Str} {y : V} {u : Value} {Q : Unit → Shared → Prop} {E : Value → Shared → Prop} {A : Around}
/-- self.f = y, the first and only one -/
theorem osa_ok (T : OexA X.K C) (I : Inv X pp sg H sh) (ea : H a = some (exo a C none)) (no : PySem.W.findIn X.K (.ref C) f = some none) (ry : RelV y u)
    (go : ∀ dx s', H dx = none → dx ≠ a → Inv X pp sg (upd (upd H dx (exd dx [(f, y)])) a (exo a C (some dx))) s' → Q () s') : wpAny (model X.prog X.w) A (setAttr (.ref a) f u) Q E sh := by
  obtain ⟨nm, q, N, bs, bm, sn, sub, ab, col, dd, k0, k1, k2, k3, k5, n, at_, bas⟩ := T.cls
  have ec : PySem.W.clsIn X.K C = some { name := nm, bases := bs, mro := .ref C :: bm, ns := N, qualname := q, hasDict := true, slotNames := sn, subclasses := sub, abstract := ab, collection := col, hasDel := false } := by
    unfold PySem.W.clsIn
    rw [at_] <;> rfl
  obtain ⟨t1, ho⟩ := exo_at I.hok ea
  obtain ⟨m, ge, dr, tn, oss⟩ := sh
  refine PySem.W.set_plain I.kIn (ox := { cls := .ref C, dict := none, data := .fields #[.ref t1, .none, .none, .none, .bool false, .none] }) (od := none) ⟨ho, rfl, rfl, trivial⟩ T.sa ?_
  refine Gx.osa_first I.kIn ho ec rfl bas rfl no fun m' kt' dx k dn dne hx hn => ?_
  have free : H dx = none := I.hok.fresh dn
  have ned : ∀ {b : Addr} {o : Obj}, m.get? b = some o → b ≠ dx := fun {b o} r => Nat.ne_of_lt (Nat.lt_of_lt_of_le (Heap.lt_size r) dn)
  have nea : ∀ {b : Addr}, H b = none → b ≠ a := fun {b} r z => by
    subst z
    rw [ea] at r
    cases r
  have U : Un X.fs [] H (upd (upd H dx (exd dx [(f, y)])) a (exo a C (some dx))) m m' := {
    keep := fun b o r r2 _ _ => k b o (nea r2) r
    slot := fun b o r r2 _ _ => ⟨o.slots, k b o (nea r2) r⟩
    free := fun b o r r2 _ => by rw [upd_ne (nea r2), upd_ne (ned r)]; exact r2
    there := fun b o r _ => by
      rcases Classical.em (b = a) with hb | hb
      · subst hb; exact ⟨_, hx⟩
      · exact ⟨o, k b o hb r⟩
    tups := fun b xs r => by rw [upd_ne (at_ne ea r exo_tup), upd_ne (ne_of_none r free)]; exact r
    frzs := fun b o v r => by rw [upd_ne (at_ne ea r exo_frz), upd_ne (ne_of_none r free)]; exact r
    tbls := fun b ps r => ⟨#[], by rw [upd_ne (at_ne ea r exo_tbl), upd_ne (ne_of_none r free), r]; simp⟩ }
  refine go dx _ free dne (I.un (t' := kt') U fun b o r => ?_)
  rcases Classical.em (b = a) with hb | hb
  · subst hb
    rw [upd_same] at r
    cases r
    exact exo_ok hx
  · rw [upd_ne hb] at r
    rcases Classical.em (b = dx) with hd | hd
    · subst hd
      rw [upd_same] at r
      cases r
      exact exd_ok hn (relO_put (fs := []) ry fun _ => True.intro)
    · rw [upd_ne hd] at r
      refine (I.hok b o r).stay (fun c v hc => k c v ?_) (fun c hc => ?_) (fun c xs hc => ?_)
      · rcases hc with hc | hc
        · subst hc; exact hb
        · exact at_ne ea hc exo_own
      · rw [upd_ne (at_ne ea hc exo_own), upd_ne (ne_of_none hc free)]; exact hc
      · rw [upd_ne (at_ne ea hc exo_tup), upd_ne (ne_of_none hc free)]; exact hc
/-- self.f = e, once -/
def tOsa (K : PySem.W.Frag) (f : Str) (to te : TE) : TS := fun D σ H => te σ H fun y H1 => to σ H1 fun x H2 => ∃ a C : Addr, x = .ref a ∧ OexA K C ∧ PySem.W.findIn K (.ref C) f = some none ∧
  H2 a = some (exo a C none) ∧ ∀ dx, H2 dx = none → dx ≠ a → D.nx σ (upd (upd H2 dx (exd dx [(f, y)])) a (exo a C (some dx)))
theorem ps_osa {o e : Expr} {to te : TE} {p' pos : Pos} (ho : PE X o to) (he : PE X e te) (hs : swapsWith e (some (.Attribute o f p')) pos.line X.env = pure false := by rfl) : PS X (.Assign [.Attribute o f p'] e pos) (tOsa X.K f to te) := by
  refine ⟨fun pn s σ H D I h => plainObj_wpAny_Assign_Attribute (thn (he.run pn s σ H _ I h) fun v s1 ⟨y, H1, I1, r1, q1⟩ => thn (ho.run pn s1 σ H1 _ I1 q1) fun u s2 ⟨x, H2, I2, r2, a, C, ex, T, no, ea, q⟩ => ?_) hs⟩
  subst ex
  cases (show u = Value.ref a from r2)
  exact osa_ok T I2 ea no r1 fun dx s' n1 n2 J => ⟨σ, _, J, q dx n1 n2⟩
/-- raise C(e, ..) -/
theorem pmk_oexA {CX : CXT} {e : Expr} {es : List Expr} {ta : TA} {p pos : Pos} {x : Str} {fI : Addr} {k : Nat} {fd : FuncData} {ps : List Str} {sp : Sp} {ds : List Value} {dvs : List V} (T : OexA X.K C) (iC : PySem.W.findIn X.K (.ref C) "__init__" = some (some (.ref fI)))
    (tI : PySem.W.typeIn X.K (.ref fI) = some (.type "function")) (G : FnOk X.prog X.w X.K X.mg X.base CX k fI fd ps sp) (hr : Room (k + 1) X.A) (hb : Binds X.K fd ps ds) (hd : Vals dvs ds) (hx : Passes CX X (fun _ _ _ => False)) (hg : Gl X x) (hm : X.mg x = some (.ref C))
    (ha : PA X (e :: es) ta) (hdb : (x == ("__debug__" : Str)) = false := by decide) (he : starEach (e :: es) X.env = (false, eval e X.env) :: starEach es X.env := by rfl) (hpl : (backTo pos (starEach es X.env)).any (·.1) = false := by rfl) :
    PMk X (.Call (.Name x p) (e :: es) [] pos) (tMkO C sp dvs ta) := by
  intro pn s σ H Q I h
  obtain ⟨nm, q, N, bs, bm, sn, sub, ab, col, dd, k0, k1, k2, k3, k5, n, at_, bas⟩ := T.cls
  obtain ⟨B, i0, F⟩ := bas.F
  refine wpAny_Call_Name_kw (ld_glob I hg hm ?_ hdb)
  refine PySem.W.callWith_K (h₀ := X.base) I.ok.mod.kin T.kC (thn (ha.run pos pn s σ H _ I h) fun us s1 ⟨vs, H1, I1, r1, hz, q1⟩ => ⟨I1.kIn, ?_⟩) he hpl
  show wpAny _ _ (call (.ref C) us) _ _ _
  obtain ⟨m, g, dr, tk, os⟩ := s1
  have lt : m.objs.size ≤ m.objs.size + 1 := Nat.le_succ _
  have hq := q1 (m.objs.size + 1) (I1.hok.fresh lt)
  have kk : ∀ b o, m.get? b = some o → ((m.push (PySem.W.kdv_tup us)).push (PySem.HandSPX.excO C m.objs.size)).get? b = some o := fun b o r => Heap.get?_push_of_some _ (Heap.get?_push_of_some _ r)
  have ge : ((m.push (PySem.W.kdv_tup us)).push (PySem.HandSPX.excO C m.objs.size)).get? (m.objs.size + 1) = some (PySem.HandSPX.excO C m.objs.size) := by heap_get
  have I2 : Inv X pn σ (upd H1 (m.objs.size + 1) (exo (m.objs.size + 1) C none)) ⟨(m.push (PySem.W.kdv_tup us)).push (PySem.HandSPX.excO C m.objs.size), g, dr, tk, os⟩ :=
    I1.laid (t' := tk) (a := m.objs.size + 1) (o := exo (m.objs.size + 1) C none) (h' := (m.push (PySem.W.kdv_tup us)).push (PySem.HandSPX.excO C m.objs.size)) kk lt (exo_ok ge)
  have r2 : Vals (V.ref (m.objs.size + 1) :: (vs ++ dvs)) (Value.ref (m.objs.size + 1) :: (us ++ ds)) := .cons rfl (r1.append hd)
  have l1 : (Value.ref (m.objs.size + 1) :: us ++ ds).length = ps.length := (G.len _ _ _ _ hq ▸ r2.length).symm
  have l2 : us.length ≤ sizeLine := by
    have := Paired.length r1
    rw [sizeLine_eq]
    omega
  refine wpAny_call (PySem.HandSPX.call_own F (fun _ => rfl) (I1.kIn _ _ at_) (PySem.W.looks_findIn I1.kIn iC) (fun v => PySem.W.bind_fn I1.kIn v tI) l2
    (codeAny_mono (G.run _ X.stack _ _ ⟨Value.ref (m.objs.size + 1) :: us, []⟩ (Value.ref (m.objs.size + 1) :: (us ++ ds)) _ _ (fun _ _ _ => False) (hr.make C us []) (I2.env0.make C us []) (hb _ (Value.ref (m.objs.size + 1) :: us) I2.kIn l1) r2 hq) fun r s' z => ?_))
  match r, z with
  | .error er, z => exact hx pn σ _ _ er s' I2 z
  | .ok (.ret u), z =>
    obtain ⟨v, H2, os2, bare2, un2, hok2, rv, ev, d, fs, e1, e2, e3, q2⟩ := z
    subst ev
    obtain ⟨h2, g2, d2, t2, os'⟩ := s'
    exact ⟨rv, mk_end (raises_own T.exC T.tyC) I1 lt kk un2 hok2 os2 bare2 e1 e2 e3 q2⟩
end
end L2
set_option Elab.async false
set_option linter.all false
set_option maxRecDepth 100000
set_option maxHeartbeats 4000000
/-! R20: x + y of two instances of a class with __add__; slices of tuples by the heap. -/
namespace Xs
open PySem PySem.Spec PyProof.Rows L2
/-- what is asked of the class at C: f its __add__ -/
structure AddC (K : PySem.W.Frag) (C f : Addr) : Prop where
  at_ : PySem.W.findIn K (.ref C) "__add__" = some (some (.ref f))
  fn : PySem.W.isFn K (.ref f) = true
  first : PySem.W.selfFirst K C = true
section
variable {X : Cx} {C f : Addr} {n : Nat} {sp : Sp}
def rAddO (C : Addr) (sp : Sp) : R2 := fun x y H Q => ∃ a b dx dy fs gs, x = .ref a ∧ y = .ref b ∧ H a = some (.ins C dx fs) ∧ H b = some (.ins C dy gs) ∧ sp [.ref a, .ref b] H Q E0
theorem op_addO (F : FnR X.prog X.w X.K X.mg X.base CX0 n f sp) (hr : Room n X.A) (T : AddC X.K C f) : OpR X (binaryOp .Add) (rAddO C sp) := by
  intro pins s σ H x y v u Q I rx ry h
  obtain ⟨a, b, dx, dy, fs, gs, rfl, rfl, ea, eb, h⟩ := h
  cases rx
  cases ry
  obtain ⟨mA, O, _⟩ := ins_get I.hok ea
  obtain ⟨od, J, _⟩ := O.look
  obtain ⟨mB, O2, _⟩ := ins_get I.hok eb
  obtain ⟨od2, J2, _⟩ := O2.look
  obtain ⟨m, hF⟩ := I.fr
  refine PySem.W.binop_K (op := .Add) hF I.ok.mod.kin J J2.type T.first T.at_ T.fn (wpAny_mono (Xr.run_sp (A := X.A) (vs := [.ref a, .ref b]) F hr I.ok.frames I (.cons rfl (.cons rfl .nil)) h) (fun r s' hv => ?_) fun _ _ e => e)
  obtain ⟨z, H', I', rz, q⟩ := hv
  have q' : EP X pins σ Q r s' := ⟨z, H', I', rz, q⟩
  cases z with
  | non => cases (show r = Value.none from rz); exact q'
  | bl b => cases (show r = Value.bool b from rz); exact q'
  | int i => obtain ⟨t, e⟩ := (show ∃ t, r = Value.int i t from rz); subst e; exact q'
  | str i => obtain ⟨t, e⟩ := (show ∃ t, r = Value.str i t from rz); subst e; exact q'
  | byt i => obtain ⟨t, e⟩ := (show ∃ t, r = Value.bytes i t from rz); subst e; exact q'
  | flt i => obtain ⟨t, e⟩ := (show ∃ t, r = Value.float i t from rz); subst e; exact q'
  | ref p => cases (show r = Value.ref p from rz); exact q'
  | ty n => cases (show r = Value.type n from rz); exact q'
/-- t[lo:hi], t a tuple of the heap, not the whole of it -/
def hSlT : V → Option Int → Option Int → Hp → VK → Prop := fun x lo hi H Q => match x with
  | .ref a => (match H a with
    | some (.tup xs) => ¬ (HT.sIx xs.length 0 lo = 0 ∧ HT.sIx xs.length xs.length hi = xs.length) ∧ ∀ p, H p = none → Q (.ref p) (upd H p (.tup (cutV xs lo hi)))
    | _ => False)
  | _ => False
theorem hs_tup : SlR X hSlT := fun pins s σ H x v vl vu lo hi sl Q I rx hs pl pu h => by
  unfold hSlT at h
  split at h
  · split at h
    · exact sl_tup pins s σ H _ v vl vu lo hi sl Q I rx hs pl pu ⟨_, _, rfl, .inl (Rd.of ‹_›), h.1, h.2⟩
    · exact h.elim
  · exact h.elim
theorem slT_at {H : Hp} {a : Addr} {xs ys : List V} {lo hi : Option Int} {Q : VK} (h : H a = some (.tup xs)) (hw : ¬ (HT.sIx xs.length 0 lo = 0 ∧ HT.sIx xs.length xs.length hi = xs.length)) (e : cutV xs lo hi = ys) (q : ∀ p, H p = none → Q (.ref p) (upd H p (.tup ys))) : hSlT (.ref a) lo hi H Q := by
  unfold hSlT
  dsimp only
  rw [h]
  exact ⟨hw, by rw [e]; exact q⟩
theorem catT_ok {K : PySem.W.Frag} {H : Hp} {p r : Addr} {xs ys : List V} {Q : VK} (hp : H p = some (.tup xs)) (hq : H r = some (.tup ys)) (hx : xs ≠ []) (hy : ys ≠ []) (hl : xs.length + ys.length ≤ sizeLine) (k : ∀ t, H t = none → Q (.ref t) (upd H t (.tup (xs ++ ys)))) : rCatT K (.ref p) (.ref r) H Q :=
  ⟨_, _, _, _, rfl, rfl, .inl (Rd.of hp), .inl (Rd.of hq), hx, hl, fun e => absurd e hy, fun _ => k⟩
end
end Xs
set_option Elab.async false
set_option linter.all false
set_option maxRecDepth 100000
set_option maxHeartbeats 0
/-! XbT: as Xb, the tables of code objects of some defs left out of the fragment (lambdas are made in them). -/
namespace XbT
open PySem PySem.Spec PyProof.Rows L2
def tabs (xs : List Str) (K : PySem.W.Frag) : List (Addr × Addr) := xs.filterMap (PySem.W.tabIn K)
/-- the fragment without some objects -/
def cut (K : PySem.W.Frag) (ps : List Addr) : PySem.W.Frag := K.filter fun p => !ps.contains p.1
theorem cut_in {K : PySem.W.Frag} {ps : List Addr} {a : Addr} {o : Obj} : (cut K ps).lookup a = some o → K.lookup a = some o ∧ ps.contains a = false := by
  induction K with
  | nil => intro e; cases e
  | cons p r ih =>
    obtain ⟨b, u⟩ := p
    intro e
    unfold cut at e
    rw [List.filter_cons] at e
    by_cases hb : ps.contains b = true
    · rw [if_neg (by rw [hb]; decide)] at e
      obtain ⟨e1, e2⟩ := ih e
      have hne : (a == b) = false := by
        cases z : (a == b) with
        | false => rfl
        | true =>
          obtain rfl := beq_iff_eq.mp z
          rw [hb] at e2; cases e2
      exact ⟨by rw [List.lookup_cons, hne]; exact e1, e2⟩
    · have hb : ps.contains b = false := by simpa using hb
      rw [if_pos (by rw [hb]; rfl), List.lookup_cons] at e
      cases z : (a == b) with
      | true =>
        rw [z] at e
        obtain rfl := beq_iff_eq.mp z
        exact ⟨by rw [List.lookup_cons, z]; exact e, hb⟩
      | false =>
        rw [z] at e
        obtain ⟨e1, e2⟩ := ih e
        exact ⟨by rw [List.lookup_cons, z]; exact e1, e2⟩
theorem cut_none {K : PySem.W.Frag} {ps : List Addr} {a : Addr} (h : a ∈ ps) : (cut K ps).lookup a = none := by
  cases e : (cut K ps).lookup a with
  | none => rfl
  | some o =>
    have := (cut_in e).2
    rw [List.contains_iff_mem.mpr h] at this
    cases this
/-- an empty table -/
def emptyB : Option Obj → Bool
  | some ⟨.none, .none, .fields vs, sl⟩ => vs.size == 0 && sl.size == 0
  | _ => false
theorem emptyB_ok {o : Option Obj} (h : emptyB o = true) : o = some { cls := .none, data := .fields #[] } := by
  unfold emptyB at h
  split at h
  · rename_i vs sl
    rw [Bool.and_eq_true] at h
    obtain ⟨h1, h2⟩ := h
    have e1 : vs = #[] := Array.size_eq_zero_iff.mp (beq_iff_eq.mp h1)
    have e2 : sl = #[] := Array.size_eq_zero_iff.mp (beq_iff_eq.mp h2)
    rw [e1, e2]
  · cases h
def rest (xs : List Str) (K : PySem.W.Frag) : PySem.W.Frag := cut K ((tabs xs K).map (·.2))
def chk (xs : List Str) (K : PySem.W.Frag) : Bool := decide (tabs xs (rest xs K) = tabs xs K) && (xs.all fun x => (PySem.W.tabIn (rest xs K) x).isSome) && (tabs xs K).all fun p => emptyB (K.lookup p.2) && PySem.W.codeHdIn (rest xs K) p.1 p.2
/-- what is known of the tables -/
structure TabF (xs : List Str) (K : PySem.W.Frag) (h : Heap) : Prop where
  tab : ∀ p ∈ tabs xs K, h.get? p.2 = some { cls := .none, data := .fields #[] }
  no : ∀ p ∈ tabs xs K, K.lookup p.2 = none
  cd : ∀ p ∈ tabs xs K, PySem.W.codeHdIn K p.1 p.2 = true
  all : ∀ x ∈ xs, ∃ p ∈ tabs xs K, PySem.W.tabIn K x = some p
theorem chk_ok {xs : List Str} {K : PySem.W.Frag} {h : Heap} (hK : K.In h) (e : chk xs K = true) : (rest xs K).In h ∧ TabF xs (rest xs K) h := by
  unfold chk at e
  rw [Bool.and_eq_true, Bool.and_eq_true] at e
  obtain ⟨⟨e1, e2⟩, e3⟩ := e
  have e1 := of_decide_eq_true e1
  refine ⟨fun b o hb => hK b o (cut_in hb).1, ⟨fun p hp => ?_, fun p hp => ?_, fun p hp => ?_, fun x hx => ?_⟩⟩
  · rw [e1] at hp
    have := List.all_eq_true.mp e3 p hp
    rw [Bool.and_eq_true] at this
    exact hK _ _ (emptyB_ok this.1)
  · rw [e1] at hp
    exact cut_none (List.mem_map.mpr ⟨p, hp, rfl⟩)
  · rw [e1] at hp
    have := List.all_eq_true.mp e3 p hp
    rw [Bool.and_eq_true] at this
    exact this.2
  · have := List.all_eq_true.mp e2 x hx
    cases z : PySem.W.tabIn (rest xs K) x with
    | none => rw [z] at this; cases this
    | some p => exact ⟨p, List.mem_filterMap.mpr ⟨x, hx, z⟩, rfl⟩
abbrev Al : Type := Xb.Al × Bool
def obsG (n : Nat) (fa : List He.Fa) (fn : List He5.DefA) (ts : List He.Tab) (ex : List (PySem.W.Frag → Bool)) (xs : List Str) (g : Addr → Option Obj) : Al :=
  (Xb.obs fa fn ts ex (rest xs (He.frG g (List.range n))), chk xs (He.frG g (List.range n)))
def hook (n : Nat) (fa : List He.Fa) (fn : List He5.DefA) (ts : List He.Tab) (ex : List (PySem.W.Frag → Bool)) (xs : List Str) : PySem.W.Hook where
  α := Al
  obs := fun s => obsG n fa fn ts ex xs s.heap.get?
  val := fun w => (Xb.val fn ts w, true)
  says := fun w h => ∃ K : PySem.W.Frag, K.In h ∧ Xb.Says fa fn ts ex w K ∧ TabF xs K h
  of := fun w s e => by
    obtain ⟨h1, h2⟩ := chk_ok (h := s.heap) He.frG_in (congrArg (fun z : Al => z.2) e)
    exact ⟨_, h1, congrArg (fun z : Al => z.1) e, h2⟩
  keeps := fun _ _ _ ⟨K, hK, c, t⟩ k => ⟨K, PySem.W.Frag.In.keeps hK k, c, ⟨fun p hp => k _ _ (t.tab p hp), t.no, t.cd, t.all⟩⟩
theorem obsG_eq {n : Nat} {fa : List He.Fa} {fn : List He5.DefA} {ts : List He.Tab} {ex : List (PySem.W.Frag → Bool)} {xs : List Str} {g : Addr → Option Obj} {s : Shared} (h : ∀ a, g a = s.heap.get? a) : obsG n fa fn ts ex xs g = (hook n fa fn ts ex xs).obs s := by
  have e : g = s.heap.get? := funext h
  rw [e] <;> rfl
/-- the code object of a def that makes lambdas -/
theorem TabF.at {xs : List Str} {K : PySem.W.Frag} {h : Heap} {mg : Str → Option Value} {x : Str} {f : Addr} {fd : FuncData} {oc : Value} {od : Option Addr} {osl : Array (Option Value)} (t : TabF xs K h) (hx : x ∈ xs) (hn : PySem.W.nsIn K mainGlobals x = some (some (.ref f)))
    (lk : K.lookup f = some ⟨oc, od, .func fd, osl⟩) : ∃ p ∈ tabs xs K, fd.code = .ref p.1 := by
  obtain ⟨p, hp, e⟩ := t.all x hx
  refine ⟨p, hp, ?_⟩
  unfold PySem.W.tabIn at e
  rw [hn] at e
  dsimp only at e
  rw [lk] at e
  dsimp only at e
  split at e
  · rename_i c hc
    split at e
    · split at e
      · cases e; exact hc
      · cases e
    · cases e
  · cases e
end XbT
set_option Elab.async false
set_option linter.all false
set_option maxRecDepth 100000
set_option maxHeartbeats 0
namespace Hd
open PySem PySem.Spec PyProof.Rows L2
def top (i : Nat) : Stmt := PySem.Challenge.pw_urlplaces_k08_queries_refused.main.body.getD i (.Pass ⟨0, 0, 0, 0⟩)
/-- a keyword-only default that is an object -/
def kwAt (f x : Str) (K : PySem.W.Frag) : Addr := match K.lookup (He.ga K f) with
  | some ⟨_, _, .func fd, _⟩ => (match fd.kwdefaults with
    | .ref D => (match PySem.W.nsIn K D x with
      | some (some (.ref b)) => b
      | _ => 0)
    | _ => 0)
  | _ => 0
abbrev s_octets : Stmt := top 7
def d_octets : He5.DefA := ⟨fun K => He.ga K "octets", "octets", "octets", defArgs s_octets, defBody s_octets, defScope s_octets, [], []⟩
abbrev s_begins_with_octet : Stmt := top 8
def d_begins_with_octet : He5.DefA := ⟨fun K => He.ga K "begins_with_octet", "begins_with_octet", "begins_with_octet", defArgs s_begins_with_octet, defBody s_begins_with_octet, defScope s_begins_with_octet, [], []⟩
abbrev s_pieces_of : Stmt := top 9
def d_pieces_of : He5.DefA := ⟨fun K => He.ga K "pieces_of", "pieces_of", "pieces_of", defArgs s_pieces_of, defBody s_pieces_of, defScope s_pieces_of, [], []⟩
abbrev s_pairs : Stmt := top 12
def d_pairs : He5.DefA := ⟨fun K => He.ga K "pairs", "pairs", "pairs", defArgs s_pairs, defBody s_pairs, defScope s_pairs, [], []⟩
abbrev s_values_of : Stmt := top 13
def d_values_of : He5.DefA := ⟨fun K => He.ga K "values_of", "values_of", "values_of", defArgs s_values_of, defBody s_values_of, defScope s_values_of, [], [(("default" : Str), .adr (kwAt "values_of" "default"))]⟩
abbrev s__pair : Stmt := top 14
def d__pair : He5.DefA := ⟨fun K => He.ga K "_pair", "_pair", "_pair", defArgs s__pair, defBody s__pair, defScope s__pair, [], []⟩
abbrev s__read : Stmt := top 15
def d__read : He5.DefA := ⟨fun K => He.ga K "_read", "_read", "_read", defArgs s__read, defBody s__read, defScope s__read, [], []⟩
abbrev s__law_bag : Stmt := top 17
def d__law_bag : He5.DefA := ⟨fun K => He.ga K "_law_bag", "_law_bag", "_law_bag", defArgs s__law_bag, defBody s__law_bag, defScope s__law_bag, [], []⟩
abbrev s__law_take : Stmt := top 18
def d__law_take : He5.DefA := ⟨fun K => He.ga K "_law_take", "_law_take", "_law_take", defArgs s__law_take, defBody s__law_take, defScope s__law_take, [], []⟩
abbrev s__law_signs : Stmt := top 19
def d__law_signs : He5.DefA := ⟨fun K => He.ga K "_law_signs", "_law_signs", "_law_signs", defArgs s__law_signs, defBody s__law_signs, defScope s__law_signs, [], []⟩
abbrev s__law_plain : Stmt := top 20
def d__law_plain : He5.DefA := ⟨fun K => He.ga K "_law_plain", "_law_plain", "_law_plain", defArgs s__law_plain, defBody s__law_plain, defScope s__law_plain, [], []⟩
abbrev s__law_sign : Stmt := top 21
def d__law_sign : He5.DefA := ⟨fun K => He.ga K "_law_sign", "_law_sign", "_law_sign", defArgs s__law_sign, defBody s__law_sign, defScope s__law_sign, [], []⟩
abbrev s__law_is_escape : Stmt := top 22
def d__law_is_escape : He5.DefA := ⟨fun K => He.ga K "_law_is_escape", "_law_is_escape", "_law_is_escape", defArgs s__law_is_escape, defBody s__law_is_escape, defScope s__law_is_escape, [], []⟩
abbrev s__law_octet : Stmt := top 23
def d__law_octet : He5.DefA := ⟨fun K => He.ga K "_law_octet", "_law_octet", "_law_octet", defArgs s__law_octet, defBody s__law_octet, defScope s__law_octet, [], []⟩
abbrev s__law_escape : Stmt := top 24
def d__law_escape : He5.DefA := ⟨fun K => He.ga K "_law_escape", "_law_escape", "_law_escape", defArgs s__law_escape, defBody s__law_escape, defScope s__law_escape, [], []⟩
abbrev s__law_pieces : Stmt := top 25
def d__law_pieces : He5.DefA := ⟨fun K => He.ga K "_law_pieces", "_law_pieces", "_law_pieces", defArgs s__law_pieces, defBody s__law_pieces, defScope s__law_pieces, [], []⟩
abbrev s__law_drawn_text : Stmt := top 26
def d__law_drawn_text : He5.DefA := ⟨fun K => He.ga K "_law_drawn_text", "_law_drawn_text", "_law_drawn_text", defArgs s__law_drawn_text, defBody s__law_drawn_text, defScope s__law_drawn_text, [], []⟩
abbrev s__law_query : Stmt := top 27
def d__law_query : He5.DefA := ⟨fun K => He.ga K "_law_query", "_law_query", "_law_query", defArgs s__law_query, defBody s__law_query, defScope s__law_query, [], []⟩
abbrev s__law_bare : Stmt := top 28
def d__law_bare : He5.DefA := ⟨fun K => He.ga K "_law_bare", "_law_bare", "_law_bare", defArgs s__law_bare, defBody s__law_bare, defScope s__law_bare, [], []⟩
abbrev s__law_pairs : Stmt := top 29
def d__law_pairs : He5.DefA := ⟨fun K => He.ga K "_law_pairs", "_law_pairs", "_law_pairs", defArgs s__law_pairs, defBody s__law_pairs, defScope s__law_pairs, [], []⟩
abbrev s__law_first_wrong : Stmt := top 30
def d__law_first_wrong : He5.DefA := ⟨fun K => He.ga K "_law_first_wrong", "_law_first_wrong", "_law_first_wrong", defArgs s__law_first_wrong, defBody s__law_first_wrong, defScope s__law_first_wrong, [], []⟩
abbrev s__law_outcome : Stmt := top 31
def d__law_outcome : He5.DefA := ⟨fun K => He.ga K "_law_outcome", "_law_outcome", "_law_outcome", defArgs s__law_outcome, defBody s__law_outcome, defScope s__law_outcome, [], []⟩
abbrev s__law_spoilt : Stmt := top 32
def d__law_spoilt : He5.DefA := ⟨fun K => He.ga K "_law_spoilt", "_law_spoilt", "_law_spoilt", defArgs s__law_spoilt, defBody s__law_spoilt, defScope s__law_spoilt, [], []⟩
abbrev s_law : Stmt := top 33
def d_law : He5.DefA := ⟨fun K => He.ga K "law", "law", "law", defArgs s_law, defBody s_law, defScope s_law, [], []⟩
abbrev s_BadQuery___init__ : Stmt := inClass (top 1) 0
def d_BadQuery___init__ : He5.DefA := ⟨fun K => He.ma K (He.ga K "BadQuery") "__init__", "__init__", "BadQuery.__init__", defArgs s_BadQuery___init__, defBody s_BadQuery___init__, defScope s_BadQuery___init__, [], []⟩
abbrev s_BadEscape___init__ : Stmt := inClass (top 2) 0
def d_BadEscape___init__ : He5.DefA := ⟨fun K => He.ma K (He.ga K "BadEscape") "__init__", "__init__", "BadEscape.__init__", defArgs s_BadEscape___init__, defBody s_BadEscape___init__, defScope s_BadEscape___init__, [], []⟩
abbrev s_NoText___init__ : Stmt := inClass (top 3) 0
def d_NoText___init__ : He5.DefA := ⟨fun K => He.ma K (He.ga K "NoText") "__init__", "__init__", "NoText.__init__", defArgs s_NoText___init__, defBody s_NoText___init__, defScope s_NoText___init__, [], []⟩
def fn0 : List He5.DefA := [d_octets, d_begins_with_octet, d_pieces_of, d_pairs, d_values_of, d__pair, d__read, d__law_bag, d__law_take, d__law_signs, d__law_plain, d__law_sign, d__law_is_escape, d__law_octet, d__law_escape, d__law_pieces, d__law_drawn_text, d__law_query, d__law_bare, d__law_pairs, d__law_first_wrong, d__law_outcome, d__law_spoilt, d_law, d_BadQuery___init__, d_BadEscape___init__, d_NoText___init__]
def fn : List He5.DefA := fn0
def fa0 : List He.Fa := [.glo "octets", .glo "begins_with_octet", .glo "pieces_of", .glo "pairs", .glo "values_of", .glo "_pair", .glo "_read", .glo "_law_bag", .glo "_law_take", .glo "_law_signs", .glo "_law_plain", .glo "_law_sign", .glo "_law_is_escape", .glo "_law_octet", .glo "_law_escape", .glo "_law_pieces", .glo "_law_drawn_text", .glo "_law_query", .glo "_law_bare", .glo "_law_pairs", .glo "_law_first_wrong", .glo "_law_outcome", .glo "_law_spoilt", .glo "law", .glo "BadQuery", .glo "BadEscape", .glo "NoText", .free "TypeError", .free "ValueError", .free "abs"]
def fa1 : List He.Fa := [.free "all", .free "enumerate", .free "int", .free "isinstance", .free "len", .free "max", .free "min", .free "ord", .free "range", .free "str", .free "tuple", .str "HEXADECIMAL" "0123456789ABCDEFabcdef", .int "ESCAPE_SIZE" 3, .str "SIGNS" " !\"#$&'()*+,-./0123456789:;<=>?@ABCDEFGHIJKLMNOPQRSTUVWXYZ[\\]^_`abcdefghijklmnopqrstuvwxyz{|}~", .noat "BadQuery" "place", .noat "BadEscape" "place", .noat "NoText" "value", .exm "BadQuery" "NoText" false, .exm "BadEscape" "NoText" false, .exm "NoText" "NoText" true, .exm "NoText" "BadQuery" false, .exm "NoText" "BadEscape" false, .exm "BadQuery" "BadQuery" true, .exm "BadQuery" "BadEscape" false, .exm "BadEscape" "BadQuery" false, .exm "BadEscape" "BadEscape" true]
def fa : List He.Fa := fa0 ++ fa1
def ts : List He.Tab := []
def ex0 : List (PySem.W.Frag → Bool) := [(fun K => Hc.oexB K (He.ga K "BadQuery")), (fun K => xfB K (He.ga K "BadQuery")), (fun K => Hc.iniB K (He.ga K "BadQuery") (He.ma K (He.ga K "BadQuery") "__init__")), (fun K => Hc.oexB K (He.ga K "BadEscape")), (fun K => xfB K (He.ga K "BadEscape")), (fun K => Hc.iniB K (He.ga K "BadEscape") (He.ma K (He.ga K "BadEscape") "__init__")), (fun K => oexAB K (He.ga K "NoText")), (fun K => xfB K (He.ga K "NoText")), (fun K => Hc.iniB K (He.ga K "NoText") (He.ma K (He.ga K "NoText") "__init__")), (fun K => Hc.tupSB K (kwAt "values_of" "default" K) [])]
def ex : List (PySem.W.Frag → Bool) := ex0
def loose0 : List PySem.Str := [("BadQuery" : Str), ("BadEscape" : Str), ("NoText" : Str), ("HEXADECIMAL" : Str), ("ESCAPE_SIZE" : Str), ("octets" : Str), ("begins_with_octet" : Str), ("pieces_of" : Str), ("SIGNS" : Str), ("pairs" : Str), ("values_of" : Str), ("_pair" : Str), ("_read" : Str), ("_law_bag" : Str), ("_law_take" : Str), ("_law_signs" : Str), ("_law_plain" : Str), ("_law_sign" : Str), ("_law_is_escape" : Str), ("_law_octet" : Str), ("_law_escape" : Str), ("_law_pieces" : Str), ("_law_drawn_text" : Str), ("_law_query" : Str), ("_law_bare" : Str), ("_law_pairs" : Str), ("_law_first_wrong" : Str), ("_law_outcome" : Str), ("_law_spoilt" : Str)]
def loose : List PySem.Str := loose0
abbrev R : PySem.W.OpenRow := PySem.W.OpenLaw.row PySem.Challenge.rw_urlplaces_k08_queries_refused
abbrev hk : PySem.W.Hook := XbT.hook 650 fa fn ts ex ["law"]
def ob (s : PySem.W.SharedT) : XbT.Al := XbT.obsG 650 fa fn ts ex ["law"] (HandSHeadRun.getT s)
theorem ob_eq (s : PySem.W.SharedT) : ob s = hk.obs s.abs := XbT.obsG_eq (HandSHeadRun.getT_eq s)
theorem run (w : World) : HandSHeadRun.RunEq R (PySem.W.view R.prog [33]) hk ob 8000 loose w :=
  PySem.W.byRow2 "special-get-raises" (P := fun w => HandSHeadRun.RunEq R (PySem.W.view R.prog [33]) hk ob 8000 loose w) (fun w os => by kernel_rfl) (fun w os => by kernel_rfl) w
end Hd
set_option Elab.async false
set_option linter.all false
set_option maxRecDepth 100000
set_option maxHeartbeats 4000000
namespace Fx
open PySem PySem.Spec PyProof.Rows L2 ClX Hd Xs
structure Ct (w : World) (K : PySem.W.Frag) (mg : Str → Option Value) : Prop where
  says : Xb.Says fa fn ts ex w K
  gl : ∃ h : Heap, K.In h ∧ h.Ns mainGlobals mg
section
variable {w : World} {K : PySem.W.Frag} {mg : Str → Option Value}
theorem g_octets (c : Ct w K mg) : mg "octets" = some (.ref (He.ga K "octets")) := by
  obtain ⟨h, X, G⟩ := c.gl
  exact He.glo_ok X G (c.says.fact 0 (f := .glo "octets") rfl)
theorem g_begins_with_octet (c : Ct w K mg) : mg "begins_with_octet" = some (.ref (He.ga K "begins_with_octet")) := by
  obtain ⟨h, X, G⟩ := c.gl
  exact He.glo_ok X G (c.says.fact 1 (f := .glo "begins_with_octet") rfl)
theorem g_pieces_of (c : Ct w K mg) : mg "pieces_of" = some (.ref (He.ga K "pieces_of")) := by
  obtain ⟨h, X, G⟩ := c.gl
  exact He.glo_ok X G (c.says.fact 2 (f := .glo "pieces_of") rfl)
theorem g_pairs (c : Ct w K mg) : mg "pairs" = some (.ref (He.ga K "pairs")) := by
  obtain ⟨h, X, G⟩ := c.gl
  exact He.glo_ok X G (c.says.fact 3 (f := .glo "pairs") rfl)
theorem g_values_of (c : Ct w K mg) : mg "values_of" = some (.ref (He.ga K "values_of")) := by
  obtain ⟨h, X, G⟩ := c.gl
  exact He.glo_ok X G (c.says.fact 4 (f := .glo "values_of") rfl)
theorem g__pair (c : Ct w K mg) : mg "_pair" = some (.ref (He.ga K "_pair")) := by
  obtain ⟨h, X, G⟩ := c.gl
  exact He.glo_ok X G (c.says.fact 5 (f := .glo "_pair") rfl)
theorem g__read (c : Ct w K mg) : mg "_read" = some (.ref (He.ga K "_read")) := by
  obtain ⟨h, X, G⟩ := c.gl
  exact He.glo_ok X G (c.says.fact 6 (f := .glo "_read") rfl)
theorem g__law_bag (c : Ct w K mg) : mg "_law_bag" = some (.ref (He.ga K "_law_bag")) := by
  obtain ⟨h, X, G⟩ := c.gl
  exact He.glo_ok X G (c.says.fact 7 (f := .glo "_law_bag") rfl)
theorem g__law_take (c : Ct w K mg) : mg "_law_take" = some (.ref (He.ga K "_law_take")) := by
  obtain ⟨h, X, G⟩ := c.gl
  exact He.glo_ok X G (c.says.fact 8 (f := .glo "_law_take") rfl)
theorem g__law_signs (c : Ct w K mg) : mg "_law_signs" = some (.ref (He.ga K "_law_signs")) := by
  obtain ⟨h, X, G⟩ := c.gl
  exact He.glo_ok X G (c.says.fact 9 (f := .glo "_law_signs") rfl)
theorem g__law_plain (c : Ct w K mg) : mg "_law_plain" = some (.ref (He.ga K "_law_plain")) := by
  obtain ⟨h, X, G⟩ := c.gl
  exact He.glo_ok X G (c.says.fact 10 (f := .glo "_law_plain") rfl)
theorem g__law_sign (c : Ct w K mg) : mg "_law_sign" = some (.ref (He.ga K "_law_sign")) := by
  obtain ⟨h, X, G⟩ := c.gl
  exact He.glo_ok X G (c.says.fact 11 (f := .glo "_law_sign") rfl)
theorem g__law_is_escape (c : Ct w K mg) : mg "_law_is_escape" = some (.ref (He.ga K "_law_is_escape")) := by
  obtain ⟨h, X, G⟩ := c.gl
  exact He.glo_ok X G (c.says.fact 12 (f := .glo "_law_is_escape") rfl)
theorem g__law_octet (c : Ct w K mg) : mg "_law_octet" = some (.ref (He.ga K "_law_octet")) := by
  obtain ⟨h, X, G⟩ := c.gl
  exact He.glo_ok X G (c.says.fact 13 (f := .glo "_law_octet") rfl)
theorem g__law_escape (c : Ct w K mg) : mg "_law_escape" = some (.ref (He.ga K "_law_escape")) := by
  obtain ⟨h, X, G⟩ := c.gl
  exact He.glo_ok X G (c.says.fact 14 (f := .glo "_law_escape") rfl)
theorem g__law_pieces (c : Ct w K mg) : mg "_law_pieces" = some (.ref (He.ga K "_law_pieces")) := by
  obtain ⟨h, X, G⟩ := c.gl
  exact He.glo_ok X G (c.says.fact 15 (f := .glo "_law_pieces") rfl)
theorem g__law_drawn_text (c : Ct w K mg) : mg "_law_drawn_text" = some (.ref (He.ga K "_law_drawn_text")) := by
  obtain ⟨h, X, G⟩ := c.gl
  exact He.glo_ok X G (c.says.fact 16 (f := .glo "_law_drawn_text") rfl)
theorem g__law_query (c : Ct w K mg) : mg "_law_query" = some (.ref (He.ga K "_law_query")) := by
  obtain ⟨h, X, G⟩ := c.gl
  exact He.glo_ok X G (c.says.fact 17 (f := .glo "_law_query") rfl)
theorem g__law_bare (c : Ct w K mg) : mg "_law_bare" = some (.ref (He.ga K "_law_bare")) := by
  obtain ⟨h, X, G⟩ := c.gl
  exact He.glo_ok X G (c.says.fact 18 (f := .glo "_law_bare") rfl)
theorem g__law_pairs (c : Ct w K mg) : mg "_law_pairs" = some (.ref (He.ga K "_law_pairs")) := by
  obtain ⟨h, X, G⟩ := c.gl
  exact He.glo_ok X G (c.says.fact 19 (f := .glo "_law_pairs") rfl)
theorem g__law_first_wrong (c : Ct w K mg) : mg "_law_first_wrong" = some (.ref (He.ga K "_law_first_wrong")) := by
  obtain ⟨h, X, G⟩ := c.gl
  exact He.glo_ok X G (c.says.fact 20 (f := .glo "_law_first_wrong") rfl)
theorem g__law_outcome (c : Ct w K mg) : mg "_law_outcome" = some (.ref (He.ga K "_law_outcome")) := by
  obtain ⟨h, X, G⟩ := c.gl
  exact He.glo_ok X G (c.says.fact 21 (f := .glo "_law_outcome") rfl)
theorem g__law_spoilt (c : Ct w K mg) : mg "_law_spoilt" = some (.ref (He.ga K "_law_spoilt")) := by
  obtain ⟨h, X, G⟩ := c.gl
  exact He.glo_ok X G (c.says.fact 22 (f := .glo "_law_spoilt") rfl)
theorem g_law (c : Ct w K mg) : mg "law" = some (.ref (He.ga K "law")) := by
  obtain ⟨h, X, G⟩ := c.gl
  exact He.glo_ok X G (c.says.fact 23 (f := .glo "law") rfl)
theorem g_BadQuery (c : Ct w K mg) : mg "BadQuery" = some (.ref (He.ga K "BadQuery")) := by
  obtain ⟨h, X, G⟩ := c.gl
  exact He.glo_ok X G (c.says.fact 24 (f := .glo "BadQuery") rfl)
theorem g_BadEscape (c : Ct w K mg) : mg "BadEscape" = some (.ref (He.ga K "BadEscape")) := by
  obtain ⟨h, X, G⟩ := c.gl
  exact He.glo_ok X G (c.says.fact 25 (f := .glo "BadEscape") rfl)
theorem g_NoText (c : Ct w K mg) : mg "NoText" = some (.ref (He.ga K "NoText")) := by
  obtain ⟨h, X, G⟩ := c.gl
  exact He.glo_ok X G (c.says.fact 26 (f := .glo "NoText") rfl)
theorem b_TypeError (c : Ct w K mg) : mg "TypeError" = none := by
  obtain ⟨h, X, G⟩ := c.gl
  exact He.free_ok X G (c.says.fact 27 (f := .free "TypeError") rfl)
theorem b_ValueError (c : Ct w K mg) : mg "ValueError" = none := by
  obtain ⟨h, X, G⟩ := c.gl
  exact He.free_ok X G (c.says.fact 28 (f := .free "ValueError") rfl)
theorem b_abs (c : Ct w K mg) : mg "abs" = none := by
  obtain ⟨h, X, G⟩ := c.gl
  exact He.free_ok X G (c.says.fact 29 (f := .free "abs") rfl)
theorem b_all (c : Ct w K mg) : mg "all" = none := by
  obtain ⟨h, X, G⟩ := c.gl
  exact He.free_ok X G (c.says.fact 30 (f := .free "all") rfl)
theorem b_enumerate (c : Ct w K mg) : mg "enumerate" = none := by
  obtain ⟨h, X, G⟩ := c.gl
  exact He.free_ok X G (c.says.fact 31 (f := .free "enumerate") rfl)
theorem b_int (c : Ct w K mg) : mg "int" = none := by
  obtain ⟨h, X, G⟩ := c.gl
  exact He.free_ok X G (c.says.fact 32 (f := .free "int") rfl)
theorem b_isinstance (c : Ct w K mg) : mg "isinstance" = none := by
  obtain ⟨h, X, G⟩ := c.gl
  exact He.free_ok X G (c.says.fact 33 (f := .free "isinstance") rfl)
theorem b_len (c : Ct w K mg) : mg "len" = none := by
  obtain ⟨h, X, G⟩ := c.gl
  exact He.free_ok X G (c.says.fact 34 (f := .free "len") rfl)
theorem b_max (c : Ct w K mg) : mg "max" = none := by
  obtain ⟨h, X, G⟩ := c.gl
  exact He.free_ok X G (c.says.fact 35 (f := .free "max") rfl)
theorem b_min (c : Ct w K mg) : mg "min" = none := by
  obtain ⟨h, X, G⟩ := c.gl
  exact He.free_ok X G (c.says.fact 36 (f := .free "min") rfl)
theorem b_ord (c : Ct w K mg) : mg "ord" = none := by
  obtain ⟨h, X, G⟩ := c.gl
  exact He.free_ok X G (c.says.fact 37 (f := .free "ord") rfl)
theorem b_range (c : Ct w K mg) : mg "range" = none := by
  obtain ⟨h, X, G⟩ := c.gl
  exact He.free_ok X G (c.says.fact 38 (f := .free "range") rfl)
theorem b_str (c : Ct w K mg) : mg "str" = none := by
  obtain ⟨h, X, G⟩ := c.gl
  exact He.free_ok X G (c.says.fact 39 (f := .free "str") rfl)
theorem b_tuple (c : Ct w K mg) : mg "tuple" = none := by
  obtain ⟨h, X, G⟩ := c.gl
  exact He.free_ok X G (c.says.fact 40 (f := .free "tuple") rfl)
theorem c_HEXADECIMAL (c : Ct w K mg) : ∃ u, mg "HEXADECIMAL" = some u ∧ RelV (.str "0123456789ABCDEFabcdef") u := by
  obtain ⟨h, X, G⟩ := c.gl
  obtain ⟨t, e⟩ := He.str_ok X G (c.says.fact 41 (f := .str "HEXADECIMAL" "0123456789ABCDEFabcdef") rfl)
  exact ⟨_, e, ⟨_, rfl⟩⟩
theorem c_ESCAPE_SIZE (c : Ct w K mg) : ∃ u, mg "ESCAPE_SIZE" = some u ∧ RelV (.int 3) u := by
  obtain ⟨h, X, G⟩ := c.gl
  obtain ⟨t, e⟩ := He.int_ok X G (c.says.fact 42 (f := .int "ESCAPE_SIZE" 3) rfl)
  exact ⟨_, e, ⟨_, rfl⟩⟩
theorem c_SIGNS (c : Ct w K mg) : ∃ u, mg "SIGNS" = some u ∧ RelV (.str " !\"#$&'()*+,-./0123456789:;<=>?@ABCDEFGHIJKLMNOPQRSTUVWXYZ[\\]^_`abcdefghijklmnopqrstuvwxyz{|}~") u := by
  obtain ⟨h, X, G⟩ := c.gl
  obtain ⟨t, e⟩ := He.str_ok X G (c.says.fact 43 (f := .str "SIGNS" " !\"#$&'()*+,-./0123456789:;<=>?@ABCDEFGHIJKLMNOPQRSTUVWXYZ[\\]^_`abcdefghijklmnopqrstuvwxyz{|}~") rfl)
  exact ⟨_, e, ⟨_, rfl⟩⟩
theorem noat_BadQuery_place (c : Ct w K mg) : NoAttr K (He.ga K "BadQuery") "place" := He.noat_ok (c.says.fact 44 (f := .noat "BadQuery" "place") rfl)
theorem noat_BadEscape_place (c : Ct w K mg) : NoAttr K (He.ga K "BadEscape") "place" := He.noat_ok (c.says.fact 45 (f := .noat "BadEscape" "place") rfl)
theorem noat_NoText_value (c : Ct w K mg) : NoAttr K (He.ga K "NoText") "value" := He.noat_ok (c.says.fact 46 (f := .noat "NoText" "value") rfl)
theorem exm_BadQuery_NoText (c : Ct w K mg) : PySem.W.exmOne K (.ref (He.ga K "BadQuery")) (.ref (He.ga K "NoText")) = some false := He.exm_ok (c.says.fact 47 (f := .exm "BadQuery" "NoText" false) rfl)
theorem exm_BadEscape_NoText (c : Ct w K mg) : PySem.W.exmOne K (.ref (He.ga K "BadEscape")) (.ref (He.ga K "NoText")) = some false := He.exm_ok (c.says.fact 48 (f := .exm "BadEscape" "NoText" false) rfl)
theorem exm_NoText_NoText (c : Ct w K mg) : PySem.W.exmOne K (.ref (He.ga K "NoText")) (.ref (He.ga K "NoText")) = some true := He.exm_ok (c.says.fact 49 (f := .exm "NoText" "NoText" true) rfl)
theorem exm_NoText_BadQuery (c : Ct w K mg) : PySem.W.exmOne K (.ref (He.ga K "NoText")) (.ref (He.ga K "BadQuery")) = some false := He.exm_ok (c.says.fact 50 (f := .exm "NoText" "BadQuery" false) rfl)
theorem exm_NoText_BadEscape (c : Ct w K mg) : PySem.W.exmOne K (.ref (He.ga K "NoText")) (.ref (He.ga K "BadEscape")) = some false := He.exm_ok (c.says.fact 51 (f := .exm "NoText" "BadEscape" false) rfl)
theorem exm_BadQuery_BadQuery (c : Ct w K mg) : PySem.W.exmOne K (.ref (He.ga K "BadQuery")) (.ref (He.ga K "BadQuery")) = some true := He.exm_ok (c.says.fact 52 (f := .exm "BadQuery" "BadQuery" true) rfl)
theorem exm_BadQuery_BadEscape (c : Ct w K mg) : PySem.W.exmOne K (.ref (He.ga K "BadQuery")) (.ref (He.ga K "BadEscape")) = some false := He.exm_ok (c.says.fact 53 (f := .exm "BadQuery" "BadEscape" false) rfl)
theorem exm_BadEscape_BadQuery (c : Ct w K mg) : PySem.W.exmOne K (.ref (He.ga K "BadEscape")) (.ref (He.ga K "BadQuery")) = some false := He.exm_ok (c.says.fact 54 (f := .exm "BadEscape" "BadQuery" false) rfl)
theorem exm_BadEscape_BadEscape (c : Ct w K mg) : PySem.W.exmOne K (.ref (He.ga K "BadEscape")) (.ref (He.ga K "BadEscape")) = some true := He.exm_ok (c.says.fact 55 (f := .exm "BadEscape" "BadEscape" true) rfl)
theorem F_octets (c : Ct w K mg) : ∃ fd, FunD K d_octets.name d_octets.qual d_octets.params d_octets.body d_octets.scope (d_octets.dvs K) (d_octets.kws K) (d_octets.at_ K) fd := c.says.def_ 0 (d := d_octets) rfl
theorem k_octets (c : Ct w K mg) : PySem.W.keepIn K (.ref (d_octets.at_ K)) = true := (F_octets c).choose_spec.kp
theorem sc_octets : FnScope ["text", "numbers", "place", "piece"] ["text"] (defScope s_octets) := ⟨rfl, rfl, rfl, by decide +kernel, rfl, by decide +kernel, by decide +kernel⟩
theorem F_begins_with_octet (c : Ct w K mg) : ∃ fd, FunD K d_begins_with_octet.name d_begins_with_octet.qual d_begins_with_octet.params d_begins_with_octet.body d_begins_with_octet.scope (d_begins_with_octet.dvs K) (d_begins_with_octet.kws K) (d_begins_with_octet.at_ K) fd := c.says.def_ 1 (d := d_begins_with_octet) rfl
theorem k_begins_with_octet (c : Ct w K mg) : PySem.W.keepIn K (.ref (d_begins_with_octet.at_ K)) = true := (F_begins_with_octet c).choose_spec.kp
theorem sc_begins_with_octet : FnScope ["text"] ["text"] (defScope s_begins_with_octet) := ⟨rfl, rfl, rfl, by decide +kernel, rfl, by decide +kernel, by decide +kernel⟩
theorem F_pieces_of (c : Ct w K mg) : ∃ fd, FunD K d_pieces_of.name d_pieces_of.qual d_pieces_of.params d_pieces_of.body d_pieces_of.scope (d_pieces_of.dvs K) (d_pieces_of.kws K) (d_pieces_of.at_ K) fd := c.says.def_ 2 (d := d_pieces_of) rfl
theorem k_pieces_of (c : Ct w K mg) : PySem.W.keepIn K (.ref (d_pieces_of.at_ K)) = true := (F_pieces_of c).choose_spec.kp
theorem sc_pieces_of : FnScope ["text", "found", "at", "is_escape", "piece"] ["text"] (defScope s_pieces_of) := ⟨rfl, rfl, rfl, by decide +kernel, rfl, by decide +kernel, by decide +kernel⟩
theorem F_pairs (c : Ct w K mg) : ∃ fd, FunD K d_pairs.name d_pairs.qual d_pairs.params d_pairs.body d_pairs.scope (d_pairs.dvs K) (d_pairs.kws K) (d_pairs.at_ K) fd := c.says.def_ 3 (d := d_pairs) rfl
theorem k_pairs (c : Ct w K mg) : PySem.W.keepIn K (.ref (d_pairs.at_ K)) = true := (F_pairs c).choose_spec.kp
theorem sc_pairs : FnScope ["query", "sign", "signs", "place", "piece", "item"] ["query"] (defScope s_pairs) := ⟨rfl, rfl, rfl, by decide +kernel, rfl, by decide +kernel, by decide +kernel⟩
theorem F_values_of (c : Ct w K mg) : ∃ fd, FunD K d_values_of.name d_values_of.qual d_values_of.params d_values_of.body d_values_of.scope (d_values_of.dvs K) (d_values_of.kws K) (d_values_of.at_ K) fd := c.says.def_ 4 (d := d_values_of) rfl
theorem k_values_of (c : Ct w K mg) : PySem.W.keepIn K (.ref (d_values_of.at_ K)) = true := (F_values_of c).choose_spec.kp
theorem sc_values_of : FnScope ["query", "key", "default", "name", "value", "found"] ["query", "key", "default"] (defScope s_values_of) := ⟨rfl, rfl, rfl, by decide +kernel, rfl, by decide +kernel, by decide +kernel⟩
theorem F__pair (c : Ct w K mg) : ∃ fd, FunD K d__pair.name d__pair.qual d__pair.params d__pair.body d__pair.scope (d__pair.dvs K) (d__pair.kws K) (d__pair.at_ K) fd := c.says.def_ 5 (d := d__pair) rfl
theorem k__pair (c : Ct w K mg) : PySem.W.keepIn K (.ref (d__pair.at_ K)) = true := (F__pair c).choose_spec.kp
theorem sc__pair : FnScope ["item", "signs", "key", "mark", "value"] ["item", "signs"] (defScope s__pair) := ⟨rfl, rfl, rfl, by decide +kernel, rfl, by decide +kernel, by decide +kernel⟩
theorem F__read (c : Ct w K mg) : ∃ fd, FunD K d__read.name d__read.qual d__read.params d__read.body d__read.scope (d__read.dvs K) (d__read.kws K) (d__read.at_ K) fd := c.says.def_ 6 (d := d__read) rfl
theorem k__read (c : Ct w K mg) : PySem.W.keepIn K (.ref (d__read.at_ K)) = true := (F__read c).choose_spec.kp
theorem sc__read : FnScope ["text", "signs", "number"] ["text", "signs"] (defScope s__read) := ⟨rfl, rfl, rfl, by decide +kernel, rfl, by decide +kernel, by decide +kernel⟩
theorem F__law_bag (c : Ct w K mg) : ∃ fd, FunD K d__law_bag.name d__law_bag.qual d__law_bag.params d__law_bag.body d__law_bag.scope (d__law_bag.dvs K) (d__law_bag.kws K) (d__law_bag.at_ K) fd := c.says.def_ 7 (d := d__law_bag) rfl
theorem k__law_bag (c : Ct w K mg) : PySem.W.keepIn K (.ref (d__law_bag.at_ K)) = true := (F__law_bag c).choose_spec.kp
theorem sc__law_bag : FnScope ["script", "at", "cell", "mixed", "spot", "each"] ["script", "at"] (defScope s__law_bag) := ⟨rfl, rfl, rfl, by decide +kernel, rfl, by decide +kernel, by decide +kernel⟩
theorem F__law_take (c : Ct w K mg) : ∃ fd, FunD K d__law_take.name d__law_take.qual d__law_take.params d__law_take.body d__law_take.scope (d__law_take.dvs K) (d__law_take.kws K) (d__law_take.at_ K) fd := c.says.def_ 8 (d := d__law_take) rfl
theorem k__law_take (c : Ct w K mg) : PySem.W.keepIn K (.ref (d__law_take.at_ K)) = true := (F__law_take c).choose_spec.kp
theorem sc__law_take : FnScope ["bag", "many", "digit"] ["bag", "many"] (defScope s__law_take) := ⟨rfl, rfl, rfl, by decide +kernel, rfl, by decide +kernel, by decide +kernel⟩
theorem F__law_signs (c : Ct w K mg) : ∃ fd, FunD K d__law_signs.name d__law_signs.qual d__law_signs.params d__law_signs.body d__law_signs.scope (d__law_signs.dvs K) (d__law_signs.kws K) (d__law_signs.at_ K) fd := c.says.def_ 9 (d := d__law_signs) rfl
theorem k__law_signs (c : Ct w K mg) : PySem.W.keepIn K (.ref (d__law_signs.at_ K)) = true := (F__law_signs c).choose_spec.kp
theorem sc__law_signs : FnScope [] [] (defScope s__law_signs) := ⟨rfl, rfl, rfl, by decide +kernel, rfl, by decide +kernel, by decide +kernel⟩
theorem F__law_plain (c : Ct w K mg) : ∃ fd, FunD K d__law_plain.name d__law_plain.qual d__law_plain.params d__law_plain.body d__law_plain.scope (d__law_plain.dvs K) (d__law_plain.kws K) (d__law_plain.at_ K) fd := c.says.def_ 10 (d := d__law_plain) rfl
theorem k__law_plain (c : Ct w K mg) : PySem.W.keepIn K (.ref (d__law_plain.at_ K)) = true := (F__law_plain c).choose_spec.kp
theorem sc__law_plain : FnScope [] [] (defScope s__law_plain) := ⟨rfl, rfl, rfl, by decide +kernel, rfl, by decide +kernel, by decide +kernel⟩
theorem F__law_sign (c : Ct w K mg) : ∃ fd, FunD K d__law_sign.name d__law_sign.qual d__law_sign.params d__law_sign.body d__law_sign.scope (d__law_sign.dvs K) (d__law_sign.kws K) (d__law_sign.at_ K) fd := c.says.def_ 11 (d := d__law_sign) rfl
theorem k__law_sign (c : Ct w K mg) : PySem.W.keepIn K (.ref (d__law_sign.at_ K)) = true := (F__law_sign c).choose_spec.kp
theorem sc__law_sign : FnScope ["code"] ["code"] (defScope s__law_sign) := ⟨rfl, rfl, rfl, by decide +kernel, rfl, by decide +kernel, by decide +kernel⟩
theorem F__law_is_escape (c : Ct w K mg) : ∃ fd, FunD K d__law_is_escape.name d__law_is_escape.qual d__law_is_escape.params d__law_is_escape.body d__law_is_escape.scope (d__law_is_escape.dvs K) (d__law_is_escape.kws K) (d__law_is_escape.at_ K) fd := c.says.def_ 12 (d := d__law_is_escape) rfl
theorem k__law_is_escape (c : Ct w K mg) : PySem.W.keepIn K (.ref (d__law_is_escape.at_ K)) = true := (F__law_is_escape c).choose_spec.kp
theorem sc__law_is_escape : FnScope ["text", "at", "pair", "sign"] ["text", "at"] (defScope s__law_is_escape) := ⟨rfl, rfl, rfl, by decide +kernel, rfl, by decide +kernel, by decide +kernel⟩
theorem F__law_octet (c : Ct w K mg) : ∃ fd, FunD K d__law_octet.name d__law_octet.qual d__law_octet.params d__law_octet.body d__law_octet.scope (d__law_octet.dvs K) (d__law_octet.kws K) (d__law_octet.at_ K) fd := c.says.def_ 13 (d := d__law_octet) rfl
theorem k__law_octet (c : Ct w K mg) : PySem.W.keepIn K (.ref (d__law_octet.at_ K)) = true := (F__law_octet c).choose_spec.kp
theorem sc__law_octet : FnScope ["text", "at", "digits", "pair"] ["text", "at"] (defScope s__law_octet) := ⟨rfl, rfl, rfl, by decide +kernel, rfl, by decide +kernel, by decide +kernel⟩
theorem F__law_escape (c : Ct w K mg) : ∃ fd, FunD K d__law_escape.name d__law_escape.qual d__law_escape.params d__law_escape.body d__law_escape.scope (d__law_escape.dvs K) (d__law_escape.kws K) (d__law_escape.at_ K) fd := c.says.def_ 14 (d := d__law_escape) rfl
theorem k__law_escape (c : Ct w K mg) : PySem.W.keepIn K (.ref (d__law_escape.at_ K)) = true := (F__law_escape c).choose_spec.kp
theorem sc__law_escape : FnScope ["octet", "is_small", "pair"] ["octet", "is_small"] (defScope s__law_escape) := ⟨rfl, rfl, rfl, by decide +kernel, rfl, by decide +kernel, by decide +kernel⟩
theorem F__law_pieces (c : Ct w K mg) : ∃ fd, FunD K d__law_pieces.name d__law_pieces.qual d__law_pieces.params d__law_pieces.body d__law_pieces.scope (d__law_pieces.dvs K) (d__law_pieces.kws K) (d__law_pieces.at_ K) fd := c.says.def_ 15 (d := d__law_pieces) rfl
theorem k__law_pieces (c : Ct w K mg) : PySem.W.keepIn K (.ref (d__law_pieces.at_ K)) = true := (F__law_pieces c).choose_spec.kp
theorem sc__law_pieces : FnScope ["text", "found", "at", "size"] ["text"] (defScope s__law_pieces) := ⟨rfl, rfl, rfl, by decide +kernel, rfl, by decide +kernel, by decide +kernel⟩
theorem F__law_drawn_text (c : Ct w K mg) : ∃ fd, FunD K d__law_drawn_text.name d__law_drawn_text.qual d__law_drawn_text.params d__law_drawn_text.body d__law_drawn_text.scope (d__law_drawn_text.dvs K) (d__law_drawn_text.kws K) (d__law_drawn_text.at_ K) fd := c.says.def_ 16 (d := d__law_drawn_text) rfl
theorem k__law_drawn_text (c : Ct w K mg) : PySem.W.keepIn K (.ref (d__law_drawn_text.at_ K)) = true := (F__law_drawn_text c).choose_spec.kp
theorem sc__law_drawn_text : FnScope ["bag", "signs", "most", "found", "turn", "way"] ["bag", "signs", "most"] (defScope s__law_drawn_text) := ⟨rfl, rfl, rfl, by decide +kernel, rfl, by decide +kernel, by decide +kernel⟩
theorem F__law_query (c : Ct w K mg) : ∃ fd, FunD K d__law_query.name d__law_query.qual d__law_query.params d__law_query.body d__law_query.scope (d__law_query.dvs K) (d__law_query.kws K) (d__law_query.at_ K) fd := c.says.def_ 17 (d := d__law_query) rfl
theorem k__law_query (c : Ct w K mg) : PySem.W.keepIn K (.ref (d__law_query.at_ K)) = true := (F__law_query c).choose_spec.kp
theorem sc__law_query : FnScope ["bag", "most", "signs", "found", "turn", "item", "piece", "is_odd"] ["bag", "most"] (defScope s__law_query) := ⟨rfl, rfl, rfl, by decide +kernel, rfl, by decide +kernel, by decide +kernel⟩
theorem F__law_bare (c : Ct w K mg) : ∃ fd, FunD K d__law_bare.name d__law_bare.qual d__law_bare.params d__law_bare.body d__law_bare.scope (d__law_bare.dvs K) (d__law_bare.kws K) (d__law_bare.at_ K) fd := c.says.def_ 18 (d := d__law_bare) rfl
theorem k__law_bare (c : Ct w K mg) : PySem.W.keepIn K (.ref (d__law_bare.at_ K)) = true := (F__law_bare c).choose_spec.kp
theorem sc__law_bare : FnScope ["text", "found", "piece"] ["text"] (defScope s__law_bare) := ⟨rfl, rfl, rfl, by decide +kernel, rfl, by decide +kernel, by decide +kernel⟩
theorem F__law_pairs (c : Ct w K mg) : ∃ fd, FunD K d__law_pairs.name d__law_pairs.qual d__law_pairs.params d__law_pairs.body d__law_pairs.scope (d__law_pairs.dvs K) (d__law_pairs.kws K) (d__law_pairs.at_ K) fd := c.says.def_ 19 (d := d__law_pairs) rfl
theorem k__law_pairs (c : Ct w K mg) : PySem.W.keepIn K (.ref (d__law_pairs.at_ K)) = true := (F__law_pairs c).choose_spec.kp
theorem sc__law_pairs : FnScope ["text", "found", "item", "head", "sign", "tail"] ["text"] (defScope s__law_pairs) := ⟨rfl, rfl, rfl, by decide +kernel, rfl, by decide +kernel, by decide +kernel⟩
theorem F__law_first_wrong (c : Ct w K mg) : ∃ fd, FunD K d__law_first_wrong.name d__law_first_wrong.qual d__law_first_wrong.params d__law_first_wrong.body d__law_first_wrong.scope (d__law_first_wrong.dvs K) (d__law_first_wrong.kws K) (d__law_first_wrong.at_ K) fd := c.says.def_ 20 (d := d__law_first_wrong) rfl
theorem k__law_first_wrong (c : Ct w K mg) : PySem.W.keepIn K (.ref (d__law_first_wrong.at_ K)) = true := (F__law_first_wrong c).choose_spec.kp
theorem sc__law_first_wrong : FnScope ["text", "at", "piece"] ["text"] (defScope s__law_first_wrong) := ⟨rfl, rfl, rfl, by decide +kernel, rfl, by decide +kernel, by decide +kernel⟩
theorem F__law_outcome (c : Ct w K mg) : ∃ fd, FunD K d__law_outcome.name d__law_outcome.qual d__law_outcome.params d__law_outcome.body d__law_outcome.scope (d__law_outcome.dvs K) (d__law_outcome.kws K) (d__law_outcome.at_ K) fd := c.says.def_ 21 (d := d__law_outcome) rfl
theorem k__law_outcome (c : Ct w K mg) : PySem.W.keepIn K (.ref (d__law_outcome.at_ K)) = true := (F__law_outcome c).choose_spec.kp
theorem sc__law_outcome : FnScope ["deed", "e"] ["deed"] (defScope s__law_outcome) := ⟨rfl, rfl, rfl, by decide +kernel, rfl, by decide +kernel, by decide +kernel⟩
theorem F__law_spoilt (c : Ct w K mg) : ∃ fd, FunD K d__law_spoilt.name d__law_spoilt.qual d__law_spoilt.params d__law_spoilt.body d__law_spoilt.scope (d__law_spoilt.dvs K) (d__law_spoilt.kws K) (d__law_spoilt.at_ K) fd := c.says.def_ 22 (d := d__law_spoilt) rfl
theorem k__law_spoilt (c : Ct w K mg) : PySem.W.keepIn K (.ref (d__law_spoilt.at_ K)) = true := (F__law_spoilt c).choose_spec.kp
theorem sc__law_spoilt : FnScope ["bag", "text", "pieces", "turn", "codes", "code", "at"] ["bag", "text"] (defScope s__law_spoilt) := ⟨rfl, rfl, rfl, by decide +kernel, rfl, by decide +kernel, by decide +kernel⟩
theorem F_law (c : Ct w K mg) : ∃ fd, FunD K d_law.name d_law.qual d_law.params d_law.body d_law.scope (d_law.dvs K) (d_law.kws K) (d_law.at_ K) fd := c.says.def_ 23 (d := d_law) rfl
theorem k_law (c : Ct w K mg) : PySem.W.keepIn K (.ref (d_law.at_ K)) = true := (F_law c).choose_spec.kp
theorem sc_law : FnScope ["script", "k", "bag", "turn", "text", "wrong", "due", "head", "due_here", "other", "tail"] ["script"] (defScope s_law) := ⟨rfl, rfl, rfl, by decide +kernel, rfl, by decide +kernel, by decide +kernel⟩
theorem F_BadQuery___init__ (c : Ct w K mg) : ∃ fd, FunD K d_BadQuery___init__.name d_BadQuery___init__.qual d_BadQuery___init__.params d_BadQuery___init__.body d_BadQuery___init__.scope (d_BadQuery___init__.dvs K) (d_BadQuery___init__.kws K) (d_BadQuery___init__.at_ K) fd := c.says.def_ 24 (d := d_BadQuery___init__) rfl
theorem k_BadQuery___init__ (c : Ct w K mg) : PySem.W.keepIn K (.ref (d_BadQuery___init__.at_ K)) = true := (F_BadQuery___init__ c).choose_spec.kp
theorem sc_BadQuery___init__ : FnScope ["self", "place"] ["self", "place"] (defScope s_BadQuery___init__) := ⟨rfl, rfl, rfl, by decide +kernel, rfl, by decide +kernel, by decide +kernel⟩
theorem F_BadEscape___init__ (c : Ct w K mg) : ∃ fd, FunD K d_BadEscape___init__.name d_BadEscape___init__.qual d_BadEscape___init__.params d_BadEscape___init__.body d_BadEscape___init__.scope (d_BadEscape___init__.dvs K) (d_BadEscape___init__.kws K) (d_BadEscape___init__.at_ K) fd := c.says.def_ 25 (d := d_BadEscape___init__) rfl
theorem k_BadEscape___init__ (c : Ct w K mg) : PySem.W.keepIn K (.ref (d_BadEscape___init__.at_ K)) = true := (F_BadEscape___init__ c).choose_spec.kp
theorem sc_BadEscape___init__ : FnScope ["self", "place"] ["self", "place"] (defScope s_BadEscape___init__) := ⟨rfl, rfl, rfl, by decide +kernel, rfl, by decide +kernel, by decide +kernel⟩
theorem F_NoText___init__ (c : Ct w K mg) : ∃ fd, FunD K d_NoText___init__.name d_NoText___init__.qual d_NoText___init__.params d_NoText___init__.body d_NoText___init__.scope (d_NoText___init__.dvs K) (d_NoText___init__.kws K) (d_NoText___init__.at_ K) fd := c.says.def_ 26 (d := d_NoText___init__) rfl
theorem k_NoText___init__ (c : Ct w K mg) : PySem.W.keepIn K (.ref (d_NoText___init__.at_ K)) = true := (F_NoText___init__ c).choose_spec.kp
theorem sc_NoText___init__ : FnScope ["self", "value"] ["self", "value"] (defScope s_NoText___init__) := ⟨rfl, rfl, rfl, by decide +kernel, rfl, by decide +kernel, by decide +kernel⟩
theorem oex_BadQuery (c : Ct w K mg) : OexC K (He.ga K "BadQuery") := Hc.oexB_ok (c.says.more 0 (e := (fun K => Hc.oexB K (He.ga K "BadQuery"))) rfl)
theorem xf_BadQuery (c : Ct w K mg) : XfC K (He.ga K "BadQuery") := xfB_ok (c.says.more 1 (e := (fun K => xfB K (He.ga K "BadQuery"))) rfl)
theorem ini_BadQuery (c : Ct w K mg) : PySem.W.findIn K (.ref (He.ga K "BadQuery")) "__init__" = some (some (.ref (He.ma K (He.ga K "BadQuery") "__init__"))) ∧ PySem.W.typeIn K (.ref (He.ma K (He.ga K "BadQuery") "__init__")) = some (.type "function") := Hc.iniB_ok (c.says.more 2 (e := (fun K => Hc.iniB K (He.ga K "BadQuery") (He.ma K (He.ga K "BadQuery") "__init__"))) rfl)
theorem oex_BadEscape (c : Ct w K mg) : OexC K (He.ga K "BadEscape") := Hc.oexB_ok (c.says.more 3 (e := (fun K => Hc.oexB K (He.ga K "BadEscape"))) rfl)
theorem xf_BadEscape (c : Ct w K mg) : XfC K (He.ga K "BadEscape") := xfB_ok (c.says.more 4 (e := (fun K => xfB K (He.ga K "BadEscape"))) rfl)
theorem ini_BadEscape (c : Ct w K mg) : PySem.W.findIn K (.ref (He.ga K "BadEscape")) "__init__" = some (some (.ref (He.ma K (He.ga K "BadEscape") "__init__"))) ∧ PySem.W.typeIn K (.ref (He.ma K (He.ga K "BadEscape") "__init__")) = some (.type "function") := Hc.iniB_ok (c.says.more 5 (e := (fun K => Hc.iniB K (He.ga K "BadEscape") (He.ma K (He.ga K "BadEscape") "__init__"))) rfl)
theorem oxa_NoText (c : Ct w K mg) : OexA K (He.ga K "NoText") := oexAB_ok (c.says.more 6 (e := (fun K => oexAB K (He.ga K "NoText"))) rfl)
theorem xf_NoText (c : Ct w K mg) : XfC K (He.ga K "NoText") := xfB_ok (c.says.more 7 (e := (fun K => xfB K (He.ga K "NoText"))) rfl)
theorem ini_NoText (c : Ct w K mg) : PySem.W.findIn K (.ref (He.ga K "NoText")) "__init__" = some (some (.ref (He.ma K (He.ga K "NoText") "__init__"))) ∧ PySem.W.typeIn K (.ref (He.ma K (He.ga K "NoText") "__init__")) = some (.type "function") := Hc.iniB_ok (c.says.more 8 (e := (fun K => Hc.iniB K (He.ga K "NoText") (He.ma K (He.ga K "NoText") "__init__"))) rfl)
theorem kwt_values_of_default (c : Ct w K mg) (H : Hp) : SqT K H (kwAt "values_of" "default" K) (([] : List Str).map V.str) := Hc.tupSB_ok (c.says.more 9 (e := (fun K => Hc.tupSB K (kwAt "values_of" "default" K) [])) rfl) H
end
end Fx
set_option Elab.async false
set_option linter.all false
set_option maxRecDepth 100000
/-! Mi: the mathematics of parts and their wrong places, over lists of codes. -/
namespace Mi
open PySem PySem.Builtin PySem.Builtin.Str PySem.StrLaws L2 TL
abbrev T := List Nat
/-! ### signs -/
def LETT : T := tl "ABCDEFGHIJKLMNOPQRSTUVWXYZabcdefghijklmnopqrstuvwxyz"
def DIGT : T := tl "0123456789"
def HEXT : T := tl "0123456789ABCDEFabcdef"
def PLNT : T := tl "-.0123456789ABCDEFGHIJKLMNOPQRSTUVWXYZ_abcdefghijklmnopqrstuvwxyz~"
def INNT : T := tl "!$&'()*+,;="
/-- the length of the longest beginning of signs of S -/
def fo (l S : T) : Nat := (l.takeWhile S.contains).length
def hex2 : T → Bool
  | a :: b :: _ => HEXT.contains a && HEXT.contains b
  | _ => false
theorem fo_le (l S : T) : fo l S ≤ l.length := by
  unfold fo
  induction l with
  | nil => exact Nat.le_refl _
  | cons c r ih =>
    rw [List.takeWhile_cons]
    split
    · simp only [List.length_cons]; omega
    · simp
theorem fo_nil (S : T) : fo [] S = 0 := rfl
theorem fo_in {c : Nat} {r S : T} (h : S.contains c = true) : fo (c :: r) S = fo r S + 1 := by
  unfold fo; rw [List.takeWhile_cons, if_pos h]; rfl
theorem fo_out {c : Nat} {r S : T} (h : S.contains c = false) : fo (c :: r) S = 0 := by
  unfold fo; rw [List.takeWhile_cons, if_neg (by rw [h]; exact Bool.false_ne_true)]; rfl
/-- the sign at the first other place is none of S; all ahead of it are -/
theorem fo_at {l S : T} (h : fo l S < l.length) : ∃ c, l[fo l S]? = some c ∧ S.contains c = false := by
  induction l with
  | nil => exact absurd h (Nat.lt_irrefl _)
  | cons c r ih =>
    cases hc : S.contains c with
    | true =>
      rw [fo_in hc] at h ⊢
      obtain ⟨d, h1, h2⟩ := ih (by simpa using h)
      exact ⟨d, by simpa using h1, h2⟩
    | false =>
      rw [fo_out hc]
      exact ⟨c, rfl, hc⟩
theorem fo_before {l S : T} {i : Nat} (h : i < fo l S) : ∃ c, l[i]? = some c ∧ S.contains c = true := by
  induction l generalizing i with
  | nil => exact absurd h (Nat.not_lt_zero _)
  | cons c r ih =>
    cases hc : S.contains c with
    | true =>
      rw [fo_in hc] at h
      cases i with
      | zero => exact ⟨c, rfl, hc⟩
      | succ i =>
        obtain ⟨d, h1, h2⟩ := ih (i := i) (by omega)
        exact ⟨d, by simpa using h1, h2⟩
    | false =>
      rw [fo_out hc] at h
      exact absurd h (Nat.not_lt_zero _)
theorem lstrip_tl (x y : Str) : tl (Txt.lstripChars x y) = (tl x).drop (fo (tl x) (tl y)) := by
  have hg : stripLo y.cps.contains true x = fo (tl x) (tl y) := by
    unfold stripLo fo
    rw [if_pos rfl]
    congr 2
    funext c
    show y.cps.contains c = (tl y).contains c
    simp [tl]
  have hh : ∀ lo, stripHi y.cps.contains false x lo = x.length := fun lo => by unfold stripHi; rw [if_neg Bool.false_ne_true]
  unfold Txt.lstripChars Txt.stripBy
  split
  · rename_i h
    unfold stripSame at h
    rw [hg, hh] at h
    have h0 : fo (tl x) (tl y) = 0 := by simpa using h
    rw [h0]; rfl
  · unfold stripped
    rw [hg, hh, tl_strSub_end]
theorem lstrip_len (x y : Str) : (x.length : Int) - ((Txt.lstripChars x y).length : Int) = (fo (tl x) (tl y) : Int) := by
  rw [len_tl x, len_tl (Txt.lstripChars x y), lstrip_tl, List.length_drop]
  have := fo_le (tl x) (tl y)
  omega
/-! ### a text cut at one sign -/
/-- the pieces between the signs c -/
def cut (c : Nat) : T → List T
  | [] => [[]]
  | d :: r => if d = c then [] :: cut c r else match cut c r with
    | p :: ps => (d :: p) :: ps
    | [] => [[d]]
theorem cut_ne (c : Nat) (l : T) : cut c l ≠ [] := by
  cases l with
  | nil => exact List.cons_ne_nil _ _
  | cons d r =>
    unfold cut
    split
    · exact List.cons_ne_nil _ _
    · split <;> exact List.cons_ne_nil _ _
theorem cut_hit (c : Nat) (r : T) : cut c (c :: r) = [] :: cut c r := by
  conv => lhs; unfold cut
  rw [if_pos rfl]
theorem cut_miss {c d : Nat} (h : d ≠ c) (r : T) : cut c (d :: r) = (match cut c r with | p :: ps => (d :: p) :: ps | [] => [[d]]) := by
  conv => lhs; unfold cut
  rw [if_neg h]
theorem spl_cut (c : Nat) : ∀ (l acc : T), spl [c] 0 acc l = (match cut c l with | p :: ps => (acc ++ p) :: ps | [] => [acc])
  | [], acc => by
    rw [spl_nil]
    show [acc] = [acc ++ []]
    rw [List.append_nil]
  | d :: r, acc => by
    by_cases h : d = c
    · subst h
      have hp : pre [d] (d :: r) = true := by simp [pre]
      rw [spl_hit hp]
      show acc :: spl [d] 0 [] r = _
      rw [spl_cut d r [], cut_hit]
      show _ = (acc ++ []) :: cut d r
      rw [List.append_nil]
      cases e : cut d r with
      | nil => exact absurd e (cut_ne d r)
      | cons p ps => rfl
    · have hp : pre [c] (d :: r) = false := by simp [pre, h]
      rw [spl_miss hp, spl_cut c r (acc ++ [d])]
      rw [cut_miss h]
      cases e : cut c r with
      | nil => exact absurd e (cut_ne c r)
      | cons p ps =>
        show (acc ++ [d] ++ p) :: ps = (acc ++ d :: p) :: ps
        rw [List.append_assoc]; rfl
theorem split_cut (x : Str) (c : Nat) (hc : c < 256) : (Txt.split x ⟨#[c]⟩).map tl = cut c (tl x) := by
  have h := split_spl x ⟨#[c]⟩ (show tl ⟨#[c]⟩ ≠ [] from List.cons_ne_nil _ _) (kind_ok (by simpa using hc))
  rw [h]
  show spl [c] 0 [] (tl x) = _
  rw [spl_cut]
  cases e : cut c (tl x) with
  | nil => exact absurd e (cut_ne c _)
  | cons p ps => rfl
/-- what stands before the first c; what stands behind it -/
def bef (c : Nat) (l : T) : T := l.takeWhile (· != c)
def aft (c : Nat) (l : T) : T := (l.dropWhile (· != c)).drop 1
theorem par_cut (c : Nat) : ∀ (l acc : T), par [c] acc l = if l.contains c = true then some (acc ++ bef c l, aft c l) else none
  | [], acc => by simp [par]
  | d :: r, acc => by
    by_cases h : d = c
    · subst h
      have hp : pre [d] (d :: r) = true := by simp [pre]
      rw [par_hit hp]
      simp [bef, aft]
    · have hp : pre [c] (d :: r) = false := by simp [pre, h]
      have hb : (d != c) = true := by simpa using h
      rw [par_miss hp, par_cut c r]
      have e1 : (d :: r).contains c = r.contains c := by
        simp only [List.contains_cons]
        have : (c == d) = false := by simpa using fun e : c = d => h e.symm
        rw [this, Bool.false_or]
      rw [e1]
      have e2 : bef c (d :: r) = d :: bef c r := by unfold bef; rw [List.takeWhile_cons, if_pos hb]
      have e3 : aft c (d :: r) = aft c r := by unfold aft; rw [List.dropWhile_cons, if_pos hb]
      rw [e2, e3, List.append_assoc]
      rfl
theorem bef_none {c : Nat} : ∀ {l : T}, l.contains c = false → bef c l = l
  | [], _ => rfl
  | d :: r, h => by
    have h2 := h
    simp only [List.contains_cons, Bool.or_eq_false_iff] at h2
    have : (d != c) = true := by
      have := h2.1
      simp only [beq_eq_false_iff_ne] at this
      simpa using fun e : d = c => this e.symm
    unfold bef
    rw [List.takeWhile_cons, if_pos this]
    exact congrArg (d :: ·) (bef_none h2.2)
theorem bef_aft {c : Nat} {l : T} (h : l.contains c = true) : l = bef c l ++ c :: aft c l := by
  unfold bef aft
  induction l with
  | nil => cases h
  | cons d r ih =>
    by_cases e : d = c
    · subst e; simp
    · have hb : (d != c) = true := by simpa using e
      have h' : r.contains c = true := by
        simp only [List.contains_cons] at h
        have : (c == d) = false := by simpa using fun q : c = d => e q.symm
        rw [this, Bool.false_or] at h
        exact h
      rw [List.takeWhile_cons, if_pos hb, List.dropWhile_cons, if_pos hb, List.cons_append, ← ih h']
theorem bef_free (c : Nat) (l : T) : (bef c l).contains c = false := by
  unfold bef
  induction l with
  | nil => rfl
  | cons d r ih =>
    rw [List.takeWhile_cons]
    split
    · rename_i h
      have : (c == d) = false := by
        have : d ≠ c := by simpa using h
        simpa using fun q : c = d => this q.symm
      simp only [List.contains_cons]
      rw [this, Bool.false_or]
      exact ih
    · rfl
/-- partition at one sign -/
theorem part_cut (x : Str) (c : Nat) : tl (Txt.partition x ⟨#[c]⟩).1 = bef c (tl x) ∧ (Txt.partition x ⟨#[c]⟩).2.1 = (if (tl x).contains c = true then ⟨#[c]⟩ else Str.empty) ∧
    tl (Txt.partition x ⟨#[c]⟩).2.2 = (if (tl x).contains c = true then aft c (tl x) else []) := by
  rw [partition_par x ⟨#[c]⟩ (show tl ⟨#[c]⟩ ≠ [] from List.cons_ne_nil _ _)]
  rw [show tl (⟨#[c]⟩ : Str) = [c] from rfl, par_cut]
  cases h : (tl x).contains c with
  | true =>
    rw [if_pos rfl, if_pos rfl, if_pos rfl]
    refine ⟨?_, rfl, ?_⟩
    · show tl ⟨(([] : T) ++ bef c (tl x)).toArray⟩ = _
      rw [tl_mk]; rfl
    · show tl ⟨(aft c (tl x)).toArray⟩ = _
      rw [tl_mk]
  | false =>
    rw [if_neg Bool.false_ne_true, if_neg Bool.false_ne_true, if_neg Bool.false_ne_true]
    exact ⟨(bef_none h).symm, rfl, rfl⟩
end Mi
set_option Elab.async false
set_option linter.all false
set_option maxRecDepth 100000
/-! Mj: mirrors of the program: wrong places of parts. -/
namespace Mi
open PySem PySem.Builtin PySem.Builtin.Str PySem.StrLaws L2 TL
abbrev KP := Option (Str × Nat)
def kE : Str := "escape"
def kS : Str := "sign"
def kC : Str := "scheme"
def kP : Str := "port"
def kH : Str := "host"
/-- the pieces between "^", one behind another -/
def wAm (S : T) : Nat → Nat → List T → KP
  | _, _, [] => none
  | k, st, p :: ps => if 0 < k ∧ hex2 p = false then some (kE, st - 1) else if fo p S < p.length then some (kS, st + fo p S) else wAm S (k + 1) (st + p.length + 1) ps
/-- sign by sign -/
def scan (S : T) : Nat → T → KP
  | _, [] => none
  | i, c :: r => if c = 94 then (match r with
      | a :: b :: q => if (HEXT.contains a && HEXT.contains b) = true then scan S (i + 3) q else some (kE, i)
      | _ => some (kE, i)) else if S.contains c = true then scan S (i + 1) r else some (kS, i)
def SCHT : T := LETT ++ DIGT ++ tl "+-."
def badHead : T → Bool
  | [] => true
  | c :: _ => !LETT.contains c
def wSch (l : T) : KP := if badHead l = true then some (kC, 0) else if fo l SCHT < l.length then some (kC, fo l SCHT) else none
def val5 (l : T) : Nat := l.foldl (fun a c => a * 10 + (c - 48)) 0
def wPort (l : T) : KP := if fo (l.take 5) DIGT = 5 ∧ 65535 < val5 (l.take 5) then some (kP, 0) else if fo (l.take 5) DIGT < l.length then some (kP, fo (l.take 5) DIGT) else none
def BRKT : T := HEXT ++ tl ":."
def wBr (l : T) : KP := if fo (l.drop 1) BRKT = 0 ∨ (l.drop (1 + fo (l.drop 1) BRKT)).take 1 ≠ [93] then some (kH, 1 + fo (l.drop 1) BRKT)
  else if 1 + fo (l.drop 1) BRKT + 1 < l.length then some (kH, 1 + fo (l.drop 1) BRKT + 1) else none
theorem wAm_pos (S : T) : ∀ (ps : List T) (k k' st : Nat), 0 < k → 0 < k' → wAm S k st ps = wAm S k' st ps
  | [], _, _, _, _, _ => rfl
  | p :: ps, k, k', st, h, h' => by
    show (if 0 < k ∧ hex2 p = false then _ else if _ then _ else wAm S (k + 1) (st + p.length + 1) ps) = (if 0 < k' ∧ hex2 p = false then _ else if _ then _ else wAm S (k' + 1) (st + p.length + 1) ps)
    rw [wAm_pos S ps (k + 1) (k' + 1) _ (by omega) (by omega)]
    simp only [h, h', true_and]
theorem hex94 : HEXT.contains 94 = false := by decide +kernel
theorem hex2_cut (l : T) : ∀ p ps, cut 94 l = p :: ps → hex2 p = hex2 l := by
  intro p ps h
  match l with
  | [] => cases h; rfl
  | c :: r =>
    by_cases hc : c = 94
    · subst hc
      rw [cut_hit] at h
      cases h
      match r with
      | [] => rfl
      | d :: q => show false = (HEXT.contains 94 && HEXT.contains d); rw [hex94]; rfl
    · rw [cut_miss hc] at h
      match r with
      | [] => cases h; rfl
      | d :: q =>
        by_cases hd : d = 94
        · subst hd
          rw [cut_hit] at h
          cases h
          show false = (HEXT.contains c && HEXT.contains 94)
          rw [hex94, Bool.and_false]
        · rw [cut_miss hd] at h
          cases e : cut 94 q with
          | nil => exact absurd e (cut_ne 94 q)
          | cons p' ps' =>
            rw [e] at h
            cases h
            rfl
theorem scan_94 (S : T) (st : Nat) (r : T) : scan S st (94 :: r) = (match r with
      | a :: b :: q => if (HEXT.contains a && HEXT.contains b) = true then scan S (st + 3) q else some (kE, st)
      | _ => some (kE, st)) := by
  conv => lhs; unfold scan
  rw [if_pos rfl]
  rcases r with _ | ⟨a, _ | ⟨b, q⟩⟩ <;> rfl
theorem wAm_scan (S : T) (h94 : S.contains 94 = false) (hhex : ∀ c, HEXT.contains c = true → S.contains c = true) : ∀ (n : Nat) (l : T), l.length ≤ n → ∀ k st,
    wAm S k st (cut 94 l) = if 0 < k ∧ hex2 l = false then some (kE, st - 1) else scan S st l
  | n, [], _, k, st => by
    show (if 0 < k ∧ hex2 [] = false then some (kE, st - 1) else if fo [] S < ([] : T).length then _ else none) = _
    rw [fo_nil, if_neg (show ¬ 0 < ([] : T).length from Nat.lt_irrefl 0)]
    rfl
  | 0, c :: r, h, _, _ => absurd h (by simp)
  | n + 1, c :: r, h, k, st => by
    have hr : r.length ≤ n := by simpa using h
    by_cases hc : c = 94
    · subst hc
      have h2 : hex2 (94 :: r) = false := by
        match r with
        | [] => rfl
        | d :: q => show (HEXT.contains 94 && HEXT.contains d) = false; rw [hex94]; rfl
      rw [cut_hit, h2]
      show (if 0 < k ∧ hex2 [] = false then some (kE, st - 1) else if fo [] S < ([] : T).length then _ else wAm S (k + 1) (st + ([] : T).length + 1) (cut 94 r)) = _
      rw [fo_nil, if_neg (show ¬ 0 < ([] : T).length from Nat.lt_irrefl 0), show hex2 [] = false from rfl]
      by_cases hk : 0 < k
      · rw [if_pos ⟨hk, rfl⟩, if_pos ⟨hk, rfl⟩]
      · rw [if_neg (fun z => hk z.1), if_neg (fun z => hk z.1)]
        rw [wAm_scan S h94 hhex n r hr]
        rw [scan_94]
        match r with
        | [] => rfl
        | [a] => rfl
        | a :: b :: q =>
          show (if 0 < k + 1 ∧ (HEXT.contains a && HEXT.contains b) = false then some (kE, st) else scan S (st + 1) (a :: b :: q)) = if (HEXT.contains a && HEXT.contains b) = true then scan S (st + 3) q else some (kE, st)
          cases hab : (HEXT.contains a && HEXT.contains b) with
          | false => rw [if_pos ⟨Nat.succ_pos _, rfl⟩, if_neg Bool.false_ne_true]
          | true =>
            rw [if_neg (fun z => by cases z.2), if_pos rfl]
            rw [Bool.and_eq_true] at hab
            have ha := hhex a hab.1
            have hb := hhex b hab.2
            have na : a ≠ 94 := fun e => by subst e; rw [h94] at ha; cases ha
            have nb : b ≠ 94 := fun e => by subst e; rw [h94] at hb; cases hb
            conv => lhs; unfold scan
            rw [if_neg na, if_pos ha]
            conv => lhs; unfold scan
            rw [if_neg nb, if_pos hb]
    · have e1 : scan S st (c :: r) = if S.contains c = true then scan S (st + 1) r else some (kS, st) := by
        conv => lhs; unfold scan
        rw [if_neg hc]
      cases e : cut 94 r with
      | nil => exact absurd e (cut_ne 94 r)
      | cons p ps =>
        have ec : cut 94 (c :: r) = (c :: p) :: ps := by rw [cut_miss hc, e]
        have e2 := hex2_cut (c :: r) _ _ ec
        have e3 := wAm_scan S h94 hhex n r hr 0 (st + 1)
        rw [e, if_neg (fun z => Nat.lt_irrefl 0 z.1)] at e3
        rw [ec, e1]
        show (if 0 < k ∧ hex2 (c :: p) = false then some (kE, st - 1) else if fo (c :: p) S < (c :: p).length then some (kS, st + fo (c :: p) S) else wAm S (k + 1) (st + (c :: p).length + 1) ps) = _
        rw [e2]
        by_cases hk : 0 < k ∧ hex2 (c :: r) = false
        · rw [if_pos hk, if_pos hk]
        · rw [if_neg hk, if_neg hk]
          cases hs : S.contains c with
          | false =>
            rw [fo_out hs, if_pos (by simp), if_neg Bool.false_ne_true]
            rfl
          | true =>
            have e4 : wAm S 0 (st + 1) (p :: ps) = if fo p S < p.length then some (kS, st + 1 + fo p S) else wAm S 1 (st + 1 + p.length + 1) ps := by
              show (if 0 < 0 ∧ hex2 p = false then some (kE, st + 1 - 1) else if fo p S < p.length then some (kS, st + 1 + fo p S) else wAm S (0 + 1) (st + 1 + p.length + 1) ps) = _
              have hz : ¬ (0 < 0 ∧ hex2 p = false) := fun z => Nat.lt_irrefl 0 z.1
              rw [if_neg hz]
            rw [if_pos rfl, ← e3, e4, fo_in hs, wAm_pos S ps (k + 1) 1 _ (by omega) (by omega)]
            by_cases hl : fo p S < p.length
            · rw [if_pos hl, if_pos (by simp only [List.length_cons]; omega), show st + (fo p S + 1) = st + 1 + fo p S by omega]
            · rw [if_neg hl, if_neg (by simp only [List.length_cons]; omega)]
              congr 1
              simp only [List.length_cons]
              omega
theorem sw_pre (x y : Str) (hy : tl y ≠ []) : Txt.startswith x y = pre (tl y) (tl x) := by
  have h := at_iff (x := x) hy 0
  rw [List.drop_zero] at h
  unfold At at h
  show (decide (0 + y.length ≤ x.length) && subAt x y 0) = _
  cases hp : pre (tl y) (tl x) with
  | true =>
    obtain ⟨h1, h2⟩ := h.mpr hp
    rw [h2, decide_eq_true h1]; rfl
  | false =>
    cases hd : (decide (0 + y.length ≤ x.length) && subAt x y 0) with
    | false => rfl
    | true =>
      rw [Bool.and_eq_true] at hd
      rw [h.mp ⟨of_decide_eq_true hd.1, hd.2⟩] at hp
      cases hp
end Mi
set_option Elab.async false
set_option linter.all false
set_option maxRecDepth 100000
/-! Mk: find in a range; the split of a text into its parts. -/
namespace Mi
open PySem PySem.Builtin PySem.Builtin.Str PySem.StrLaws L2 TL
theorem range'_pre {lo n a : Nat} {pre post : List Nat} (h : List.range' lo n = pre ++ a :: post) : lo ≤ a ∧ ∀ k, lo ≤ k → k < a → k ∈ pre := by
  have hL : n = pre.length + (post.length + 1) := by
    have := congrArg List.length h
    simpa using this
  have hlen : a = lo + pre.length := by
    have h1 : (List.range' lo n)[pre.length]? = some a := by rw [h]; simp
    rw [List.getElem?_range' (by omega)] at h1
    have := Option.some.inj h1
    omega
  refine ⟨by omega, fun k h0 h1 => ?_⟩
  have h2 : (List.range' lo n)[k - lo]? = pre[k - lo]? := by rw [h, List.getElem?_append_left (by omega)]
  rw [List.getElem?_range' (by omega)] at h2
  have h3 : pre[k - lo]? = some k := by
    rw [← h2]
    congr 1
    omega
  exact List.mem_of_getElem? h3
theorem occ_from (x y : Str) (lo hi limit : Nat) (hl : 1 ≤ limit) :
    (occurrences x y lo hi limit = [] ∧ ∀ i, lo ≤ i → ¬ At x y hi i) ∨ ∃ i r, occurrences x y lo hi limit = i :: r ∧ lo ≤ i ∧ At x y hi i ∧ ∀ k, lo ≤ k → k < i → ¬ At x y hi k := by
  rw [occ_eq]
  rcases occ_first x y hi limit hl (List.range' lo (hi + 1 - lo)) lo (fun i h => by have := List.mem_range'.mp h; omega) with ⟨h0, hn⟩ | ⟨pre, a, post, e, h0, ha, hn⟩
  · refine .inl ⟨by rw [h0], fun i hlo hi' => ?_⟩
    have := hi'.1
    exact hn i (List.mem_range'.mpr ⟨i - lo, by omega, by omega⟩) hi'
  · obtain ⟨ha0, hpre⟩ := range'_pre e
    refine .inr ⟨a, ((forIn (List.range' lo (hi + 1 - lo)) ((#[] : Array Nat), lo) (occBody x y hi limit)).run.fst.toList).tail, ?_, ha0, ha, fun k h1 h2 => hn k (hpre k h1 h2)⟩
    generalize (forIn (List.range' lo (hi + 1 - lo)) ((#[] : Array Nat), lo) (occBody x y hi limit)).run.fst = arr at h0
    have h1 : arr.toList[0]? = some a := by simpa using h0
    cases hL : arr.toList with
    | nil => rw [hL] at h1; cases h1
    | cons b t => rw [hL] at h1; simp at h1; rw [h1]; rfl
theorem at_one (x : Str) (c hi i : Nat) (hh : hi ≤ (tl x).length) : At x ⟨#[c]⟩ hi i ↔ i < hi ∧ (tl x)[i]? = some c := by
  unfold At
  show i + 1 ≤ hi ∧ subAt x ⟨#[c]⟩ i = true ↔ _
  rw [subAt_eq]
  show i + 1 ≤ hi ∧ (((tl x).drop i).take 1 == [c]) = true ↔ _
  constructor
  · rintro ⟨h1, h2⟩
    refine ⟨h1, ?_⟩
    have h2 := eq_of_beq h2
    have : ((tl x).drop i)[0]? = some c := by
      have e : (((tl x).drop i).take 1)[0]? = some c := by rw [h2]; rfl
      rw [List.getElem?_take_of_lt (by decide)] at e
      exact e
    rw [List.getElem?_drop] at this
    simpa using this
  · rintro ⟨h1, h2⟩
    refine ⟨h1, ?_⟩
    obtain ⟨hk, e⟩ := List.getElem?_eq_some_iff.mp h2
    rw [List.drop_eq_getElem_cons hk, e]
    simp
theorem bef_len {c : Nat} : ∀ {m : T} {k : Nat}, m[k]? = some c → (∀ j, j < k → m[j]? ≠ some c) → (bef c m).length = k
  | [], k, h, _ => by simp at h
  | d :: r, 0, h, _ => by
    cases h
    simp [bef]
  | d :: r, k + 1, h, hn => by
    have hd : d ≠ c := fun e => hn 0 (Nat.succ_pos _) (by rw [e]; rfl)
    have ih := bef_len (m := r) (k := k) (by simpa using h) fun j hj => by
      have := hn (j + 1) (by omega)
      simpa using this
    unfold bef at ih ⊢
    rw [List.takeWhile_cons, if_pos (by simpa using hd), List.length_cons, ih]
/-- the first c from lo on, ahead of hi -/
def ixf (c : Nat) (l : T) (lo hi : Nat) : Option Nat := if ((l.take hi).drop lo).contains c = true then some (lo + (bef c ((l.take hi).drop lo)).length) else none
def ixI (o : Option Nat) : Int := match o with
  | some k => (k : Nat)
  | none => -1
theorem occ_ix (x : Str) (c lo hi : Nat) (hh : hi ≤ (tl x).length) : (match occurrences x ⟨#[c]⟩ lo hi 1 with | k :: _ => ((k : Nat) : Int) | [] => -1) = ixI (ixf c (tl x) lo hi) := by
  have hm : ∀ j, (((tl x).take hi).drop lo)[j]? = if lo + j < hi then (tl x)[lo + j]? else none := fun j => by
    rw [List.getElem?_drop, List.getElem?_take]
  rcases occ_from x ⟨#[c]⟩ lo hi 1 (Nat.le_refl _) with ⟨e, hn⟩ | ⟨i, r, e, h0, ha, hn⟩
  · rw [e]
    have : (((tl x).take hi).drop lo).contains c = false := by
      cases h : (((tl x).take hi).drop lo).contains c with
      | false => rfl
      | true =>
        obtain ⟨j, hj⟩ := List.mem_iff_getElem?.mp (List.contains_iff_mem.mp h)
        rw [hm] at hj
        by_cases hlt : lo + j < hi
        · rw [if_pos hlt] at hj
          exact absurd ((at_one x c hi (lo + j) hh).mpr ⟨hlt, hj⟩) (hn _ (by omega))
        · rw [if_neg hlt] at hj; cases hj
    unfold ixf
    rw [this, if_neg (by decide)]
    rfl
  · rw [e]
    obtain ⟨h1, h2⟩ := (at_one x c hi i hh).mp ha
    have hi0 : (((tl x).take hi).drop lo)[i - lo]? = some c := by
      rw [hm, if_pos (by omega), show lo + (i - lo) = i by omega]
      exact h2
    have hb := bef_len hi0 fun j hj hc => by
      rw [hm] at hc
      by_cases hlt : lo + j < hi
      · rw [if_pos hlt] at hc
        exact hn (lo + j) (by omega) (by omega) ((at_one x c hi _ hh).mpr ⟨hlt, hc⟩)
      · rw [if_neg hlt] at hc; cases hc
    unfold ixf
    rw [if_pos (List.contains_iff_mem.mpr (List.mem_of_getElem? hi0)), hb]
    show ((i : Nat) : Int) = ((lo + (i - lo) : Nat) : Int)
    congr 1
    omega
theorem find_ix (x : Str) (c : Nat) : Txt.find x ⟨#[c]⟩ = ixI (ixf c (tl x) 0 (tl x).length) := by
  rw [← occ_ix x c 0 _ (Nat.le_refl _), ← len_tl]
  rfl
theorem find3_ix (x : Str) (c i : Nat) : Txt.find3 x ⟨#[c]⟩ (i : Int) = ixI (ixf c (tl x) i (tl x).length) := by
  rw [← occ_ix x c i _ (Nat.le_refl _), ← len_tl]
  have e : fromIndex x.length (i : Int) = i := by
    unfold fromIndex
    rw [if_neg (by omega)]
    omega
  unfold Txt.find3
  rw [e]
  cases occurrences x ⟨#[c]⟩ i x.length 1 <;> rfl
theorem findIn_ix (x : Str) (c i j : Nat) (hj : j ≤ (tl x).length) : Txt.findIn x ⟨#[c]⟩ (i : Int) (j : Int) = ixI (ixf c (tl x) i j) := by
  rw [← occ_ix x c i _ hj]
  have e : fromIndex x.length (i : Int) = i := by
    unfold fromIndex
    rw [if_neg (by omega)]
    omega
  have e2 : toIndexW x.length (j : Int) = j := by
    unfold toIndexW
    rw [if_neg (by omega)]
    rw [len_tl]
    omega
  unfold Txt.findIn
  rw [e, e2]
  cases occurrences x ⟨#[c]⟩ i j 1 <;> rfl
theorem ixf_lt {c : Nat} {l : T} {lo hi k : Nat} (h : ixf c l lo hi = some k) : lo ≤ k ∧ k < hi ∧ l[k]? = some c := by
  unfold ixf at h
  split at h
  · rename_i hc
    have hk := Option.some.inj h
    generalize hm : (l.take hi).drop lo = m at *
    have hb := bef_aft hc
    have hg : (bef c m ++ c :: aft c m)[(bef c m).length]? = some c := by simp
    rw [← hb] at hg
    subst hm
    rw [List.getElem?_drop, List.getElem?_take] at hg
    subst hk
    by_cases hlt : lo + (bef c ((l.take hi).drop lo)).length < hi
    · rw [if_pos hlt] at hg
      exact ⟨by omega, hlt, hg⟩
    · rw [if_neg hlt] at hg; cases hg
  · cases h
/-! ### the split of a text -/
def eoh (l : T) (h : Nat) : Nat := if (l.drop h).take 1 = [91] then (match ixf 93 l h l.length with
    | some b => if (l.drop (b + 1)).take 1 = [58] then b + 1 else l.length
    | none => l.length) else (match ixf 58 l h l.length with
    | some k => k
    | none => l.length)
theorem eoh_le {l : T} {h : Nat} (hh : h ≤ l.length) : h ≤ eoh l h ∧ eoh l h ≤ l.length := by
  unfold eoh
  split
  · cases e : ixf 93 l h l.length with
    | none => exact ⟨hh, Nat.le_refl _⟩
    | some b =>
      have := ixf_lt e
      dsimp only
      split
      · omega
      · exact ⟨hh, Nat.le_refl _⟩
  · cases e : ixf 58 l h l.length with
    | none => exact ⟨hh, Nat.le_refl _⟩
    | some b =>
      have := ixf_lt e
      dsimp only
      omega
abbrev Rows3 := List (Nat × Nat × T)
def hostAt (l : T) : Nat := match ixf 64 l 0 l.length with
  | some k => k + 1
  | none => 0
def splA (l : T) (st : Nat) : Rows3 := (if 0 < hostAt l then [(1, st, l.take (hostAt l - 1))] else []) ++ ([(2, st + hostAt l, (l.drop (hostAt l)).take (eoh l (hostAt l) - hostAt l))] ++ (if eoh l (hostAt l) < l.length then [(3, st + eoh l (hostAt l) + 1, l.drop (eoh l (hostAt l) + 1))] else []))
def schAt (l : T) : Nat := if (bef 47 l).contains 58 = true then (match ixf 58 l 0 l.length with
    | some k => k + 1
    | none => 0) else 0
def splB (l : T) : Rows3 := (if (bef 47 l).contains 58 = true then [(0, 0, l.take (schAt l - 1))] else []) ++ (if (l.drop (schAt l)).take 2 = [47, 47] then splA (bef 47 (l.drop (schAt l + 2))) (schAt l + 2) ++ [(4, schAt l + 2 + (bef 47 (l.drop (schAt l + 2))).length, l.drop (schAt l + 2 + (bef 47 (l.drop (schAt l + 2))).length))] else [(4, schAt l, l.drop (schAt l))])
def splT (l : T) : Rows3 := splB (bef 63 (bef 35 l)) ++ ((if (bef 35 l).contains 63 = true then [(5, (bef 63 (bef 35 l)).length + 1, aft 63 (bef 35 l))] else []) ++ (if l.contains 35 = true then [(6, (bef 35 l).length + 1, aft 35 l)] else []))
theorem bef_mem {c d : Nat} {l : T} (h : (bef c l).contains d = true) : l.contains d = true := by
  rw [List.contains_iff_mem] at h ⊢
  exact (List.takeWhile_sublist _).subset h
theorem ixf_all {c : Nat} {l : T} : ixf c l 0 l.length = if l.contains c = true then some (bef c l).length else none := by
  unfold ixf
  rw [List.take_length, List.drop_zero, Nat.zero_add]
theorem splA_len (l : T) (st : Nat) : (splA l st).length ≤ 3 := by
  unfold splA
  simp only [List.length_append]
  split <;> split <;> simp
end Mi
set_option Elab.async false
set_option linter.all false
set_option maxRecDepth 100000
/-! Mm: rows of a split: their order, their lengths. -/
namespace Mi
open PySem PySem.Builtin PySem.Builtin.Str PySem.StrLaws L2 TL
theorem bef_le (c : Nat) (l : T) : (bef c l).length ≤ l.length := (List.takeWhile_sublist _).length_le
theorem aft_le (c : Nat) (l : T) : (aft c l).length ≤ l.length := by
  unfold aft
  rw [List.length_drop]
  have := (List.dropWhile_sublist (l := l) (fun d => d != c)).length_le
  omega
theorem mem_if {α : Type} {p : Prop} [Decidable p] {x y : α} (h : y ∈ (if p then [x] else [])) : p ∧ y = x := by
  by_cases hp : p
  · rw [if_pos hp] at h
    exact ⟨hp, List.mem_singleton.mp h⟩
  · rw [if_neg hp] at h
    cases h
theorem splA_tl {l : T} {st : Nat} {r : Nat × Nat × T} (h : r ∈ splA l st) : r.2.2.length ≤ l.length := by
  unfold splA at h
  rcases List.mem_append.mp h with h | h
  · rw [(mem_if h).2]
    show (l.take _).length ≤ _
    rw [List.length_take]; omega
  · rcases List.mem_append.mp h with h | h
    · rw [List.mem_singleton.mp h]
      show ((l.drop _).take _).length ≤ _
      rw [List.length_take, List.length_drop]; omega
    · rw [(mem_if h).2]
      show (l.drop _).length ≤ _
      rw [List.length_drop]; omega
theorem splB_tl {l : T} {r : Nat × Nat × T} (h : r ∈ splB l) : r.2.2.length ≤ l.length := by
  unfold splB at h
  rcases List.mem_append.mp h with h | h
  · rw [(mem_if h).2]
    show (l.take _).length ≤ _
    rw [List.length_take]; omega
  · by_cases hp : (l.drop (schAt l)).take 2 = [47, 47]
    · rw [if_pos hp] at h
      rcases List.mem_append.mp h with h | h
      · have h1 := splA_tl h
        have h2 := bef_le 47 (l.drop (schAt l + 2))
        rw [List.length_drop] at h2
        omega
      · rw [List.mem_singleton.mp h]
        show (l.drop _).length ≤ _
        rw [List.length_drop]; omega
    · rw [if_neg hp] at h
      rw [List.mem_singleton.mp h]
      show (l.drop _).length ≤ _
      rw [List.length_drop]; omega
theorem splT_tl {l : T} {r : Nat × Nat × T} (h : r ∈ splT l) : r.2.2.length ≤ l.length := by
  have b1 := bef_le 35 l
  have b2 := bef_le 63 (bef 35 l)
  unfold splT at h
  rcases List.mem_append.mp h with h | h
  · have := splB_tl h
    omega
  · rcases List.mem_append.mp h with h | h
    · rw [(mem_if h).2]
      show (aft 63 (bef 35 l)).length ≤ _
      have := aft_le 63 (bef 35 l)
      omega
    · rw [(mem_if h).2]
      exact aft_le 35 l
theorem splT_idx (l : T) : ((splT l).map (·.1)).Sublist [0, 1, 2, 3, 4, 5, 6] := by
  unfold splT splB splA
  simp only [List.map_append]
  split <;> split <;> split <;> split <;> first
    | (simp only [List.map_cons, List.map_nil]; decide)
    | (simp only [List.map_append]; split <;> split <;> (simp only [List.map_cons, List.map_nil]; decide))
end Mi
set_option Elab.async false
set_option linter.all false
set_option maxRecDepth 100000
/-! Mn: what is written is split into the same parts. -/
namespace Mi
open PySem PySem.Builtin PySem.Builtin.Str PySem.StrLaws L2 TL
theorem con_app (c : Nat) (l r : T) : (l ++ r).contains c = (l.contains c || r.contains c) := by
  rw [Bool.eq_iff_iff]; simp [List.contains_iff_mem]
theorem con_one (c d : Nat) : ([d] : T).contains c = decide (c = d) := by
  rw [Bool.eq_iff_iff]; simp
theorem con_ne {c d : Nat} {l : T} (h : (d :: l).contains c = false) : d ≠ c ∧ l.contains c = false := by
  simp only [List.contains_cons, Bool.or_eq_false_iff, beq_eq_false_iff_ne] at h
  exact ⟨fun e => h.1 e.symm, h.2⟩
theorem bef_hit (c : Nat) (r : T) : bef c (c :: r) = [] := by simp [bef]
theorem bef_miss {c d : Nat} (h : d ≠ c) (r : T) : bef c (d :: r) = d :: bef c r := by
  unfold bef; rw [List.takeWhile_cons, if_pos (by simpa using h)]
theorem aft_hit (c : Nat) (r : T) : aft c (c :: r) = r := by simp [aft]
theorem aft_miss {c d : Nat} (h : d ≠ c) (r : T) : aft c (d :: r) = aft c r := by
  unfold aft; rw [List.dropWhile_cons, if_pos (by simpa using h)]
theorem bef_app {c : Nat} : ∀ {l : T} (r : T), l.contains c = false → bef c (l ++ r) = l ++ bef c r
  | [], _, _ => rfl
  | d :: l, r, h => by
    obtain ⟨h1, h2⟩ := con_ne h
    rw [List.cons_append, bef_miss h1, bef_app r h2]; rfl
theorem aft_app {c : Nat} : ∀ {l : T} (r : T), l.contains c = false → aft c (l ++ r) = aft c r
  | [], _, _ => rfl
  | d :: l, r, h => by
    obtain ⟨h1, h2⟩ := con_ne h
    rw [List.cons_append, aft_miss h1, aft_app r h2]
theorem foAll {l S : T} (h : l.length ≤ fo l S) : ∀ c ∈ l, S.contains c = true := by
  intro c hc
  obtain ⟨i, hi, e⟩ := List.mem_iff_getElem.mp hc
  obtain ⟨d, h1, h2⟩ := fo_before (l := l) (S := S) (i := i) (by omega)
  rw [List.getElem?_eq_getElem hi] at h1
  rw [← e, Option.some.inj h1]
  exact h2
/-! ### signs of right parts -/
theorem nin {c : Nat} {l S : T} (h : ∀ d ∈ l, d = 94 ∨ S.contains d = true) (hc : S.contains c = false) (h94 : c ≠ 94) : l.contains c = false := by
  cases e : l.contains c with
  | false => rfl
  | true =>
    rcases h c (List.contains_iff_mem.mp e) with e2 | e2
    · exact absurd e2 h94
    · rw [hc] at e2; cases e2
theorem scan_all (S : T) (hhex : ∀ c, HEXT.contains c = true → S.contains c = true) : ∀ (n : Nat) (l : T) (i : Nat), l.length ≤ n → Mi.scan S i l = none → ∀ c ∈ l, c = 94 ∨ S.contains c = true
  | _, [], _, _, _ => fun c h => nomatch h
  | 0, c :: r, _, h, _ => absurd h (by simp)
  | n + 1, c :: r, i, h, e => by
    have hr : r.length ≤ n := by simpa using h
    by_cases hc : c = 94
    · subst hc
      rw [scan_94] at e
      match r, hr, e with
      | [], _, e => cases e
      | [a], _, e => cases e
      | a :: b :: q, hr, e =>
        have e' : (if (HEXT.contains a && HEXT.contains b) = true then Mi.scan S (i + 3) q else some (kE, i)) = none := e
        cases hab : (HEXT.contains a && HEXT.contains b) with
        | false => rw [hab, if_neg Bool.false_ne_true] at e'; cases e'
        | true =>
          rw [hab, if_pos rfl] at e'
          rw [Bool.and_eq_true] at hab
          simp only [List.length_cons] at hr
          have ih := scan_all S hhex n q (i + 3) (by omega) e'
          intro d hd
          rcases List.mem_cons.mp hd with e1 | hd
          · exact .inl e1
          rcases List.mem_cons.mp hd with e1 | hd
          · rw [e1]; exact .inr (hhex a hab.1)
          rcases List.mem_cons.mp hd with e1 | hd
          · rw [e1]; exact .inr (hhex b hab.2)
          · exact ih d hd
    · have e1 : Mi.scan S i (c :: r) = if S.contains c = true then Mi.scan S (i + 1) r else some (kS, i) := by
        conv => lhs; unfold Mi.scan
        rw [if_neg hc]
      rw [e1] at e
      cases hs : S.contains c with
      | false => rw [hs, if_neg Bool.false_ne_true] at e; cases e
      | true =>
        rw [hs, if_pos rfl] at e
        have ih := scan_all S hhex n r (i + 1) hr e
        intro d hd
        rcases List.mem_cons.mp hd with e1 | hd
        · rw [e1]; exact .inr hs
        · exact ih d hd
theorem wAm_all {S l : T} (h94 : S.contains 94 = false) (hhex : ∀ c, HEXT.contains c = true → S.contains c = true) (h : wAm S 0 0 (cut 94 l) = none) : ∀ c ∈ l, c = 94 ∨ S.contains c = true := by
  rw [wAm_scan S h94 hhex l.length l (Nat.le_refl _) 0 0, if_neg (fun z => Nat.lt_irrefl 0 z.1)] at h
  exact scan_all S hhex l.length l 0 (Nat.le_refl _) h
theorem wSch_all {l : T} (h : wSch l = none) : ∀ c ∈ l, c = 94 ∨ SCHT.contains c = true := by
  unfold wSch at h
  split at h
  · cases h
  · split at h
    · cases h
    · rename_i h1
      exact fun c hc => .inr (foAll (by omega) c hc)
theorem wPort_all {l : T} (h : wPort l = none) : ∀ c ∈ l, c = 94 ∨ DIGT.contains c = true := by
  unfold wPort at h
  split at h
  · cases h
  · split at h
    · cases h
    · rename_i h1
      have h2 := fo_le (l.take 5) DIGT
      rw [List.length_take] at h2
      have h3 : l.take 5 = l := List.take_of_length_le (by omega)
      rw [h3] at h1
      exact fun c hc => .inr (foAll (by omega) c hc)
theorem fo_split {l S : T} {n : Nat} (h : n ≤ fo l S) : ∀ c ∈ l.take n, S.contains c = true := by
  intro c hc
  obtain ⟨i, hi, e⟩ := List.mem_iff_getElem.mp hc
  rw [List.length_take] at hi
  obtain ⟨d, h1, h2⟩ := fo_before (l := l) (S := S) (i := i) (by omega)
  rw [List.getElem_take] at e
  rw [List.getElem?_eq_getElem (by omega)] at h1
  rw [← e, Option.some.inj h1]
  exact h2
/-- a right host in brackets -/
theorem wBr_form {l : T} (h0 : l.take 1 = [91]) (h : wBr l = none) : ∃ b, l = 91 :: (b ++ [93]) ∧ ∀ c ∈ b, c = 94 ∨ BRKT.contains c = true := by
  unfold wBr at h
  split at h
  · cases h
  · rename_i h1
    split at h
    · cases h
    · rename_i h2
      have h3 : (l.drop (1 + fo (l.drop 1) BRKT)).take 1 = [93] := Classical.byContradiction fun z => h1 (.inr z)
      rcases l with _ | ⟨a, r⟩
      · cases h0
      · have ea : a = 91 := (List.cons.inj h0).1
        subst ea
        have e1 : List.drop 1 (91 :: r) = r := rfl
        rw [e1] at h2 h3
        rw [Nat.add_comm 1 (fo r BRKT), List.drop_succ_cons] at h3
        have hb := fo_split (l := r) (S := BRKT) (Nat.le_refl _)
        have hl : (r.drop (fo r BRKT)).length ≤ 1 := by
          rw [List.length_drop]; simp only [List.length_cons] at h2; omega
        rw [List.take_of_length_le hl] at h3
        refine ⟨r.take (fo r BRKT), ?_, fun c hc => .inr (hb c hc)⟩
        rw [← h3, List.take_append_drop]
/-! ### the authority -/
theorem ixf_end (c : Nat) (pre B : T) : ixf c (pre ++ B) pre.length (pre ++ B).length = if B.contains c = true then some (pre.length + (bef c B).length) else none := by
  unfold ixf
  rw [List.take_length, List.drop_left]
def HostOk (h : T) : Prop := (∃ b, h = 91 :: (b ++ [93]) ∧ b.contains 93 = false) ∨ (h.take 1 ≠ [91] ∧ h.contains 58 = false)
theorem eoh_txt {pre h pp : T} (hpp : pp = [] ∨ ∃ p, pp = 58 :: p) (hh : HostOk h) : eoh (pre ++ (h ++ pp)) pre.length = pre.length + h.length := by
  have hlen : (pre ++ (h ++ pp)).length = pre.length + (h.length + pp.length) := by rw [List.length_append, List.length_append]
  have hdr : (pre ++ (h ++ pp)).drop (pre.length + h.length) = pp := by
    rw [← List.append_assoc, ← List.length_append, List.drop_left]
  unfold eoh
  rw [List.drop_left, ixf_end, ixf_end]
  rcases hh with ⟨b, rfl, hb⟩ | ⟨h1, h2⟩
  · have e0 : List.take 1 (91 :: (b ++ [93]) ++ pp) = [91] := rfl
    rw [if_pos e0]
    have e1 : (91 :: (b ++ [93]) ++ pp) = (91 :: b) ++ (93 :: pp) := by simp
    have hc : (91 :: b : T).contains 93 = false := by
      rw [show (91 :: b : T) = [91] ++ b from rfl, con_app, hb]; rfl
    have e2 : bef 93 (91 :: (b ++ [93]) ++ pp) = 91 :: b := by
      rw [e1, bef_app _ hc, bef_hit, List.append_nil]
    have e3 : (91 :: (b ++ [93]) ++ pp).contains 93 = true := by
      rw [e1, con_app]; simp
    rw [if_pos e3, e2]
    dsimp only
    have e4 : pre.length + (91 :: b).length + 1 = pre.length + (91 :: (b ++ [93])).length := by
      simp only [List.length_cons, List.length_append, List.length_nil]; omega
    rw [e4, hdr]
    rcases hpp with rfl | ⟨p, rfl⟩
    · rw [if_neg (by simp), hlen]; rfl
    · have e5 : List.take 1 (58 :: p) = [58] := rfl
      rw [if_pos e5]
  · have e1 : ¬ (h ++ pp).take 1 = [91] := by
      rcases h with _ | ⟨a, r⟩
      · rcases hpp with rfl | ⟨p, rfl⟩
        · simp
        · simp
      · simpa using h1
    rw [if_neg e1]
    rcases hpp with rfl | ⟨p, rfl⟩
    · rw [List.append_nil, h2, if_neg Bool.false_ne_true]
      dsimp only
      rw [List.length_append]
    · have e3 : (h ++ 58 :: p).contains 58 = true := by rw [con_app]; simp
      rw [if_pos e3, bef_app _ h2, bef_hit, List.append_nil]
theorem splA_txt {uN pN : Bool} {u h p : T} (st : Nat) (hu : uN = false → u.contains 64 = false) (hh : h.contains 64 = false) (hp : pN = false → p.contains 64 = false) (ho : HostOk h) :
    ∃ k2 k3, splA ((if uN = true then [] else u ++ [64]) ++ (h ++ (if pN = true then [] else [58] ++ p))) st = (if uN = true then [] else [(1, st, u)]) ++ ([(2, k2, h)] ++ (if pN = true then [] else [(3, k3, p)])) := by
  have hB : (h ++ (if pN = true then [] else [58] ++ p)).contains 64 = false := by
    rw [con_app, hh, Bool.false_or]
    cases pN with
    | true => rfl
    | false => rw [if_neg Bool.false_ne_true, con_app, hp rfl]; rfl
  have hpp : (if pN = true then [] else [58] ++ p : T) = [] ∨ ∃ q, (if pN = true then [] else [58] ++ p : T) = 58 :: q := by
    cases pN with
    | true => exact .inl rfl
    | false => exact .inr ⟨p, rfl⟩
  have hA : hostAt ((if uN = true then [] else u ++ [64]) ++ (h ++ (if pN = true then [] else [58] ++ p))) = (if uN = true then [] else u ++ [64] : T).length := by
    unfold hostAt
    rw [ixf_all]
    cases uN with
    | true =>
      rw [if_pos rfl, List.nil_append, hB, if_neg Bool.false_ne_true]; rfl
    | false =>
      have e : (if false = true then [] else u ++ [64] : T) = u ++ [64] := rfl
      rw [e, List.append_assoc, con_app, if_pos (by simp), bef_app _ (hu rfl)]
      rw [List.singleton_append, bef_hit, List.append_nil]
      dsimp only
      rw [List.length_append]; rfl
  generalize hpre : (if uN = true then [] else u ++ [64] : T) = pre at *
  generalize hppe : (if pN = true then [] else [58] ++ p : T) = pp at *
  have he := eoh_txt (pre := pre) hpp ho
  unfold splA
  rw [hA, he]
  refine ⟨st + pre.length, st + (pre.length + h.length) + 1, ?_⟩
  have r1 : (if 0 < pre.length then [(1, st, (pre ++ (h ++ pp)).take (pre.length - 1))] else [] : Rows3) = (if uN = true then [] else [(1, st, u)]) := by
    cases uN with
    | true =>
      have : pre = [] := hpre.symm
      subst this; rfl
    | false =>
      have : pre = u ++ [64] := hpre.symm
      subst this
      rw [if_pos (by simp), if_neg Bool.false_ne_true]
      congr 3
      rw [List.length_append, List.append_assoc]
      show (u ++ _).take u.length = u
      rw [List.take_left]
  have r2 : ((pre ++ (h ++ pp)).drop pre.length).take (pre.length + h.length - pre.length) = h := by
    rw [List.drop_left, Nat.add_sub_cancel_left, List.take_left]
  have r3 : (if pre.length + h.length < (pre ++ (h ++ pp)).length then [(3, st + (pre.length + h.length) + 1, (pre ++ (h ++ pp)).drop (pre.length + h.length + 1))] else [] : Rows3) = (if pN = true then [] else [(3, st + (pre.length + h.length) + 1, p)]) := by
    have hlen : (pre ++ (h ++ pp)).length = pre.length + (h.length + pp.length) := by rw [List.length_append, List.length_append]
    rw [hlen]
    cases pN with
    | true =>
      have : pp = [] := hppe.symm
      subst this
      rw [if_neg (by simp), if_pos rfl]
    | false =>
      have : pp = [58] ++ p := hppe.symm
      subst this
      rw [if_pos (by simp only [List.length_append, List.length_cons, List.length_nil]; omega), if_neg Bool.false_ne_true]
      congr 3
      have e : pre ++ (h ++ ([58] ++ p)) = (pre ++ (h ++ [58])) ++ p := by simp
      rw [e, show pre.length + h.length + 1 = (pre ++ (h ++ [58])).length by simp [Nat.add_assoc], List.drop_left]
  rw [r1, r2, r3]
/-! ### the whole -/
def atxt (uN hN pN : Bool) (u h p : T) : T := (if hN = true then [] else [47, 47]) ++ ((if uN = true then [] else u ++ [64]) ++ ((if hN = true then [] else h) ++ (if pN = true then [] else [58] ++ p)))
structure PathOk (sN hN : Bool) (l : T) : Prop where
  a : hN = false → l = [] ∨ l.take 1 = [47]
  n : hN = true → l.take 2 ≠ [47, 47]
  s : hN = true → sN = true → (bef 47 l).contains 58 = false
structure AuthOk (uN hN pN : Bool) (u h p : T) : Prop where
  no : hN = true → uN = true ∧ pN = true
  u : uN = false → u.contains 64 = false ∧ u.contains 47 = false
  h : hN = false → h.contains 64 = false ∧ h.contains 47 = false ∧ HostOk h
  p : pN = false → p.contains 64 = false ∧ p.contains 47 = false
theorem splB_txt {sN uN hN pN : Bool} {s u h p l : T} (hs : sN = false → s.contains 58 = false ∧ s.contains 47 = false) (A : AuthOk uN hN pN u h p) (hl : PathOk sN hN l) :
    ∃ k1 k2 k3 k4, splB ((if sN = true then [] else s ++ [58]) ++ (atxt uN hN pN u h p ++ l)) = (if sN = true then [] else [(0, 0, s)]) ++ ((if uN = true then [] else [(1, k1, u)]) ++ ((if hN = true then [] else [(2, k2, h)]) ++ ((if pN = true then [] else [(3, k3, p)]) ++ [(4, k4, l)]))) := by
  generalize hZ : atxt uN hN pN u h p ++ l = Z
  have hc : sN = true → (bef 47 Z).contains 58 = false := by
    intro es
    cases hN with
    | true =>
      obtain ⟨rfl, rfl⟩ := A.no rfl
      rw [← hZ]
      exact hl.s rfl es
    | false =>
      rw [← hZ]
      show (bef 47 (47 :: _)).contains 58 = false
      rw [bef_hit]; rfl
  generalize hpre : (if sN = true then [] else s ++ [58] : T) = pre
  have hcc : (bef 47 (pre ++ Z)).contains 58 = !sN := by
    cases sN with
    | true =>
      have : pre = [] := hpre.symm
      subst this
      exact hc rfl
    | false =>
      have : pre = s ++ [58] := hpre.symm
      subst this
      have hs2 := hs rfl
      rw [List.append_assoc, bef_app _ hs2.2, con_app]
      rw [List.singleton_append, bef_miss (by decide)]
      simp
  have hsc : schAt (pre ++ Z) = pre.length := by
    unfold schAt
    rw [hcc]
    cases sN with
    | true =>
      have : pre = [] := hpre.symm
      subst this
      rfl
    | false =>
      have : pre = s ++ [58] := hpre.symm
      subst this
      have hs2 := hs rfl
      rw [if_pos (show (!false) = true from rfl), ixf_all, List.append_assoc, con_app, if_pos (by simp), bef_app _ hs2.1]
      rw [List.singleton_append, bef_hit, List.append_nil]
      dsimp only
      rw [List.length_append]; rfl
  have r0 : (if (bef 47 (pre ++ Z)).contains 58 = true then [(0, 0, (pre ++ Z).take (pre.length - 1))] else [] : Rows3) = (if sN = true then [] else [(0, 0, s)]) := by
    rw [hcc]
    cases sN with
    | true => rfl
    | false =>
      have : pre = s ++ [58] := hpre.symm
      subst this
      rw [if_pos (show (!false) = true from rfl), if_neg Bool.false_ne_true]
      congr 3
      rw [List.length_append, List.append_assoc]
      show (s ++ _).take s.length = s
      rw [List.take_left]
  unfold splB
  rw [hsc, r0, List.drop_left]
  cases hN with
  | true =>
    obtain ⟨rfl, rfl⟩ := A.no rfl
    have eZ : Z = l := hZ.symm
    subst eZ
    rw [if_neg (hl.n rfl)]
    exact ⟨0, 0, 0, pre.length, rfl⟩
  | false =>
    have A3 := A.h rfl
    generalize hAt : (if uN = true then [] else u ++ [64]) ++ (h ++ (if pN = true then [] else [58] ++ p)) = At
    have eZ : Z = [47, 47] ++ (At ++ l) := by
      rw [← hZ, ← hAt]
      unfold atxt
      simp
    have h47 : At.contains 47 = false := by
      rw [← hAt, con_app, con_app, A3.2.1]
      have h1 : (if uN = true then [] else u ++ [64] : T).contains 47 = false := by
        cases uN with
        | true => rfl
        | false => rw [if_neg Bool.false_ne_true, con_app, (A.u rfl).2]; rfl
      have h2 : (if pN = true then [] else [58] ++ p : T).contains 47 = false := by
        cases pN with
        | true => rfl
        | false => rw [if_neg Bool.false_ne_true, con_app, (A.p rfl).2]; rfl
      rw [h1, h2]; rfl
    have hd2 : (pre ++ Z).drop (pre.length + 2) = At ++ l := by
      rw [eZ, ← List.append_assoc, show pre.length + 2 = (pre ++ [47, 47]).length by simp, List.drop_left]
    have hbl : bef 47 (At ++ l) = At := by
      rw [bef_app _ h47]
      rcases hl.a rfl with rfl | e
      · exact List.append_nil _
      · rcases l with _ | ⟨c, r⟩
        · exact List.append_nil _
        · have : c = 47 := (List.cons.inj e).1
          subst this
          rw [bef_hit, List.append_nil]
    have hd3 : (pre ++ Z).drop (pre.length + 2 + At.length) = l := by
      rw [← List.drop_drop, hd2, List.drop_left]
    have hz2 : Z.take 2 = [47, 47] := by rw [eZ]; rfl
    rw [if_pos hz2, hd2, hbl, hd3]
    obtain ⟨k2, k3, e⟩ := splA_txt (uN := uN) (pN := pN) (u := u) (h := h) (p := p) (pre.length + 2) (fun e => (A.u e).1) A3.1 (fun e => (A.p e).1) A3.2.2
    rw [← hAt, e]
    refine ⟨pre.length + 2, k2, k3, pre.length + 2 + ((if uN = true then [] else u ++ [64]) ++ (h ++ (if pN = true then [] else [58] ++ p))).length, ?_⟩
    rw [if_neg Bool.false_ne_true]
    simp only [List.append_assoc]
def ytxt (sN uN hN pN : Bool) (s u h p l : T) : T := (if sN = true then [] else s ++ [58]) ++ (atxt uN hN pN u h p ++ l)
theorem splT_txt {sN uN hN pN qN fN : Bool} {s u h p l q f : T} (hs : sN = false → s.contains 58 = false ∧ s.contains 47 = false) (A : AuthOk uN hN pN u h p) (hl : PathOk sN hN l)
    (h63 : (ytxt sN uN hN pN s u h p l).contains 63 = false) (h35 : (ytxt sN uN hN pN s u h p l).contains 35 = false) (hq : qN = false → q.contains 35 = false) :
    ∃ k1 k2 k3 k4 k5 k6, splT (ytxt sN uN hN pN s u h p l ++ ((if qN = true then [] else [63] ++ q) ++ (if fN = true then [] else [35] ++ f))) =
      ((if sN = true then [] else [(0, 0, s)]) ++ ((if uN = true then [] else [(1, k1, u)]) ++ ((if hN = true then [] else [(2, k2, h)]) ++ ((if pN = true then [] else [(3, k3, p)]) ++ [(4, k4, l)])))) ++ ((if qN = true then [] else [(5, k5, q)]) ++ (if fN = true then [] else [(6, k6, f)])) := by
  obtain ⟨k1, k2, k3, k4, e⟩ := splB_txt hs A hl
  change splB (ytxt sN uN hN pN s u h p l) = _ at e
  generalize ytxt sN uN hN pN s u h p l = Y at *
  generalize hQ : (if qN = true then [] else [63] ++ q : T) = Qt
  have hQ35 : Qt.contains 35 = false := by
    rw [← hQ]
    cases qN with
    | true => rfl
    | false => rw [if_neg Bool.false_ne_true, con_app, hq rfl]; rfl
  have hX : (Y ++ Qt).contains 35 = false := by rw [con_app, h35, hQ35]; rfl
  have b35 : bef 35 (Y ++ (Qt ++ (if fN = true then [] else [35] ++ f))) = Y ++ Qt := by
    rw [← List.append_assoc, bef_app _ hX]
    cases fN with
    | true => rw [if_pos rfl]; exact List.append_nil _
    | false => rw [if_neg Bool.false_ne_true, List.singleton_append, bef_hit, List.append_nil]
  have b63 : bef 63 (Y ++ Qt) = Y := by
    rw [bef_app _ h63, ← hQ]
    cases qN with
    | true => rw [if_pos rfl]; exact List.append_nil _
    | false => rw [if_neg Bool.false_ne_true, List.singleton_append, bef_hit, List.append_nil]
  have c35 : (Y ++ (Qt ++ (if fN = true then [] else [35] ++ f))).contains 35 = !fN := by
    rw [← List.append_assoc, con_app, hX, Bool.false_or]
    cases fN with
    | true => rfl
    | false => rw [if_neg Bool.false_ne_true, con_app]; rfl
  have c63 : (Y ++ Qt).contains 63 = !qN := by
    rw [con_app, h63, Bool.false_or, ← hQ]
    cases qN with
    | true => rfl
    | false => rw [if_neg Bool.false_ne_true, con_app]; rfl
  unfold splT
  rw [b35, b63, e, c35, c63]
  refine ⟨k1, k2, k3, k4, Y.length + 1, (Y ++ Qt).length + 1, ?_⟩
  congr 1
  congr 1
  · cases qN with
    | true => rfl
    | false =>
      rw [if_pos (show (!false) = true from rfl), if_neg Bool.false_ne_true, aft_app _ h63, ← hQ, if_neg Bool.false_ne_true, List.singleton_append, aft_hit]
  · cases fN with
    | true => rfl
    | false =>
      rw [if_pos (show (!false) = true from rfl), if_neg Bool.false_ne_true, ← List.append_assoc, aft_app _ hX, if_neg Bool.false_ne_true, List.singleton_append, aft_hit]
end Mi
set_option Elab.async false
set_option linter.all false
set_option maxRecDepth 100000
/-! Mo: texts of right signs and escapes, put together. -/
namespace Mi
open PySem PySem.Builtin PySem.Builtin.Str PySem.StrLaws L2 TL
theorem scan_step {S : T} {i c : Nat} {r : T} (hc : c ≠ 94) : Mi.scan S i (c :: r) = if S.contains c = true then Mi.scan S (i + 1) r else some (kS, i) := by
  conv => lhs; unfold Mi.scan
  rw [if_neg hc]
/-- nothing wrong, wherever it stands -/
def Nw (S l : T) : Prop := ∀ i, Mi.scan S i l = none
theorem scan_shift (S : T) : ∀ (n : Nat) (l : T) (i : Nat), l.length ≤ n → Mi.scan S i l = none → ∀ j, Mi.scan S j l = none
  | _, [], _, _, _, _ => rfl
  | 0, c :: r, _, h, _, _ => absurd h (by simp)
  | n + 1, c :: r, i, h, e, j => by
    have hr : r.length ≤ n := by simpa using h
    by_cases hc : c = 94
    · subst hc
      rw [scan_94] at e ⊢
      match r, hr, e with
      | [], _, e => cases e
      | [a], _, e => cases e
      | a :: b :: q, hr, e =>
        have e' : (if (HEXT.contains a && HEXT.contains b) = true then Mi.scan S (i + 3) q else some (kE, i)) = none := e
        show (if (HEXT.contains a && HEXT.contains b) = true then Mi.scan S (j + 3) q else some (kE, j)) = none
        cases hab : (HEXT.contains a && HEXT.contains b) with
        | false => rw [hab, if_neg Bool.false_ne_true] at e'; cases e'
        | true =>
          rw [hab, if_pos rfl] at e'
          rw [if_pos rfl]
          simp only [List.length_cons] at hr
          exact scan_shift S n q (i + 3) (by omega) e' (j + 3)
    · rw [scan_step hc] at e ⊢
      cases hs : S.contains c with
      | false => rw [hs, if_neg Bool.false_ne_true] at e; cases e
      | true =>
        rw [hs, if_pos rfl] at e
        rw [if_pos rfl]
        exact scan_shift S n r (i + 1) hr e (j + 1)
theorem Nw.of {S l : T} {i : Nat} (h : Mi.scan S i l = none) : Nw S l := scan_shift S l.length l i (Nat.le_refl _) h
theorem scan_app (S : T) (b : T) (hb : Nw S b) : ∀ (n : Nat) (l : T) (i : Nat), l.length ≤ n → Mi.scan S i l = none → Mi.scan S i (l ++ b) = none
  | _, [], i, _, _ => hb i
  | 0, c :: r, _, h, _ => absurd h (by simp)
  | n + 1, c :: r, i, h, e => by
    have hr : r.length ≤ n := by simpa using h
    by_cases hc : c = 94
    · subst hc
      rw [scan_94] at e
      match r, hr, e with
      | [], _, e => cases e
      | [a], _, e => cases e
      | x :: y :: q, hr, e =>
        have e' : (if (HEXT.contains x && HEXT.contains y) = true then Mi.scan S (i + 3) q else some (kE, i)) = none := e
        show Mi.scan S i (94 :: x :: y :: (q ++ b)) = none
        rw [scan_94]
        show (if (HEXT.contains x && HEXT.contains y) = true then Mi.scan S (i + 3) (q ++ b) else some (kE, i)) = none
        cases hab : (HEXT.contains x && HEXT.contains y) with
        | false => rw [hab, if_neg Bool.false_ne_true] at e'; cases e'
        | true =>
          rw [hab, if_pos rfl] at e'
          rw [if_pos rfl]
          simp only [List.length_cons] at hr
          exact scan_app S b hb n q (i + 3) (by omega) e'
    · rw [List.cons_append, scan_step hc]
      rw [scan_step hc] at e
      cases hs : S.contains c with
      | false => rw [hs, if_neg Bool.false_ne_true] at e; cases e
      | true =>
        rw [hs, if_pos rfl] at e
        rw [if_pos rfl]
        exact scan_app S b hb n r (i + 1) hr e
theorem Nw.nil {S : T} : Nw S [] := fun _ => rfl
theorem Nw.app {S a b : T} (ha : Nw S a) (hb : Nw S b) : Nw S (a ++ b) := fun i => scan_app S b hb a.length a i (Nat.le_refl _) (ha i)
theorem Nw.one {S : T} {c : Nat} (hc : c ≠ 94) (h : S.contains c = true) : Nw S [c] := fun i => by
  rw [scan_step hc, if_pos h]; rfl
theorem Nw.esc {S : T} {a b : Nat} (ha : HEXT.contains a = true) (hb : HEXT.contains b = true) : Nw S [94, a, b] := fun i => by
  rw [scan_94]
  show (if (HEXT.contains a && HEXT.contains b) = true then Mi.scan S (i + 3) [] else some (kE, i)) = none
  rw [ha, hb]; rfl
theorem Nw.tail {S r : T} {c : Nat} (hc : c ≠ 94) (h : Nw S (c :: r)) : Nw S r := by
  have := h 0
  rw [scan_step hc] at this
  cases hs : S.contains c with
  | false => rw [hs, if_neg Bool.false_ne_true] at this; cases this
  | true => rw [hs, if_pos rfl] at this; exact Nw.of this
theorem Nw.lit {S l : T} (h : (Mi.scan S 0 l).isNone = true) : Nw S l := Nw.of (Option.isNone_iff_eq_none.mp h)
/-- of the signs of z, and escapes -/
def Va (z t : T) : Prop := ∀ S : T, (∀ c, z.contains c = true → S.contains c = true) → Nw S t
theorem Va.nil {z : T} : Va z [] := fun _ _ => .nil
theorem Va.app {z a b : T} (ha : Va z a) (hb : Va z b) : Va z (a ++ b) := fun S h => (ha S h).app (hb S h)
theorem Va.one {z : T} {c : Nat} (hc : c ≠ 94) (h : z.contains c = true) : Va z [c] := fun S hs => .one hc (hs c h)
theorem Va.esc {z : T} {a b : Nat} (ha : HEXT.contains a = true) (hb : HEXT.contains b = true) : Va z [94, a, b] := fun S _ => .esc ha hb
theorem Va.use {z t S : T} (h : Va z t) (hs : z.all S.contains = true) : Nw S t := h S fun c hc => List.all_eq_true.mp hs c (List.contains_iff_mem.mp hc)
theorem nwJ {S : T} (h47 : S.contains 47 = true) : ∀ ps : List T, (∀ p ∈ ps, Nw S p) → Nw S (joinL [47] ps)
  | [], _ => .nil
  | [p], h => by
    have := h p (List.mem_cons_self ..)
    simpa only [joinL] using this
  | p :: q :: r, h => by
    have h1 := h p (List.mem_cons_self ..)
    have h2 := nwJ h47 (q :: r) fun x hx => h x (List.mem_cons_of_mem _ hx)
    simp only [joinL]
    exact h1.app ((Nw.one (by decide) h47).app h2)
end Mi
set_option Elab.async false
set_option linter.all false
set_option maxRecDepth 100000
/-! Ms: the mathematics of segments, stacks and cleaned paths, over lists of codes. -/
namespace Ms
open PySem PySem.Builtin PySem.Builtin.Str PySem.StrLaws L2 TL Mi
theorem cut_join {c : Nat} {ps : List T} (hne : ps ≠ []) (h : ∀ p ∈ ps, c ∉ p) : cut c (joinL [c] ps) = ps := by
  have a := spl_cut c (joinL [c] ps) []
  rw [TL.spl_join hne h] at a
  cases e : cut c (joinL [c] ps) with
  | nil => exact absurd e (cut_ne _ _)
  | cons p r => rw [e] at a; simpa using a.symm
theorem cut_free (c : Nat) : ∀ (l : T), ∀ p ∈ cut c l, c ∉ p
  | [], p, hp => by
    rw [List.mem_singleton.mp hp]
    exact List.not_mem_nil
  | d :: r, p, hp => by
    by_cases h : d = c
    · subst h
      rw [cut_hit] at hp
      rcases List.mem_cons.mp hp with e | hp
      · rw [e]; exact List.not_mem_nil
      · exact cut_free d r p hp
    · rw [cut_miss h] at hp
      have ih := cut_free c r
      cases e : cut c r with
      | nil => exact absurd e (cut_ne c r)
      | cons q qs =>
        rw [e] at hp ih
        rcases List.mem_cons.mp hp with e | hp
        · rw [e]
          intro z
          rcases List.mem_cons.mp z with z | z
          · exact h z.symm
          · exact ih q (List.mem_cons_self ..) z
        · exact ih p (List.mem_cons_of_mem _ hp)
theorem cut_mem (c : Nat) : ∀ (l : T), ∀ p ∈ cut c l, ∀ d ∈ p, d ∈ l
  | [], p, hp => by
    rw [List.mem_singleton.mp hp]
    exact fun d h => nomatch h
  | d :: r, p, hp => by
    by_cases h : d = c
    · subst h
      rw [cut_hit] at hp
      rcases List.mem_cons.mp hp with e | hp
      · rw [e]; exact fun d h => nomatch h
      · exact fun x hx => List.mem_cons_of_mem _ (cut_mem d r p hp x hx)
    · rw [cut_miss h] at hp
      have ih := cut_mem c r
      cases e : cut c r with
      | nil => exact absurd e (cut_ne c r)
      | cons q qs =>
        rw [e] at hp ih
        rcases List.mem_cons.mp hp with e | hp
        · rw [e]
          intro x z
          rcases List.mem_cons.mp z with z | z
          · rw [z]; exact List.mem_cons_self ..
          · exact List.mem_cons_of_mem _ (ih q (List.mem_cons_self ..) x z)
        · exact fun x hx => List.mem_cons_of_mem _ (ih p (List.mem_cons_of_mem _ hp) x hx)
/-- signs, and one for each piece -/
def wt (ps : List T) : Nat := (ps.map fun p => p.length + 1).sum
theorem wt_nil : wt [] = 0 := rfl
theorem wt_cons (p : T) (ps : List T) : wt (p :: ps) = p.length + 1 + wt ps := by simp [wt]
theorem wt_app (ps qs : List T) : wt (ps ++ qs) = wt ps + wt qs := by simp [wt]
theorem wt_cut (c : Nat) : ∀ l : T, wt (cut c l) = l.length + 1
  | [] => rfl
  | d :: r => by
    have ih := wt_cut c r
    by_cases h : d = c
    · subst h
      rw [cut_hit, wt_cons, ih]
      simp only [List.length_nil, List.length_cons]
      omega
    · rw [cut_miss h]
      cases e : cut c r with
      | nil => exact absurd e (cut_ne c r)
      | cons q qs =>
        rw [e, wt_cons] at ih
        simp only [wt_cons, List.length_cons]
        omega
theorem wt_join (c : Nat) : ∀ ps : List T, (joinL [c] ps).length ≤ wt ps
  | [] => Nat.zero_le _
  | [p] => by rw [wt_cons]; simp only [joinL]; omega
  | p :: q :: r => by
    have ih := wt_join c (q :: r)
    rw [wt_cons]
    simp only [joinL, List.length_append, List.length_cons, List.length_nil]
    omega
theorem wt_join1 (c : Nat) : ∀ ps : List T, ps ≠ [] → (joinL [c] ps).length + 1 = wt ps
  | [], h => absurd rfl h
  | [p], _ => by rw [wt_cons]; simp only [joinL, wt_nil, Nat.add_zero]
  | p :: q :: r, _ => by
    have ih := wt_join1 c (q :: r) (List.cons_ne_nil _ _)
    rw [wt_cons]
    simp only [joinL, List.length_append, List.length_cons, List.length_nil]
    omega
theorem wt_len (ps : List T) : ps.length ≤ wt ps := by
  induction ps with
  | nil => exact Nat.le_refl _
  | cons p r ih => rw [wt_cons, List.length_cons]; omega
theorem wt_sum (ps : List T) : (ps.map (·.length)).sum + ps.length = wt ps := by
  induction ps with
  | nil => rfl
  | cons p r ih => rw [wt_cons, List.map_cons, List.sum_cons, List.length_cons]; omega
theorem wt_drop (ps : List T) : wt ps.dropLast ≤ wt ps := by
  induction ps with
  | nil => exact Nat.le_refl _
  | cons p r ih =>
    cases r with
    | nil => rw [List.dropLast_singleton, wt_nil]; exact Nat.zero_le _
    | cons q s => rw [List.dropLast_cons_of_ne_nil (List.cons_ne_nil _ _), wt_cons, wt_cons]; omega
def isDot (s : T) : Bool := s == [46] || s == [46, 46]
/-- one segment on a stack -/
def stp (k : List T) (s : T) : List T := if s = [46] then k else if s = [46, 46] then k.dropLast else k ++ [s]
def lastDot (ss : List T) : Bool := match ss.getLast? with
  | some s => isDot s
  | none => false
/-- the stack of segments -/
def stkL (ss : List T) : List T := ss.foldl stp [] ++ (if lastDot ss = true then [[]] else [])
def stk (l : T) : List T := stkL (cut 47 (l.drop 1))
/-- the cleaned path; b: whether there is an authority -/
def cln (b : Bool) (l : T) : T := if l.take 1 = [47] then (if b = false ∧ (47 :: joinL [47] (stk l)).take 2 = [47, 47] then 47 :: 46 :: 47 :: joinL [47] (stk l) else 47 :: joinL [47] (stk l)) else l
theorem isDot_iff {s : T} : isDot s = true ↔ s = [46] ∨ s = [46, 46] := by simp [isDot]
theorem isDot_not {s : T} : isDot s = false ↔ s ≠ [46] ∧ s ≠ [46, 46] := by simp [isDot]
theorem stp_plain {k : List T} {s : T} (h : isDot s = false) : stp k s = k ++ [s] := by
  have h := isDot_not.mp h
  unfold stp
  rw [if_neg h.1, if_neg h.2]
theorem fold_plain : ∀ (ss k : List T), (∀ s ∈ ss, isDot s = false) → ss.foldl stp k = k ++ ss
  | [], k, _ => (List.append_nil _).symm
  | s :: r, k, h => by
    rw [List.foldl_cons, stp_plain (h s (List.mem_cons_self ..)), fold_plain r _ fun x hx => h x (List.mem_cons_of_mem _ hx), List.append_assoc]
    rfl
theorem lastDot_plain {ss : List T} (h : ∀ s ∈ ss, isDot s = false) : lastDot ss = false := by
  unfold lastDot
  cases e : ss.getLast? with
  | none => rfl
  | some s => exact h s (List.mem_of_getLast? e)
theorem stkL_plain {ss : List T} (h : ∀ s ∈ ss, isDot s = false) : stkL ss = ss := by
  unfold stkL
  rw [fold_plain ss [] h, lastDot_plain h, if_neg Bool.false_ne_true, List.append_nil, List.nil_append]
theorem stp_mem {k : List T} {s p : T} (h : p ∈ stp k s) : p ∈ k ∨ (p = s ∧ isDot s = false) := by
  unfold stp at h
  split at h
  · exact .inl h
  · split at h
    · exact .inl (List.dropLast_subset _ h)
    · rename_i h1 h2
      rcases List.mem_append.mp h with h | h
      · exact .inl h
      · exact .inr ⟨List.mem_singleton.mp h, isDot_not.mpr ⟨h1, h2⟩⟩
theorem fold_mem : ∀ {ss k : List T} {p : T}, p ∈ ss.foldl stp k → p ∈ k ∨ (p ∈ ss ∧ isDot p = false)
  | [], k, p, h => .inl h
  | s :: r, k, p, h => by
    rw [List.foldl_cons] at h
    rcases fold_mem h with h | h
    · rcases stp_mem h with h | ⟨rfl, h⟩
      · exact .inl h
      · exact .inr ⟨List.mem_cons_self .., h⟩
    · exact .inr ⟨List.mem_cons_of_mem _ h.1, h.2⟩
theorem stkL_mem {ss : List T} {p : T} (h : p ∈ stkL ss) : (p ∈ ss ∧ isDot p = false) ∨ p = [] := by
  unfold stkL at h
  rcases List.mem_append.mp h with h | h
  · rcases fold_mem h with h | h
    · exact nomatch h
    · exact .inl h
  · split at h
    · exact .inr (List.mem_singleton.mp h)
    · exact nomatch h
theorem stkL_dot {ss : List T} {p : T} (h : p ∈ stkL ss) : isDot p = false := by
  rcases stkL_mem h with h | h
  · exact h.2
  · rw [h]; rfl
theorem stkL_ne {ss : List T} (h : ss ≠ []) : stkL ss ≠ [] := by
  unfold stkL
  intro e
  obtain ⟨e1, e2⟩ := List.append_eq_nil_iff.mp e
  have hl : lastDot ss = false := by
    cases z : lastDot ss with
    | false => rfl
    | true => rw [z, if_pos rfl] at e2; cases e2
  obtain ⟨r, s, rfl⟩ : ∃ r s, ss = r ++ [s] := ⟨ss.dropLast, ss.getLast h, (List.dropLast_concat_getLast h).symm⟩
  have hd : isDot s = false := by
    unfold lastDot at hl
    rw [List.getLast?_append] at hl
    exact hl
  rw [List.foldl_append, List.foldl_cons, List.foldl_nil, stp_plain hd] at e1
  exact absurd e1 (by simp)
theorem stp_wt (k : List T) (s : T) : wt (stp k s) ≤ wt k + (s.length + 1) := by
  unfold stp
  split
  · omega
  · split
    · have := wt_drop k
      omega
    · rw [wt_app, wt_cons, wt_nil]; omega
theorem fold_wt : ∀ (ss k : List T), wt (ss.foldl stp k) ≤ wt k + wt ss
  | [], k => Nat.le_refl _
  | s :: r, k => by
    have := fold_wt r (stp k s)
    have := stp_wt k s
    rw [List.foldl_cons, wt_cons]
    omega
theorem stkL_wt (ss : List T) : wt (stkL ss) ≤ wt ss + 1 := by
  unfold stkL
  have := fold_wt ss []
  rw [wt_nil] at this
  rw [wt_app]
  split
  · rw [wt_cons, wt_nil]; simp only [List.length_nil]; omega
  · rw [wt_nil]; omega
theorem stk_wt (l : T) : wt (stk l) ≤ l.length + 2 := by
  have := stkL_wt (cut 47 (l.drop 1))
  rw [wt_cut, List.length_drop] at this
  show wt (stkL (cut 47 (l.drop 1))) ≤ _
  omega
theorem stk_ne (l : T) : stk l ≠ [] := stkL_ne (cut_ne _ _)
theorem stk_free {l p : T} (h : p ∈ stk l) : 47 ∉ p := by
  rcases stkL_mem h with h | h
  · exact cut_free 47 _ p h.1
  · rw [h]; exact List.not_mem_nil
theorem stk_sub {l p : T} (h : p ∈ stk l) : ∀ c ∈ p, c ∈ l := by
  rcases stkL_mem h with h | h
  · exact fun c hc => List.mem_of_mem_drop (cut_mem 47 _ p h.1 c hc)
  · rw [h]; exact fun c hc => nomatch hc
theorem stk_join (l : T) : stk (47 :: joinL [47] (stk l)) = stk l := by
  show stkL (cut 47 (joinL [47] (stk l))) = stk l
  rw [cut_join (stk_ne l) fun p hp => stk_free hp]
  exact stkL_plain fun p hp => stkL_dot hp
theorem stk_dot (l : T) : stk (47 :: 46 :: 47 :: joinL [47] (stk l)) = stk l := by
  show stkL (cut 47 (46 :: 47 :: joinL [47] (stk l))) = stk l
  rw [cut_miss (by decide), cut_hit, cut_join (stk_ne l) fun p hp => stk_free hp]
  show stkL ([46] :: stk l) = stk l
  unfold stkL
  have h1 : stp [] [46] = [] := rfl
  have hne := stk_ne l
  have h2 : lastDot ([46] :: stk l) = lastDot (stk l) := by
    unfold lastDot
    rw [List.getLast?_cons_of_ne_nil hne]
  have h3 : ∀ s ∈ stk l, isDot s = false := fun p hp => stkL_dot hp
  rw [List.foldl_cons, h1, h2, lastDot_plain h3, fold_plain _ _ h3, if_neg Bool.false_ne_true, List.append_nil, List.nil_append]
theorem cln_other {b : Bool} {l : T} (h : l.take 1 ≠ [47]) : cln b l = l := by
  unfold cln
  rw [if_neg h]
theorem cln_slash (b : Bool) (r : T) : cln b (47 :: r) = if b = false ∧ (47 :: joinL [47] (stk (47 :: r))).take 2 = [47, 47] then 47 :: 46 :: 47 :: joinL [47] (stk (47 :: r)) else 47 :: joinL [47] (stk (47 :: r)) := by
  unfold cln
  rw [if_pos (show List.take 1 (47 :: r) = [47] from rfl)]
theorem cln_cln (b : Bool) (l : T) : cln b (cln b l) = cln b l := by
  by_cases h : l.take 1 = [47]
  · by_cases h2 : b = false ∧ (47 :: joinL [47] (stk l)).take 2 = [47, 47]
    · have e : cln b l = 47 :: 46 :: 47 :: joinL [47] (stk l) := by
        unfold cln
        rw [if_pos h, if_pos h2]
      rw [e, cln_slash, stk_dot, if_pos h2]
    · have e : cln b l = 47 :: joinL [47] (stk l) := by
        unfold cln
        rw [if_pos h, if_neg h2]
      rw [e, cln_slash, stk_join, if_neg h2]
  · rw [cln_other h, cln_other h]
end Ms
set_option Elab.async false
set_option linter.all false
set_option maxRecDepth 100000
set_option maxHeartbeats 4000000
/-! Md: texts and lists of texts as values: slices, splits, beginnings. -/
namespace Md
open PySem PySem.Spec PyProof.Rows L2 Xs Mi Ms
open TL (tl)
theorem sl_to (z : Str) (n : Nat) : tl (cutS z none (some (n : Int))) = (tl z).take n := by
  show ((tl z).drop (HT.sIx z.length 0 none)).take _ = _
  rw [HT.sIx_nat, HT.sIx_none, List.drop_zero, Nat.sub_zero]
  rw [TL.len_tl]
  by_cases h : n ≤ (tl z).length
  · rw [Nat.min_eq_left h]
  · rw [Nat.min_eq_right (by omega), List.take_of_length_le (Nat.le_refl _), List.take_of_length_le (by omega)]
theorem sl_from (z : Str) (n : Nat) : tl (cutS z (some (n : Int)) none) = (tl z).drop n := by
  show ((tl z).drop (HT.sIx z.length 0 (some (n : Int)))).take _ = _
  rw [HT.sIx_nat, HT.sIx_none, TL.len_tl]
  rw [List.take_of_length_le (by rw [List.length_drop]; exact Nat.le_refl _)]
  by_cases h : n ≤ (tl z).length
  · rw [Nat.min_eq_left h]
  · rw [Nat.min_eq_right (by omega), List.drop_length, List.drop_of_length_le (by omega)]
theorem sl_mid (z : Str) (m n : Nat) : tl (cutS z (some (m : Int)) (some (n : Int))) = ((tl z).drop m).take (n - m) := by
  show ((tl z).drop (HT.sIx z.length 0 (some (m : Int)))).take _ = _
  rw [HT.sIx_nat, HT.sIx_nat, TL.len_tl]
  by_cases h : m ≤ (tl z).length
  · rw [Nat.min_eq_left h]
    by_cases h2 : n ≤ (tl z).length
    · rw [Nat.min_eq_left h2]
    · rw [Nat.min_eq_right (by omega)]
      rw [List.take_of_length_le (by rw [List.length_drop]; exact Nat.le_refl _), List.take_of_length_le (by rw [List.length_drop]; omega)]
  · have e : ∀ k : Nat, (List.drop (min m (tl z).length) (tl z)).take k = [] := fun k => by
      rw [show min m (tl z).length = (tl z).length by omega, List.drop_length, List.take_nil]
    rw [e, List.drop_of_length_le (by omega), List.take_nil]
theorem sl_len (z : Str) (lo hi : Option Int) : (cutS z lo hi).length ≤ z.length := by
  show ((z.cps.toList.drop _).take _).toArray.size ≤ z.cps.size
  simp only [List.size_toArray, List.length_take, List.length_drop, Array.length_toList]
  omega
theorem cutV_tail {x : V} {xs : List V} : cutV (x :: xs) (some 1) none = xs := by
  show ((x :: xs).drop (HT.sIx (x :: xs).length 0 (some 1))).take _ = xs
  have e : HT.sIx (x :: xs).length 0 (some 1) = 1 := by
    rw [show (some (1 : Int)) = some ((1 : Nat) : Int) from rfl, HT.sIx_nat]
    simp only [List.length_cons]
    omega
  rw [e, HT.sIx_none]
  simp
theorem str_dot {z : Str} : z = Str.ofString "." ↔ tl z = [46] := ⟨fun h => by rw [h]; rfl, fun h => TL.ext_tl h⟩
theorem str_dots {z : Str} : z = Str.ofString ".." ↔ tl z = [46, 46] := ⟨fun h => by rw [h]; rfl, fun h => TL.ext_tl h⟩
theorem inV_dot (z : Str) : inV (V.str z) [V.str (Str.ofString "."), V.str (Str.ofString "..")] = isDot (tl z) := by
  have e : inV (V.str z) [V.str (Str.ofString "."), V.str (Str.ofString "..")] = (decide (z = Str.ofString ".") || decide (z = Str.ofString "..")) := by
    unfold inV
    simp only [List.any_cons, List.any_nil, Bool.or_false]
    congr 1 <;> (simp only [eqV]; exact decide_eq_decide.mpr ⟨fun h => h.symm, fun h => h.symm⟩)
  rw [e, Bool.eq_iff_iff, isDot_iff]
  simp only [Bool.or_eq_true, decide_eq_true_eq, str_dot, str_dots]
theorem split_slash {t : Str} (h : (tl t).take 1 = [47]) : ∃ z zs, Txt.split t (Str.ofString "/") = z :: zs ∧ zs.map tl = cut 47 ((tl t).drop 1) := by
  have e := split_cut t 47 (by decide)
  obtain ⟨r, hr⟩ : ∃ r, tl t = 47 :: r := by
    cases z : tl t with
    | nil => rw [z] at h; cases h
    | cons c r => rw [z] at h; exact ⟨r, by rw [show c = 47 from by simpa using h]⟩
  rw [hr, cut_hit] at e
  change (Txt.split t (Str.ofString "/")).map tl = _ at e
  cases z : Txt.split t (Str.ofString "/") with
  | nil => rw [z] at e; cases e
  | cons y ys =>
    rw [z] at e
    refine ⟨y, ys, rfl, ?_⟩
    rw [hr]
    exact (List.cons.inj e).2
theorem take_snoc {α : Type} {zs : List α} {i : Nat} {z : α} (h : zs[i]? = some z) : zs.take (i + 1) = zs.take i ++ [z] := by
  rw [List.take_succ, h]; rfl
theorem map_str {zs : List Str} {i : Nat} {x : V} (h : (zs.map V.str)[i]? = some x) : ∃ z, zs[i]? = some z ∧ x = V.str z := by
  rw [List.getElem?_map] at h
  cases e : zs[i]? with
  | none => rw [e] at h; cases h
  | some z => rw [e] at h; exact ⟨z, rfl, (Option.some.inj h).symm⟩
theorem last_str {zs : List Str} (h : zs ≠ []) : ∃ z, atI (zs.map V.str) (-1) = some (V.str z) ∧ zs.getLast? = some z := by
  obtain ⟨r, s, rfl⟩ : ∃ r s, zs = r ++ [s] := ⟨zs.dropLast, zs.getLast h, (List.dropLast_concat_getLast h).symm⟩
  refine ⟨s, ?_, by simp⟩
  unfold atI ixN
  rw [if_neg (by decide), if_pos (by simp only [List.map_append, List.length_append, List.length_map, List.map_cons, List.length_cons]; omega)]
  show ((r ++ [s]).map V.str)[_]? = _
  have e : (-1 + (((r ++ [s]).map V.str).length : Int)).toNat = r.length := by
    simp only [List.length_map, List.length_append, List.length_cons, List.length_nil]; omega
  rw [e]
  simp
theorem slash_of {t : Str} : cutS t none (some 1) = Str.ofString "/" ↔ (tl t).take 1 = [47] := by
  have h := sl_to t 1
  exact ⟨fun e => by rw [← h]; show tl (cutS t none (some 1)) = _; rw [e]; rfl, fun e => TL.ext_tl (h.trans e)⟩
theorem slashes_of {t : Str} : cutS t none (some 2) = Str.ofString "//" ↔ (tl t).take 2 = [47, 47] := by
  have h := sl_to t 2
  exact ⟨fun e => by rw [← h]; show tl (cutS t none (some 2)) = _; rw [e]; rfl, fun e => TL.ext_tl (h.trans e)⟩
theorem starts1 (t : Str) : Txt.startswith t (Str.ofString "/") = decide ((tl t).take 1 = [47]) := by
  rw [sw_pre t _ (by decide)]
  show TL.pre [47] (tl t) = _
  rw [Bool.eq_iff_iff, decide_eq_true_eq]
  cases tl t with
  | nil => simp [TL.pre]
  | cons c r => simp [TL.pre]
theorem starts2 (t : Str) : Txt.startswith t (Str.ofString "//") = decide ((tl t).take 2 = [47, 47]) := by
  rw [sw_pre t _ (by decide)]
  show TL.pre [47, 47] (tl t) = _
  rw [Bool.eq_iff_iff, decide_eq_true_eq]
  cases tl t with
  | nil => simp [TL.pre]
  | cons c r => cases r with
    | nil => simp [TL.pre]
    | cons d r => simp [TL.pre]
theorem cutV_init (xs : List V) : cutV xs none (some (if (xs.length : Int) - 1 > 0 then (xs.length : Int) - 1 else 0)) = xs.dropLast := by
  have e : (if (xs.length : Int) - 1 > 0 then (xs.length : Int) - 1 else 0) = ((xs.length - 1 : Nat) : Int) := by
    split <;> omega
  rw [e]
  show (xs.drop (HT.sIx xs.length 0 none)).take _ = _
  rw [HT.sIx_nat, HT.sIx_none, List.drop_zero, Nat.sub_zero, List.dropLast_eq_take]
  rw [Nat.min_eq_left (by omega)]
end Md
set_option Elab.async false
set_option linter.all false
set_option maxRecDepth 100000
set_option maxHeartbeats 4000000
/-! Mq: folders of paths, right signs of cleaned paths. -/
namespace Mq
open PySem PySem.Spec PyProof.Rows L2 Xs Mi Ms Md
open TL (tl joinL)
theorem cut_app (c : Nat) : ∀ a b : T, cut c (a ++ c :: b) = cut c a ++ cut c b
  | [], b => by rw [List.nil_append, cut_hit]; rfl
  | d :: r, b => by
    have ih := cut_app c r b
    rw [List.cons_append]
    by_cases h : d = c
    · subst h
      rw [cut_hit, cut_hit, ih]; rfl
    · rw [cut_miss h, cut_miss h, ih]
      cases e : cut c r with
      | nil => exact absurd e (cut_ne c r)
      | cons p ps => rfl
theorem cut_none {c : Nat} : ∀ {l : T}, c ∉ l → cut c l = [l]
  | [], _ => rfl
  | d :: r, h => by
    have h1 : d ≠ c := fun e => h (by rw [e]; exact List.mem_cons_self ..)
    have ih := cut_none (c := c) (l := r) fun e => h (List.mem_cons_of_mem _ e)
    rw [cut_miss h1, ih]
theorem last_split {c : Nat} : ∀ {l : T}, c ∈ l → ∃ a b, l = a ++ c :: b ∧ c ∉ b
  | [], h => nomatch h
  | d :: r, h => by
    by_cases hr : c ∈ r
    · obtain ⟨a, b, e, hb⟩ := last_split hr
      exact ⟨d :: a, b, by rw [e]; rfl, hb⟩
    · have : d = c := by
        rcases List.mem_cons.mp h with e | e
        · exact e.symm
        · exact absurd e hr
      exact ⟨[], r, by rw [this]; rfl, hr⟩
/-- what stands behind the last slash -/
def lastP (l : T) : T := (cut 47 l).getLast?.getD []
theorem lastP_none {l : T} (h : 47 ∉ l) : lastP l = l := by
  unfold lastP
  rw [cut_none h]; rfl
theorem lastP_app {a b : T} (h : 47 ∉ b) : lastP (a ++ 47 :: b) = b := by
  unfold lastP
  rw [cut_app, cut_none h, List.getLast?_append]
  rfl
/-- the folder of a path -/
def fld (l : T) : T := if l.take (l.length - (lastP l).length) = [] then [47] else l.take (l.length - (lastP l).length)
theorem take_pre (a b : T) : (a ++ 47 :: b).take ((a ++ 47 :: b).length - b.length) = a ++ [47] := by
  have e : (a ++ 47 :: b).length - b.length = (a ++ [47]).length := by
    simp only [List.length_append, List.length_cons, List.length_nil]; omega
  rw [e, show a ++ 47 :: b = (a ++ [47]) ++ b by simp, List.take_left]
theorem fld_none {l : T} (h : 47 ∉ l) : fld l = [47] := by
  unfold fld
  rw [lastP_none h, Nat.sub_self, List.take_zero, if_pos rfl]
theorem fld_app {a b : T} (h : 47 ∉ b) : fld (a ++ 47 :: b) = a ++ [47] := by
  unfold fld
  rw [lastP_app h, take_pre, if_neg (by simp)]
theorem fld_len (l : T) : (fld l).length ≤ l.length + 1 := by
  unfold fld
  split
  · simp
  · rw [List.length_take]; omega
/-- what rfind tells -/
theorem rfind_slash (t : Str) : (Txt.rfind t (Str.ofString "/") = -1 ∧ 47 ∉ tl t) ∨ ∃ a b, tl t = a ++ 47 :: b ∧ 47 ∉ b ∧ Txt.rfind t (Str.ofString "/") = (a.length : Nat) := by
  have hl := TL.len_tl t
  rcases rfind_whole t (Str.ofString "/") with ⟨e, hn⟩ | ⟨i, e, hi, hn⟩
  · refine .inl ⟨e, fun h => ?_⟩
    obtain ⟨k, hk, e2⟩ := List.mem_iff_getElem.mp h
    exact hn k ((at_one t 47 t.length k (by omega)).mpr ⟨by omega, by rw [List.getElem?_eq_getElem hk, e2]⟩)
  · refine .inr ?_
    have hi2 := (at_one t 47 t.length i (by omega)).mp hi
    obtain ⟨hlt, e2⟩ := List.getElem?_eq_some_iff.mp hi2.2
    obtain ⟨a, b, e3, hb⟩ := last_split (c := 47) (l := tl t) (by rw [← e2]; exact List.getElem_mem hlt)
    refine ⟨a, b, e3, hb, ?_⟩
    rw [e]
    have h1 : ¬ i < a.length := fun z => by
      refine hn a.length z ((at_one t 47 t.length a.length (by omega)).mpr ⟨?_, ?_⟩)
      · rw [hl, e3]; simp only [List.length_append, List.length_cons]; omega
      · rw [e3]; simp
    have h2 : ¬ a.length < i := fun z => by
      refine hb ?_
      have := hi2.2
      rw [e3, List.getElem?_append_right (by omega)] at this
      obtain ⟨k, hk⟩ : ∃ k, i - a.length = k + 1 := ⟨i - a.length - 1, by omega⟩
      rw [hk, List.getElem?_cons_succ] at this
      exact List.mem_of_getElem? this
    omega
/-! ### right signs -/
theorem hex47 : HEXT.contains 47 = false := by decide +kernel
theorem scan_cut {S b : T} : ∀ (n : Nat) (a : T) (i : Nat), a.length ≤ n → Mi.scan S i (a ++ 47 :: b) = none → Mi.scan S i a = none ∧ ∃ j, Mi.scan S j b = none
  | n, [], i, _, h => by
    rw [List.nil_append, scan_step (by decide)] at h
    refine ⟨rfl, ?_⟩
    cases hc : S.contains 47 with
    | true => rw [hc, if_pos rfl] at h; exact ⟨_, h⟩
    | false => rw [hc, if_neg Bool.false_ne_true] at h; cases h
  | 0, c :: r, i, hl, h => absurd hl (by simp)
  | n + 1, c :: r, i, hl, h => by
    simp only [List.length_cons] at hl
    by_cases h94 : c = 94
    · subst h94
      rw [List.cons_append, scan_94] at h
      match r, hl, h with
      | [], hl, h =>
        cases b with
        | nil => cases h
        | cons y q =>
          dsimp only [List.nil_append] at h
          rw [hex47, Bool.false_and] at h
          cases h
      | [x], hl, h =>
        dsimp only [List.nil_append, List.cons_append] at h
        rw [hex47, Bool.and_false] at h
        cases h
      | x :: y :: q, hl, h =>
        dsimp only [List.cons_append] at h
        simp only [List.length_cons] at hl
        cases hx : (HEXT.contains x && HEXT.contains y) with
        | false => rw [hx] at h; cases h
        | true =>
          rw [hx, if_pos rfl] at h
          have ih := scan_cut n q (i + 3) (by omega) h
          refine ⟨?_, ih.2⟩
          rw [scan_94]
          dsimp only
          rw [hx, if_pos rfl]
          exact ih.1
    · rw [List.cons_append, scan_step h94] at h
      rw [scan_step h94]
      cases hc : S.contains c with
      | false => rw [hc, if_neg Bool.false_ne_true] at h; cases h
      | true =>
        rw [hc, if_pos rfl] at h
        rw [if_pos rfl]
        exact scan_cut n r (i + 1) (by omega) h
theorem nw_split {S a b : T} (h : Nw S (a ++ 47 :: b)) : Nw S a ∧ Nw S b := by
  obtain ⟨h1, j, h2⟩ := scan_cut a.length a 0 (Nat.le_refl _) (h 0)
  exact ⟨.of h1, .of h2⟩
theorem nw_cut {S : T} : ∀ (n : Nat) (l : T), l.length ≤ n → Nw S l → ∀ p ∈ cut 47 l, Nw S p
  | n, l, hl, h, p, hp => by
    by_cases hm : 47 ∈ l
    · obtain ⟨a, b, e, hb⟩ := last_split hm
      subst e
      have := nw_split h
      rw [cut_app, cut_none hb] at hp
      simp only [List.length_append, List.length_cons] at hl
      match n, hl with
      | n + 1, hl =>
        rcases List.mem_append.mp hp with hp | hp
        · exact nw_cut n a (by omega) this.1 p hp
        · rw [List.mem_singleton.mp hp]; exact this.2
    · rw [cut_none hm] at hp
      rw [List.mem_singleton.mp hp]; exact h
theorem nw_stk {S l : T} (h : Nw S l) (h1 : l.take 1 = [47]) : ∀ p ∈ stk l, Nw S p := by
  intro p hp
  obtain ⟨r, er⟩ : ∃ r, l = 47 :: r := by
    cases l with
    | nil => cases h1
    | cons c r => exact ⟨r, by rw [show c = 47 from by simpa using h1]⟩
  subst er
  have hr : Nw S r := (nw_split (a := []) h).2
  rcases stkL_mem hp with hp | hp
  · exact nw_cut r.length r (Nat.le_refl _) hr p hp.1
  · rw [hp]; exact Nw.nil
theorem nw_cln {S l : T} (h47 : S.contains 47 = true) (h46 : S.contains 46 = true) (b : Bool) (h : Nw S l) : Nw S (cln b l) := by
  by_cases h1 : l.take 1 = [47]
  · have hj := nwJ h47 (stk l) (nw_stk h h1)
    have hf : Nw S (47 :: joinL [47] (stk l)) := (Nw.one (by decide) h47).app hj
    obtain ⟨r, er⟩ : ∃ r, l = 47 :: r := by
      cases l with
      | nil => cases h1
      | cons c r => exact ⟨r, by rw [show c = 47 from by simpa using h1]⟩
    subst er
    rw [cln_slash]
    split
    · exact ((Nw.one (by decide) h47).app (Nw.one (by decide) h46)).app hf
    · exact hf
  · rw [cln_other h1]; exact h
theorem nw_fld {S l : T} (h47 : S.contains 47 = true) (h : Nw S l) : Nw S (fld l) := by
  by_cases hm : 47 ∈ l
  · obtain ⟨a, b, e, hb⟩ := last_split hm
    subst e
    rw [fld_app hb]
    exact (nw_split h).1.app (Nw.one (by decide) h47)
  · rw [fld_none hm]; exact Nw.one (by decide) h47
theorem fld_head {l : T} (h : l = [] ∨ l.take 1 = [47]) : (fld l).take 1 = [47] := by
  by_cases hm : 47 ∈ l
  · obtain ⟨a, b, e, hb⟩ := last_split hm
    subst e
    rw [fld_app hb]
    cases a with
    | nil => rfl
    | cons c r =>
      rcases h with h | h
      · cases h
      · simpa using h
  · rw [fld_none hm]; rfl
theorem cln_head {b : Bool} {l : T} (h : l.take 1 = [47]) : (cln b l).take 1 = [47] := by
  obtain ⟨r, er⟩ : ∃ r, l = 47 :: r := by
    cases l with
    | nil => cases h
    | cons c r => exact ⟨r, by rw [show c = 47 from by simpa using h]⟩
  subst er
  rw [cln_slash]
  split <;> rfl
theorem cln_two {l : T} (h : l.take 2 ≠ [47, 47]) : (cln false l).take 2 ≠ [47, 47] := by
  by_cases h1 : l.take 1 = [47]
  · obtain ⟨r, er⟩ : ∃ r, l = 47 :: r := by
      cases l with
      | nil => cases h1
      | cons c r => exact ⟨r, by rw [show c = 47 from by simpa using h1]⟩
    subst er
    rw [cln_slash]
    split
    · intro e
      exact absurd (List.cons.inj (List.cons.inj e).2).1 (by decide)
    · rename_i n
      exact fun e => n ⟨rfl, e⟩
  · rw [cln_other h1]; exact h
theorem cln_two' {l : T} (h1 : l.take 1 = [47]) : (cln false l).take 2 ≠ [47, 47] := by
  obtain ⟨r, er⟩ : ∃ r, l = 47 :: r := by
    cases l with
    | nil => cases h1
    | cons c r => exact ⟨r, by rw [show c = 47 from by simpa using h1]⟩
  subst er
  rw [cln_slash]
  split
  · intro e
    exact absurd (List.cons.inj (List.cons.inj e).2).1 (by decide)
  · rename_i n
    exact fun e => n ⟨rfl, e⟩
theorem cln_len (b : Bool) (l : T) : (cln b l).length ≤ l.length + 5 := by
  by_cases h1 : l.take 1 = [47]
  · have h2 := stk_wt l
    have h3 := wt_join 47 (stk l)
    unfold cln
    rw [if_pos h1]
    split <;> simp only [List.length_cons] <;> omega
  · rw [cln_other h1]; omega
end Mq
set_option Elab.async false
set_option linter.all false
set_option maxRecDepth 100000
/-! Me: plain segments exchanged, over lists of codes. -/
namespace Me
open PySem PySem.Builtin PySem.Builtin.Str PySem.StrLaws L2 TL Mi Ms Mq
/-- a way to exchange segments -/
structure Fx (f : T → T) : Prop where
  nil : f [] = []
  d1 : f [46] = [46]
  d2 : f [46, 46] = [46, 46]
  ne : ∀ x, f x = [] → x = []
  n1 : ∀ x, f x = [46] → x = [46]
  n2 : ∀ x, f x = [46, 46] → x = [46, 46]
  fr : ∀ x, 47 ∉ x → 47 ∉ f x
  len : ∀ x, (f x).length ≤ x.length + 8
/-- a path with its segments exchanged -/
def ex (f : T → T) (l : T) : T := joinL [47] ((cut 47 l).map f)
variable {f : T → T}
theorem cut_ex (h : Fx f) (l : T) : cut 47 (ex f l) = (cut 47 l).map f := by
  refine cut_join (fun e => cut_ne 47 l (List.map_eq_nil_iff.mp e)) fun p hp => ?_
  obtain ⟨q, hq, rfl⟩ := List.mem_map.mp hp
  exact h.fr q (cut_free 47 l q hq)
theorem ex_join {ps : List T} (hne : ps ≠ []) (hp : ∀ p ∈ ps, 47 ∉ p) : ex f (joinL [47] ps) = joinL [47] (ps.map f) := by
  unfold ex
  rw [cut_join hne hp]
theorem join_cut (l : T) : joinL [47] (cut 47 l) = l := by
  induction l with
  | nil => rfl
  | cons d r ih =>
    by_cases h : d = 47
    · subst h
      rw [cut_hit]
      cases e : cut 47 r with
      | nil => exact absurd e (cut_ne 47 r)
      | cons p ps =>
        rw [e] at ih
        show [] ++ ([47] ++ joinL [47] (p :: ps)) = 47 :: r
        rw [ih]; rfl
    · rw [cut_miss h]
      cases e : cut 47 r with
      | nil => exact absurd e (cut_ne 47 r)
      | cons p ps =>
        rw [e] at ih
        cases ps with
        | nil =>
          show d :: p = d :: r
          rw [show p = r from ih]
        | cons q qs =>
          show d :: p ++ ([47] ++ joinL [47] (q :: qs)) = d :: r
          rw [← ih]
          rfl
theorem joinL_app {c : Nat} : ∀ {a b : List T}, a ≠ [] → b ≠ [] → joinL [c] (a ++ b) = joinL [c] a ++ c :: joinL [c] b
  | [], _, h, _ => absurd rfl h
  | [p], [], _, h => absurd rfl h
  | [p], q :: r, _, _ => rfl
  | p :: q :: r, b, _, hb => by
    have ih := joinL_app (c := c) (a := q :: r) (List.cons_ne_nil _ _) hb
    show p ++ ([c] ++ joinL [c] ((q :: r) ++ b)) = p ++ ([c] ++ joinL [c] (q :: r)) ++ c :: joinL [c] b
    rw [ih]
    simp [List.append_assoc]
theorem ex_app (a b : T) : ex f (a ++ 47 :: b) = ex f a ++ 47 :: ex f b := by
  unfold ex
  rw [cut_app, List.map_append]
  exact joinL_app (fun e => cut_ne 47 a (List.map_eq_nil_iff.mp e)) (fun e => cut_ne 47 b (List.map_eq_nil_iff.mp e))
theorem ex_free {l : T} (h : 47 ∉ l) : ex f l = f l := by
  unfold ex
  rw [cut_none h]
  rfl
theorem ex_nil (h : Fx f) : ex f [] = [] := by
  rw [ex_free List.not_mem_nil, h.nil]
theorem ex_slash (h : Fx f) (r : T) : ex f (47 :: r) = 47 :: ex f r := by
  have := ex_app (f := f) [] r
  rw [ex_nil h] at this
  exact this
theorem bef_mem_not (l : T) : 47 ∉ bef 47 l := by
  induction l with
  | nil => exact List.not_mem_nil
  | cons d r ih =>
    by_cases h : d = 47
    · subst h
      rw [bef_hit]
      exact List.not_mem_nil
    · rw [bef_miss h]
      intro z
      rcases List.mem_cons.mp z with z | z
      · exact h z.symm
      · exact ih z
theorem head_or (l : T) : l = [] ∨ (∃ r, l = 47 :: r) ∨ ∃ p t, l = p ++ t ∧ p ≠ [] ∧ 47 ∉ p ∧ (t = [] ∨ ∃ r, t = 47 :: r) := by
  by_cases h47 : 47 ∈ l
  · obtain ⟨i, hi⟩ : ∃ a b, l = a ++ 47 :: b ∧ 47 ∉ a := by
      have := bef_aft (c := 47) (l := l) (List.contains_iff_mem.mpr h47)
      exact ⟨_, _, this, bef_mem_not l⟩
    obtain ⟨b, e, ha⟩ := hi
    cases i with
    | nil => exact .inr (.inl ⟨b, e⟩)
    | cons c r => exact .inr (.inr ⟨c :: r, 47 :: b, e, List.cons_ne_nil _ _, ha, .inr ⟨b, rfl⟩⟩)
  · cases l with
    | nil => exact .inl rfl
    | cons c r => exact .inr (.inr ⟨c :: r, [], (List.append_nil _).symm, List.cons_ne_nil _ _, h47, .inl rfl⟩)
theorem ex_parts (h : Fx f) {p t : T} (hp : 47 ∉ p) (ht : t = [] ∨ ∃ r, t = 47 :: r) : ∃ t', ex f (p ++ t) = f p ++ t' ∧ (t' = [] ∨ ∃ r, t' = 47 :: r) := by
  rcases ht with rfl | ⟨r, rfl⟩
  · exact ⟨[], by rw [List.append_nil, ex_free hp, List.append_nil], .inl rfl⟩
  · exact ⟨47 :: ex f r, by rw [ex_app, ex_free hp], .inr ⟨_, rfl⟩⟩
theorem ex_emp (h : Fx f) {l : T} : ex f l = [] ↔ l = [] := by
  refine ⟨fun e => ?_, fun e => by rw [e, ex_nil h]⟩
  rcases head_or l with rfl | ⟨r, rfl⟩ | ⟨p, t, rfl, hp, hf, ht⟩
  · rfl
  · rw [ex_slash h] at e
    cases e
  · obtain ⟨t', e2, _⟩ := ex_parts h hf ht
    rw [e2] at e
    exact absurd (h.ne p (List.append_eq_nil_iff.mp e).1) hp
theorem ex_head (h : Fx f) {l : T} : (ex f l).take 1 = [47] ↔ l.take 1 = [47] := by
  rcases head_or l with rfl | ⟨r, rfl⟩ | ⟨p, t, rfl, hp, hf, ht⟩
  · rw [ex_nil h]
  · rw [ex_slash h]
    exact ⟨fun _ => rfl, fun _ => rfl⟩
  · obtain ⟨t', e2, _⟩ := ex_parts h hf ht
    have hq : f p ≠ [] := fun e => hp (h.ne p e)
    have hfq := h.fr p hf
    rw [e2]
    have no : ∀ (q s : T), q ≠ [] → 47 ∉ q → (q ++ s).take 1 ≠ [47] := fun q s h1 h2 e => by
      cases q with
      | nil => exact h1 rfl
      | cons c r => exact h2 (by rw [show c = 47 from (List.cons.inj e).1]; exact List.mem_cons_self ..)
    exact ⟨fun e => absurd e (no _ _ hq hfq), fun e => absurd e (no _ _ hp hf)⟩
theorem stp_map (h : Fx f) (k : List T) (s : T) : stp (k.map f) (f s) = (stp k s).map f := by
  unfold stp
  by_cases h1 : s = [46]
  · subst h1
    rw [if_pos rfl, if_pos h.d1]
  · rw [if_neg h1, if_neg fun e => h1 (h.n1 s e)]
    by_cases h2 : s = [46, 46]
    · subst h2
      rw [if_pos rfl, if_pos h.d2, List.map_dropLast]
    · rw [if_neg h2, if_neg fun e => h2 (h.n2 s e), List.map_append]
      rfl
theorem fold_map (h : Fx f) : ∀ (ss k : List T), (ss.map f).foldl stp (k.map f) = (ss.foldl stp k).map f
  | [], _ => rfl
  | s :: r, k => by
    rw [List.map_cons, List.foldl_cons, List.foldl_cons, stp_map h, fold_map h r]
theorem isDot_map (h : Fx f) (s : T) : isDot (f s) = isDot s := by
  rw [Bool.eq_iff_iff, isDot_iff, isDot_iff]
  constructor
  · rintro (e | e)
    · exact .inl (h.n1 s e)
    · exact .inr (h.n2 s e)
  · rintro (rfl | rfl)
    · exact .inl h.d1
    · exact .inr h.d2
theorem lastDot_map (h : Fx f) (ss : List T) : lastDot (ss.map f) = lastDot ss := by
  unfold lastDot
  rw [List.getLast?_map]
  cases ss.getLast? with
  | none => rfl
  | some s => exact isDot_map h s
theorem stkL_map (h : Fx f) (ss : List T) : stkL (ss.map f) = (stkL ss).map f := by
  unfold stkL
  rw [show ([] : List T) = ([] : List T).map f from rfl, fold_map h, lastDot_map h, List.map_append]
  split
  · rw [List.map_cons, h.nil]
    rfl
  · rfl
theorem stk_ex (h : Fx f) (r : T) : stk (47 :: ex f r) = (stk (47 :: r)).map f := by
  show stkL (cut 47 (ex f r)) = (stkL (cut 47 r)).map f
  rw [cut_ex h, stkL_map h]
theorem two_ex (h : Fx f) {r : T} : (47 :: ex f r).take 2 = [47, 47] ↔ (47 :: r).take 2 = [47, 47] := by
  have a : ∀ l : T, (47 :: l).take 2 = [47, 47] ↔ l.take 1 = [47] := fun l => by
    cases l with
    | nil => simp
    | cons c s => simp
  rw [a, a]
  exact ex_head h
theorem cln_ex (h : Fx f) (b : Bool) (l : T) : cln b (ex f l) = ex f (cln b l) := by
  by_cases h1 : l.take 1 = [47]
  · obtain ⟨r, rfl⟩ : ∃ r, l = 47 :: r := by
      cases l with
      | nil => cases h1
      | cons c r => exact ⟨r, by rw [show c = 47 from (List.cons.inj h1).1]⟩
    have ej : joinL [47] ((stk (47 :: r)).map f) = ex f (joinL [47] (stk (47 :: r))) := (ex_join (stk_ne _) fun p hp => stk_free hp).symm
    rw [ex_slash h, cln_slash, cln_slash, stk_ex h, ej]
    by_cases c : b = false ∧ (47 :: joinL [47] (stk (47 :: r))).take 2 = [47, 47]
    · rw [if_pos c, if_pos ⟨c.1, (two_ex h).mpr c.2⟩, ex_slash h, show (46 :: 47 :: joinL [47] (stk (47 :: r)) : T) = [46] ++ 47 :: joinL [47] (stk (47 :: r)) from rfl, ex_app, ex_free (l := [46]) (by decide), h.d1]
      rfl
    · rw [if_neg c, if_neg fun z => c ⟨z.1, (two_ex h).mp z.2⟩, ex_slash h]
  · rw [cln_other h1, cln_other fun e => h1 ((ex_head h).mp e)]
theorem road_ex (h : Fx f) (l r : T) : ex f (fld l ++ r) = fld (ex f l) ++ ex f r := by
  by_cases h47 : 47 ∈ l
  · obtain ⟨a, b, rfl, hb⟩ := last_split h47
    rw [fld_app hb, ex_app, ex_free (l := b) hb, fld_app (h.fr b hb), List.append_assoc, List.append_assoc]
    exact ex_app a r
  · rw [fld_none h47, ex_free h47, fld_none (h.fr l h47)]
    exact ex_slash h r
theorem wt_map (h : Fx f) (ps : List T) : wt (ps.map f) ≤ 9 * wt ps := by
  induction ps with
  | nil => exact Nat.zero_le _
  | cons p r ih =>
    rw [List.map_cons, wt_cons, wt_cons]
    have := h.len p
    omega
theorem ex_len (h : Fx f) (l : T) : (ex f l).length ≤ 9 * l.length + 8 := by
  have e1 := wt_join1 47 ((cut 47 l).map f) fun e => cut_ne 47 l (List.map_eq_nil_iff.mp e)
  have e2 := wt_map h (cut 47 l)
  have e3 := wt_cut 47 l
  unfold ex
  omega
theorem ex_bef (h : Fx f) (l : T) : bef 47 (ex f l) = f (bef 47 l) := by
  rcases head_or l with rfl | ⟨r, rfl⟩ | ⟨p, t, rfl, hp, hf, ht⟩
  · rw [ex_nil h]
    exact h.nil.symm
  · rw [ex_slash h, bef_hit, bef_hit, h.nil]
  · have cb : ∀ {p : T}, 47 ∉ p → ∀ t : T, (t = [] ∨ ∃ r, t = 47 :: r) → bef 47 (p ++ t) = p := fun {p} hp t ht => by
      rw [bef_app _ (by
        cases e : p.contains 47 with
        | false => rfl
        | true => exact absurd (List.contains_iff_mem.mp e) hp)]
      rcases ht with rfl | ⟨r, rfl⟩
      · show p ++ [] = p
        rw [List.append_nil]
      · rw [bef_hit, List.append_nil]
    obtain ⟨t', e2, ht'⟩ := ex_parts h hf ht
    rw [e2, cb (h.fr p hf) _ ht', cb hf _ ht]
/-- the exchange that a list of pairs tells -/
def exf (prs : List (T × T)) (x : T) : T := ((prs.find? fun p => decide (p.1 = x)).map (·.2)).getD x
/-- pairs that exchange plain segments -/
def okPr (p : T × T) : Bool := decide (p.1 ≠ [] ∧ p.1 ≠ [46] ∧ p.1 ≠ [46, 46] ∧ p.2 ≠ [] ∧ p.2 ≠ [46] ∧ p.2 ≠ [46, 46] ∧ p.2.length ≤ 8) && !p.2.contains 47
theorem exf_or (prs : List (T × T)) (x : T) : exf prs x = x ∨ ∃ p ∈ prs, p.1 = x ∧ exf prs x = p.2 := by
  unfold exf
  cases e : prs.find? fun p => decide (p.1 = x) with
  | none => exact .inl rfl
  | some p => exact .inr ⟨p, List.mem_of_find?_eq_some e, of_decide_eq_true (by simpa using List.find?_some e), rfl⟩
theorem exf_fx {prs : List (T × T)} (h : ∀ p ∈ prs, okPr p = true) : Fx (exf prs) := by
  have hp : ∀ p ∈ prs, (p.1 ≠ [] ∧ p.1 ≠ [46] ∧ p.1 ≠ [46, 46] ∧ p.2 ≠ [] ∧ p.2 ≠ [46] ∧ p.2 ≠ [46, 46] ∧ p.2.length ≤ 8) ∧ 47 ∉ p.2 := fun p hp => by
    have := h p hp
    unfold okPr at this
    rw [Bool.and_eq_true] at this
    refine ⟨of_decide_eq_true this.1, fun z => ?_⟩
    have t := this.2
    rw [List.contains_iff_mem.mpr z] at t
    cases t
  constructor
  · rcases exf_or prs [] with e | ⟨p, m, e, _⟩
    · exact e
    · exact absurd e (hp p m).1.1
  · rcases exf_or prs [46] with e | ⟨p, m, e, _⟩
    · exact e
    · exact absurd e (hp p m).1.2.1
  · rcases exf_or prs [46, 46] with e | ⟨p, m, e, _⟩
    · exact e
    · exact absurd e (hp p m).1.2.2.1
  · intro x z
    rcases exf_or prs x with e | ⟨p, m, e, e2⟩
    · rw [← e, z]
    · exact absurd (by rw [← e2, z]) (hp p m).1.2.2.2.1
  · intro x z
    rcases exf_or prs x with e | ⟨p, m, e, e2⟩
    · rw [← e, z]
    · exact absurd (by rw [← e2, z]) (hp p m).1.2.2.2.2.1
  · intro x z
    rcases exf_or prs x with e | ⟨p, m, e, e2⟩
    · rw [← e, z]
    · exact absurd (by rw [← e2, z]) (hp p m).1.2.2.2.2.2.1
  · intro x z
    rcases exf_or prs x with e | ⟨p, m, e, e2⟩
    · rw [e]; exact z
    · rw [e2]; exact (hp p m).2
  · intro x
    rcases exf_or prs x with e | ⟨p, m, e, e2⟩
    · rw [e]; omega
    · rw [e2]
      have := (hp p m).1.2.2.2.2.2.2
      omega
end Me
set_option Elab.async false
set_option linter.all false
set_option maxRecDepth 100000
set_option maxHeartbeats 4000000
/-! R21: comprehensions over lists and over enumerate. -/
namespace Xs
open PySem PySem.Spec PyProof.Rows L2
theorem lcp_list {K : PySem.W.Frag} {a : Addr} {xs : List V} {g : TG} {tt : TT} {te : TE} {vs : List Nat} {σ : L2.St} {H1 : Hp} {D : Addr} {Qd : Hp → Prop} (Pv : Nat → Hp → Prop) (h0 : Pv 0 (upd H1 D (.lst []))) (hl : ∀ i H, i ≤ xs.length → Pv i H → SqL K H a xs)
    (hs : ∀ i x H, xs[i]? = some x → Pv i H → g x (wipe σ vs) H fun σ2 H2 => wipe σ2 vs = wipe σ vs ∧ tt σ2 H2 fun b H3 =>
      if b = true then te σ2 H3 fun y H4 => ∃ acc, H4 D = some (.lst acc) ∧ acc.length < sizeLine ∧ Pv (i + 1) (upd H4 D (.lst (acc ++ [y]))) else Pv (i + 1) H3) (hd : ∀ H, Pv xs.length H → Qd H) : LcP (Itl K a) g tt te vs σ H1 D Qd := by
  refine ⟨fun i m H => m = xs.length - i ∧ i ≤ xs.length ∧ Pv i H, ⟨xs.length, by simp, Nat.zero_le _, h0⟩, ?_⟩
  rintro i m H ⟨rfl, hi, p⟩
  have q := hl i H hi p
  by_cases hlt : i < xs.length
  · refine .inr ⟨⟨xs, xs[i], q, by simp [hlt]⟩, Pv (i + 1), fun H' p' => ⟨xs.length - (i + 1), by omega, rfl, hlt, p'⟩, fun v H' y => ?_⟩
    obtain ⟨e, y⟩ := y
    subst e
    exact hs i v _ (y xs q) p
  · have e : i = xs.length := by omega
    subst e
    exact .inl ⟨⟨xs, q, Nat.le_refl _⟩, hd H p⟩
theorem lcp_enum {K : PySem.W.Frag} {a : Addr} {xs : List V} {g : TG} {tt : TT} {te : TE} {vs : List Nat} {σ : L2.St} {H1 : Hp} {D : Addr} {Qd : Hp → Prop} (Pv : Nat → Hp → Prop) (h0 : Pv 0 (upd H1 D (.lst []))) (hl : ∀ i H, i ≤ xs.length → Pv i H → SqL K H a xs)
    (hs : ∀ i x H T, xs[i]? = some x → Pv i H → H T = none → g (.ref T) (wipe σ vs) (upd H T (.tup [.int (i : Nat), x])) fun σ2 H2 => wipe σ2 vs = wipe σ vs ∧ tt σ2 H2 fun b H3 =>
      if b = true then te σ2 H3 fun y H4 => ∃ acc, H4 D = some (.lst acc) ∧ acc.length < sizeLine ∧ Pv (i + 1) (upd H4 D (.lst (acc ++ [y]))) else Pv (i + 1) H3) (hd : ∀ H, Pv xs.length H → Qd H) : LcP (Ite K a) g tt te vs σ H1 D Qd := by
  refine ⟨fun i m H => m = xs.length - i ∧ i ≤ xs.length ∧ Pv i H, ⟨xs.length, by simp, Nat.zero_le _, h0⟩, ?_⟩
  rintro i m H ⟨rfl, hi, p⟩
  have q := hl i H hi p
  by_cases hlt : i < xs.length
  · refine .inr ⟨⟨xs, xs[i], q, by simp [hlt]⟩, Pv (i + 1), fun H' p' => ⟨xs.length - (i + 1), by omega, rfl, hlt, p'⟩, fun v H' y => ?_⟩
    obtain ⟨T, z, e, hT, e2, y⟩ := y
    subst e e2
    exact hs i z _ T (y xs q) p hT
  · have e : i = xs.length := by omega
    subst e
    exact .inl ⟨⟨xs, q, Nat.le_refl _⟩, hd H p⟩
section
variable {X : Cx} {s : Shared} {H : Hp} {sc : Scope} {env : Env} {fp : List Addr}
/-- a target of several names in a comprehension -/
theorem pg_tupB {es : List Expr} {k : Nat} {t : TGs} {n : Nat} {pos : Pos} (hc : X.calm = true) (h : PGs (X.blk s H sc env fp) es t)
    (hn : (assignEach es (X.blk s H sc env fp).env).length = n := by rfl) (hst : (assignEach es (X.blk s H sc env fp).env).findIdx? (·.1) = none := by rfl) : PG (X.blk s H sc env fp) (.Tuple es k pos) (gTup X.K n t) := pg_tup (X := X.blk s H sc env fp) hc h hn hst
/-- a place of a sequence, in a comprehension -/
theorem hixB {a b : Expr} {ta tb : TE} {pos : Pos} (ha : PE (X.blk s H sc env fp) a ta) (hb : PE (X.blk s H sc env fp) b tb) (hp : PlainIx b := by exact fun _ _ => rfl) : PE (X.blk s H sc env fp) (.Subscript a b pos) (tOp (hIx X.K) ta tb) := hix (X := X.blk s H sc env fp) ha hb hp
/-- +, in a comprehension -/
theorem co_addB : OpR (X.blk s H sc env fp) (binaryOp .Add) (cAdd X.K) := co_add (X := X.blk s H sc env fp)
end
end Xs
/-! dicts of texts that tell an exchange -/
namespace Me
open PySem PySem.Spec PyProof.Rows L2 TL
def kvP (prs : List (Str × Str)) : List (Key × V) := prs.map fun p => (.inr p.1, .str p.2)
def prT (prs : List (Str × Str)) : List (List Nat × List Nat) := prs.map fun p => (tl p.1, tl p.2)
theorem val_ex : ∀ (prs : List (Str × Str)) (z : Str), ∃ z' : Str, (valV (kvP prs) (.inr z)).getD (.str z) = .str z' ∧ tl z' = exf (prT prs) (tl z)
  | [], z => ⟨z, rfl, rfl⟩
  | p :: r, z => by
    by_cases e : p.1 = z
    · refine ⟨p.2, ?_, ?_⟩
      · show (valV ((.inr p.1, V.str p.2) :: kvP r) (.inr z)).getD (.str z) = _
        rw [valV_pos (p := ((.inr p.1 : Key), V.str p.2)) (by rw [e])]
        rfl
      · show _ = exf ((tl p.1, tl p.2) :: prT r) (tl z)
        unfold exf
        rw [List.find?_cons_of_pos (by rw [e]; simp)]
        rfl
    · obtain ⟨z', e1, e2⟩ := val_ex r z
      refine ⟨z', ?_, ?_⟩
      · show (valV ((.inr p.1, V.str p.2) :: kvP r) (.inr z)).getD (.str z) = _
        rw [valV_neg (p := ((.inr p.1 : Key), V.str p.2)) (fun h => e (Sum.inr.inj h))]
        exact e1
      · rw [e2]
        show _ = exf ((tl p.1, tl p.2) :: prT r) (tl z)
        unfold exf
        have hn : ¬ tl p.1 = tl z := fun h => e (TL.ext_tl h)
        simp [List.find?_cons, hn]
end Me
set_option Elab.async false
set_option linter.all false
set_option maxRecDepth 100000
set_option maxHeartbeats 4000000
/-! R22: list(text). -/
namespace Xs
open PySem PySem.Spec PyProof.Rows L2
theorem vals_signs : ∀ (cs : List Nat) (vs : List Value), vs.length = cs.length → (∀ (j : Nat) (v : Value), vs[j]? = some v → ∃ c u, cs[j]? = some c ∧ v = .str ⟨#[c]⟩ u) → Vals (cs.map fun c => V.str ⟨#[c]⟩) vs
  | [], [], _, _ => .nil
  | [], _ :: _, h, _ => nomatch h
  | _ :: _, [], h, _ => nomatch h
  | c :: cs, v :: vs, h, k => by
    obtain ⟨c', u, e1, e2⟩ := k 0 v rfl
    cases Option.some.inj e1
    exact .cons ⟨u, e2⟩ (vals_signs cs vs (Nat.succ.inj h) fun j w e => k (j + 1) w (by simpa using e))
theorem call_listS {X : Cx} (hc : X.calm = true) : CallR X (.type "list") (fun xs H Q => ∃ x : Str, xs = [.str x] ∧ x.length ≤ sizeLine ∧ ∀ p, H p = none → Q (.ref p) (upd H p (.lst ((TL.tl x).map fun c => V.str ⟨#[c]⟩)))) := by
  intro pins s σ H xs us Q I r h
  obtain ⟨x, rfl, hz, q⟩ := h
  obtain ⟨u, rfl, t, rfl⟩ := vals1 r
  refine PySem.call_list_str (hn := hz) (I.ok.hd hc) x t fun h' tk acc' c' hk hS' hacc => ?_
  have hl : (TL.tl x).length = x.cps.size := by simp [TL.tl]
  have hv : Vals ((TL.tl x).map fun c => V.str ⟨#[c]⟩) acc'.toList := vals_signs _ _ (by rw [hl]; simpa using hacc.1) fun j v e => by
    obtain ⟨c, u, hc, e2⟩ := hacc.2 j v (by simpa using e)
    exact ⟨c, u, by rw [show (TL.tl x)[j]? = x.cps.toList[j]? from rfl, Array.getElem?_toList]; exact hc, e2⟩
  refine ⟨.ref s.heap.objs.size, _, I.laid (t' := tk) hk (Nat.le_refl _) (show ObjOk X.prog X.w _ h' _ (.lst ((TL.tl x).map fun c => V.str ⟨#[c]⟩)) from ⟨by rw [List.length_map, hl]; exact hz, acc'.toList, c', hv, by simpa using hS'⟩), rfl, q _ (I.hok.fresh (Nat.le_refl _))⟩
section
variable {X : Cx} {s s2 : Shared} {H H2 : Hp} {sc sc2 : Scope} {env env2 : Env} {fp fp2 : List Addr}
/-- a place of a sequence, in a comprehension within a comprehension -/
theorem hixBB {a b : Expr} {ta tb : TE} {pos : Pos} (ha : PE ((X.blk s H sc env fp).blk s2 H2 sc2 env2 fp2) a ta) (hb : PE ((X.blk s H sc env fp).blk s2 H2 sc2 env2 fp2) b tb) (hp : PlainIx b := by exact fun _ _ => rfl) : PE ((X.blk s H sc env fp).blk s2 H2 sc2 env2 fp2) (.Subscript a b pos) (tOp (hIx X.K) ta tb) := hix (X := (X.blk s H sc env fp).blk s2 H2 sc2 env2 fp2) ha hb hp
/-- joined, in a comprehension -/
theorem hm_joinB : MtR (X.blk s H sc env fp) "str.join" (cJoin X.K) := hm_join (X := X.blk s H sc env fp)
end
end Xs
set_option Elab.async false
set_option linter.all false
set_option maxRecDepth 100000
set_option maxHeartbeats 4000000
/-! R23: an int below 256 as two hexadecimal digits, f'{n:02X}'. -/
namespace Xs
open PySem PySem.Spec PyProof.Rows L2 Builtin Builtin.Str Builtin.Int Builtin.Float
/-- the digits -/
def hexD (n : Nat) : List Nat := (Nat.toDigits 16 n).map fun c => c.toUpper.toNat
/-- two digits -/
def hex2 (n : Nat) : Str := ⟨(List.replicate (2 - (hexD n).length) 48 ++ hexD n).toArray⟩
def spX : FormatSpec := { fill := 48, align := 61, width := some 2, type := some 88 }
theorem parse_X : parseFormatSpec (Str.ofString "02X").cps.toList "int" 62 = .ok spX := by rfl
theorem hex2_len {n : Nat} (hn : n < 256) : (hex2 n).length ≤ 300 := by
  have h1 : (hexD n).length ≤ n + 1 := by unfold hexD; rw [List.length_map]; exact tDigits_len_le 16 n
  show ((List.replicate (2 - (hexD n).length) 48 ++ hexD n).toArray).size ≤ 300
  simp only [List.size_toArray, List.length_append, List.length_replicate]
  omega
theorem field_hex {n : Nat} : intField' spX (decide (((n : Nat) : Int) < 0)) [] (hexD n) [] 4 = hex2 n := by
  have h0 : decide (((n : Nat) : Int) < 0) = false := decide_eq_false (by omega)
  have h1 : 1 ≤ (hexD n).length := by unfold hexD; rw [List.length_map]; exact tDigits_len_ge 16 n
  rw [h0, intField'_zero_nonneg spX (hexD n) 4 rfl rfl (by cases e : hexD n with
    | nil => rw [e] at h1; exact absurd h1 (by decide)
    | cons => rfl) rfl rfl]
  rfl
theorem field_X {prog : Program} {w : World} {A : Around} {E : Value → Shared → Prop} {s : Shared} {n : Nat} {t : Tok} {Q : Value → Shared → Prop} (hn : n < 256)
    (h : Q (.str (hex2 n) (s.toks + 1)) { s with toks := s.toks + 1 + 1 }) : wpAny (model prog w) A (formatField (.int (n : Nat) t) (Str.ofString "02X")) Q E s := by
  show wpAny _ _ (holding [.int (n : Nat) t] (pyFormat (.int (n : Nat) t) (Str.ofString "02X"))) Q E s
  refine wpAny_holding ?_
  unfold pyFormat
  refine wpAny_bind (wpAny_mkStr ?_ (by decide))
  refine wpAny_bind (m := callSpecial? (.int (n : Nat) t) (Str.ofString "__format__") [.str (Str.ofString "02X") s.toks]) (wpAny_callSpecial?_slot (name := Str.ofString "__format__") (typeIs_int _ _ t) slot_int_format ?_)
  refine wpAny_call (codeAny_call_builtin slot_int_format.plain entry_int_format (slot_int_format.check _ _ _ _ _ _ _ _ (typeIs_int _ _ t) (args_int_format _ _) ?_))
  have hne : ((Str.ofString "02X").length == 0) = false := rfl
  have hasc : (((Str.ofString "02X").cps.toList.drop 1).any (· ≥ 128) || ((Str.ofString "02X").cps.getD 0 0 ≥ 128 && !([60, 62, 61, 94] : List Nat).contains ((Str.ofString "02X").cps.getD 1 0))) = false := by decide +kernel
  unfold Builtin.«int.__format__»
  simp only [selfAndOne, noKeywords, Int.intOfSelf, asInt?, asStr?, List.isEmpty_nil, if_true, pure_bind, bind_pure, bind_assoc, hne, hasc, Bool.false_eq_true, if_false,
    show (Value.str (Str.ofString "02X") s.toks == Value.none) = false from rfl]
  refine wpAny_bind (wpAny_typeNameOf (T := "str") (typeIs_str _ _ _) (by decide) fun _ => ?_)
  first | refine wpAny_bind (wpAny_typeNameOfCut_int ?_) | refine wpAny_bind (wpAny_typeNameOf_int ?_)
  simp only [parse_X]
  rw [if_pos (by decide)]
  show wpAny _ _ (retStr (intField' spX (decide (((n : Nat) : Int) < 0)) [] (hexD n) [] 4)) _ _ _
  rw [field_hex]
  unfold retStr
  refine wpAny_bind (wpAny_mkStr (wpAny_pure ?_) (by rw [sizeLine_eq]; have := hex2_len hn; omega))
  dsimp only
  exact wpAny_bind (wpAny_isInstance (typeIs_str _ _ _) isSubtype_str_str (wpAny_pure h))
/-- {e:02X}, e below 256 -/
def tFmtX (te tsp : TE) : TE := fun σ H Q => te σ H fun x H1 => tsp σ H1 fun y H2 => ∃ n : Nat, x = .int (n : Nat) ∧ n < 256 ∧ y = .str (Str.ofString "02X") ∧ Q (.str (hex2 n)) H2
theorem pe_fmtX {X : Cx} {e sp : Expr} {te tsp : TE} {pos : Pos} (he : PE X e te) (hs : PE X sp tsp) : PE X (.FormattedValue e (-1) (some sp) pos) (tFmtX te tsp) := by
  refine ⟨fun pins s σ H Q I h => ?_⟩
  refine wpAny_FormattedValue_spec (thn (he.run pins s σ H _ I h) fun v s1 ⟨x, H1, I1, r1, q1⟩ => thn (hs.run pins s1 σ H1 _ I1 q1) fun r s2 ⟨y, H2, I2, r2, n, ex, hn, ey, q⟩ => ?_)
  subst ex ey
  obtain ⟨t, rfl⟩ := r1
  obtain ⟨u, rfl⟩ := r2
  exact ⟨_, _, rfl, field_X hn ⟨.str (hex2 n), H2, I2.tok _, ⟨_, rfl⟩, q⟩⟩
end Xs
set_option Elab.async false
set_option linter.all false
set_option maxRecDepth 100000
set_option maxHeartbeats 4000000
/-! R24: name = {k: v for ..}. -/
namespace Xs
open PySem PySem.Spec PyProof.Rows L2
section
variable {X : Cx} {i : Nat} {y : Str} {py : Pos} {kx vx tg iter : Expr} {ifs : List Expr} {sc : Scope} {own : List (Str × Nat)} {pos sp : Pos} {wi : TI} {g : TG} {tt : TT} {tk tv : TE}
/-- a dict comprehension, its dict set to a local at once -/
theorem ps_setDc (hc : X.calm = true) (hN : X.N.Nodup) (hy : X.N[i]? = some y) (hyl : X.env.scope.names.lookup y = some .local) (hsw : swapsWith (.DictComp kx vx [⟨tg, iter, ifs, 0⟩] sc pos) (some (.Name y py)) sp.line X.env = pure true) (hi : PI X tg iter wi) (ok : BlkOk X.N X.env.scope sc own)
    (h1 : ∀ (s : Shared) (H : Hp) (C : Addr) (l : List (Str × Addr)) (fp : List Addr), PG (X.blk s H sc (compEnvC sc l C X.env) fp) tg g) (h2 : ∀ (s : Shared) (H : Hp) (C : Addr) (l : List (Str × Addr)) (fp : List Addr), PTs (X.blk s H sc (compEnvC sc l C X.env) fp) ifs tt)
    (h3 : ∀ (s : Shared) (H : Hp) (C : Addr) (l : List (Str × Addr)) (fp : List Addr), PE (X.blk s H sc (compEnvC sc l C X.env) fp) kx tk) (h4 : ∀ (s : Shared) (H : Hp) (C : Addr) (l : List (Str × Addr)) (fp : List Addr), PE (X.blk s H sc (compEnvC sc l C X.env) fp) vx tv)
    (hs : ∀ x, foldedSetIterable iter X.env x = pure x := by intro _; rfl) : PS X (.Assign [.Name y py] (.DictComp kx vx [⟨tg, iter, ifs, 0⟩] sc pos) sp) (tAsg (tDc wi g tt tk tv (own.map (·.2))) (gName i)) := by
  refine ⟨fun pins s σ H D I h0 => ?_⟩
  have hh : tDc wi g tt tk tv (own.map (·.2)) σ H (fun x H1 => gName i x σ H1 D.nx) := h0
  rw [exec_Assign_Name_used _ _ _ _ hsw]
  refine wpAny_bind (wpAny_standAt (wpAny_bind ?_))
  show wpAny _ X.A (comprehension (.DictComp kx vx [⟨tg, iter, ifs, 0⟩] sc pos) sc X.env (firstIterPos [⟨tg, iter, ifs, 0⟩] pos) newDict false (eval iter X.env) (some (assign (.Name y py) X.env)) >>= _) _ _ s
  refine wpAny_bind (thn (dc_core (Qf := fun _ s' => SP X pins D .next s') hc hN I hi ok h1 h2 h3 h4 hs hh fun L C s' m H' I' q hn f => ?_) fun _ s' hq => wpAny_pure (wpAny_pure hq))
  show wpAny _ _ (assign (.Name y py) X.env (.ref L)) _ _ _
  refine wpAny_assign_Name (store_ok2 (v := V.ref L) I' hN hy (.inl hyl) rfl (fun s2 I2 ⟨a, sb, ha⟩ => ?_) (.inr hyl))
  obtain ⟨f0, f1, f2, f3, f4, f5⟩ := f
  have hCa : C ≠ a := ha.elim (fun z => by rw [z]; exact f1) fun z e => f4 y a z e.symm
  exact ⟨m, hn.sameBut sb hCa, fun s3 sb3 => ⟨_, H', I2.turned (t' := s2.toks) (fun b o hb e => (sb3.2 b hb).trans e) f0 f1 f3 f4 f5, q⟩⟩
theorem sw_trueD {gs : List Comprehension} {l : Nat} {env : Env} (hk : env.scope.kind = .function) (hy : env.scope.names.lookup y = some .local) (hl : (py.line == pos.line) = true)
    (ha : (sc.names.any fun (n, k) => n == y && (k == .local || k == .cell)) = false) : swapsWith (.DictComp kx vx gs sc pos) (some (.Name y py)) l env = pure true := by
  have e1 : env.kindOf y = some .local := hy
  have e2 : env.blockKind = .function := by unfold Env.blockKind; rw [hk]; rfl
  simp only [swapsWith, e1, e2, ha, Expr.pos, hl]
  rfl
variable {s1 : Shared} {H1 : Hp} {env1 : Env} {fp1 : List Addr}
/-- a slice, in a comprehension -/
theorem hs_anyB : SlR (X.blk s1 H1 sc env1 fp1) (hSl X.K) := hs_any (X := X.blk s1 H1 sc env1 fp1)
end
end Xs
set_option Elab.async false
set_option linter.all false
set_option maxRecDepth 100000
set_option maxHeartbeats 4000000
/-! R25: defs that are called only where no repr is under way (no guards), and repr of lists and tuples there. -/
namespace Gd
open PySem PySem.Spec PyProof.Rows L2
/-- as FnOk, where no guard stands -/
structure FnG (P : Program) (w : World) (K : PySem.W.Frag) (mg : Str → Option Value) (base : Heap) (CX : CXT) (k : Nat) (f : Addr) (fd : FuncData) (ps : List Str) (sp : Sp) : Prop where
  len : ∀ vs H Q E, sp vs H Q E → vs.length = ps.length
  run : ∀ (A : Around) (outer : List Env) (s : Shared) (H : Hp) (args : Args) (us : List Value) (vs : List V) (Q : VK) (E : XK), A.guards = some [] → Room k A → Env0 P w K mg base A outer s H → BindsTo s fd args (ps.zip us) → Vals vs us → sp vs H Q E → codeAny (model P w) A (.call (.ref f) args) (CR CX outer P w H s Q E) s
theorem guards_deeper {A : Around} {env : Env} (h : A.guards = some []) : (A.deeper env).guards = some [] := h
section
variable {P : Program} {w : World} {K : PySem.W.Frag} {mg : Str → Option Value} {base : Heap} {x qual : Str} {params : Arguments} {body : List Stmt} {scope : Scope} {dvs : List V} {kws : List (Str × V)} {f : Addr} {fd : FuncData} {CX : CXT}
theorem fn_g {N ps : List Str} {k : Nat} {sp : Sp} (F : FunD K x qual params body scope dvs kws f fd) (S : FnScope N ps scope) (len : ∀ vs H Q E, sp vs H Q E → vs.length = ps.length)
    (hbody : ∀ (cdv : Value) (A : Around) (outer : List Env) (s : Shared) (H : Hp) (vs : List V) (Q : VK) (E : XK), A.guards = some [] → Room k (A.deeper (envOfC qual scope s.heap.objs.size f cdv)) → sp vs H Q E →
      ∃ t, PSs (cxOf CX P w K mg base N qual scope f cdv A outer s H E) body t ∧ t { nx := fun _ H' => Q .non H', rt := Q } (start N vs) H) : FnG P w K mg base CX (k + 1) f fd ps sp := by
  obtain ⟨oc, od, dV, kV, doc, pm, an, cdv, ct, osl, rfl, lk, hcd, _, _⟩ := F.ex
  refine ⟨len, fun A outer s H args us vs Q E hg hr e0 hb r hsp => ?_⟩
  have hlen := len _ _ _ _ hsp
  have KX : K.In s.heap := e0.mod.kin.keeps fun c o e => (e0.bs c o e).1
  have nl : s.heap.NoLimit := e0.mod.nolimit.keeps fun c o e => (e0.bs c o e).1
  have hkd : ∀ z ∈ ps.zip us, scope.names.lookup z.1 = some .local ∨ (scope.names.lookup z.1 = some .cell ∧ ((cellsFrom (s.heap.objs.size + 1) scope.names []).lookup z.1).isSome = true) := fun ⟨n, v⟩ hz =>
    (S.par n (List.of_mem_zip hz).1).imp id fun c => ⟨c, PySem.W.cellsFrom_some _ _ _ (.inl c)⟩
  refine codeAny_call_function (show A.depth < recursionLimit from hr.depth) (KX _ _ lk) rfl S.co S.gen rfl (PySem.W.codeRec_of KX hcd) (hb _ _ _ _ ?_)
  refine wpAny_newFunctionEnv_cells S.kind hkd fun env he s1 y => ?_
  subst he
  refine ⟨nl.keeps y.toInCall.keep, codeAny_func ?_⟩
  obtain ⟨t, ht, hq⟩ := hbody cdv A outer s H vs Q E hg (hr.deeper _) hsp
  have I := inv_start (CX := CX) (E := E) S hr.hd e0 hlen r y
  refine wpAny_mono (ht.run [] s1 (start N vs) H _ I hq) (fun fl s' hs => ?_) fun _ _ hs => hs
  cases fl with
  | next => obtain ⟨σ', H', J, q⟩ := hs; exact ⟨.non, H', J.os, J.bare, J.base, J.hok, rfl, q⟩
  | ret u => obtain ⟨v, σ', H', J, rv, q⟩ := hs; exact ⟨v, H', J.os, J.bare, J.base, J.hok, rv, q⟩
  | cont => obtain ⟨_, _, _, q⟩ := hs; exact q.elim
  | brk => obtain ⟨_, _, _, q⟩ := hs; exact q.elim
end
/-- with its binding -/
def OkG (P : Program) (w : World) (K : PySem.W.Frag) (mg : Str → Option Value) (base : Heap) (CX : CXT) (k : Nat) (f : Addr) (ps : List Str) (sp : Sp) : Prop := ∃ fd, FnG P w K mg base CX k f fd ps sp ∧ Binds K fd ps []
section
variable {X : Cx} {CX : CXT} {k : Nat} {f : Addr} {fd : FuncData} {ps : List Str} {sp : Sp} {E : XK} {x : Str} {e : Expr} {es : List Expr} {t : TA} {p pos : Pos}
theorem run_fnG {pins : List (Addr × Obj)} {σ : L2.St} {H : Hp} {s : Shared} {Q : VK} {us : List Value} {vs : List V} (F : FnG X.prog X.w X.K X.mg X.base CX k f fd ps sp) (hg : X.A.guards = some []) (hr : Room k X.A) (hb : Binds X.K fd ps []) (hx : Passes CX X E)
    (I : Inv X pins σ H s) (r : Vals vs us) (h : sp vs H Q E) : wpAny (model X.prog X.w) X.A (call (.ref f) us) (EP X pins σ Q) X.xe s := by
  have hl : us.length = ps.length := r.length.symm.trans (F.len _ _ _ _ h)
  have b := hb s us I.kIn (by rw [List.append_nil]; exact hl)
  rw [List.append_nil] at b
  refine wpAny_call (codeAny_mono (F.run X.A X.stack s H ⟨us, []⟩ us vs Q E hg hr I.env0 b r h) fun z s' hq => ?_)
  cases z with
  | ok fl => cases fl with
    | next => exact hq.elim
    | ret u => exact I.after hq
    | cont => exact hq.elim
    | brk => exact hq.elim
  | error e => exact hx pins σ H s e s' I hq
/-- f(e, ..), f such a def -/
theorem pfG (F : OkG X.prog X.w X.K X.mg X.base CX k f ps sp) (hg : X.A.guards = some []) (hr : Room k X.A) (hm : X.mg x = some (.ref f)) (hk : PySem.W.keepIn X.K (.ref f) = true) (hx : Passes CX X E) (ha : PA X (e :: es) t) (hgl : Gl X x := by rfl) (hdb : (x == ("__debug__" : Str)) = false := by decide)
    (he : starEach (e :: es) X.env = (false, eval e X.env) :: starEach es X.env := by rfl) (hpl : (backTo pos (starEach es X.env)).any (·.1) = false := by rfl) : PE X (.Call (.Name x p) (e :: es) [] pos) (Xs.tCallF sp E t) := by
  obtain ⟨fd, G, b⟩ := F
  refine ⟨fun pins s σ H Q I h => wpAny_Call_Name_kw (ld_glob I hgl hm ?_ hdb)⟩
  exact PySem.W.callWith_K (h₀ := X.base) I.ok.mod.kin hk (thn (ha.run pos pins s σ H _ I h) fun us s1 ⟨vs, H1, I1, r, q⟩ => ⟨I1.kIn, run_fnG G hg hr b hx I1 r q⟩) he hpl
/-- repr of a list or a tuple of data -/
def rReprD (K : PySem.W.Frag) : List V → Hp → VK → Prop := fun xs H Q => ∃ a d, xs = [.ref a] ∧ Dp K H (.ref a) d ∧ d.showable = true ∧ d.hasDict = false ∧ d.depth ≤ 60 ∧ d.shown.length ≤ sizeLine ∧ Q (.str d.shown) H
theorem call_reprD (hg : X.A.guards = some []) (hu : X.A.units + 64 < cLine) : CallR X (.builtin "repr") (rReprD X.K) := by
  intro pins s σ H xs us Q I rs h
  obtain ⟨a, d, rfl, hd, h1, h2, h3, h4, q⟩ := h
  cases rs with
  | cons r0 r1 =>
    cases r1
    cases r0
    obtain ⟨as, hR⟩ := Dp.reads I d _ _ hd rfl
    refine repr_of_reads' hR h1 (fun z => by rw [h2] at z; cases z) hg (by omega) (fun _ _ e => e) (fun h' u tk hk => ?_) h4
    exact ⟨.str d.shown, H, I.kept hk, ⟨u, rfl⟩, q⟩
end
end Gd
set_option Elab.async false
set_option linter.all false
set_option maxRecDepth 100000
set_option maxHeartbeats 4000000
/-! R26: a law's end where its promise wants that no guard stands. -/
namespace Gd
open PySem PySem.Spec PyProof.Rows L2
theorem ls_ne_dict {h : Heap} {a b : Addr} {o : Obj} {vs : List Value} {es : Array DictEntry} {ep : Nat} (ha : h.get? a = some { cls := .type "list", data := .seq vs.toArray }) (e : h.get? b = some o) (d : o.data = .dict es ep) : b ≠ a := fun z => by
  subst z
  rw [ha] at e
  cases e
  exact (nomatch (show Data.seq vs.toArray _ = Data.dict es ep from d))
section
variable {P : Program} {w : World} {K : PySem.W.Frag} {mg mb : Str → Option Value} {CX : CXT} {k : Nat} {fa a : Addr} {fd : FuncData} {x : Str} {sp : Sp} {s1 : Shared} {vs : List Value} {ns : List Int}
theorem callG (KX : K.In s1.heap) (hns : s1.heap.Ns mainGlobals mg) (hb : s1.heap.Ns builtinsNs mb) (hbb : ∀ y : Str, y ≠ "__name__" → mb y = bootBuiltins y) (nl : s1.heap.NoLimit) (hg : s1.gens = #[]) (ha : s1.heap.get? a = some { cls := .type "list", data := .seq vs.toArray })
    (hr : Room k callerA) (F : ∀ base : Heap, K.In base → base.Ns mainGlobals mg → FnG P w K mg base CX k fa fd [x] sp) (hbind : ∀ (s : Shared) (u : Value), BindsTo s fd ⟨[u], []⟩ [(x, u)]) (hCX : ∀ H e s', CX [] H s1 (fun _ _ _ => False) e s' → False)
    {H : Hp} (hO : Only H) (hok : HOk P w H s1.heap) (hA : ∀ b, H b ≠ none → b = a) (hK : H a ≠ none → K.lookup a = none) (hsp : sp [.ref a] H (fun v _ => v = .bl true) fun _ _ _ => False) :
    codeAny (model P w) callerA (.call (.ref fa) ⟨[.ref a], []⟩) (fun r s' => r = .ok (.ret (.bool true)) ∧ OldK s1.heap s'.heap ∧ s'.os = s1.os ∧ AllBare s'.gens) s1 := by
  have free : ∀ {b : Addr}, b ≠ a → H b = none := fun {b} hb => by
    cases q : H b with
    | none => rfl
    | some u => exact absurd (hA b fun z => by rw [q] at z; cases z) hb
  have nsK : ∀ {b : Addr} {m : Str → Option Value}, s1.heap.Ns b m → (hidT s1.heap H).Ns b m := fun {b m} ⟨o, es, ep, e, d, r⟩ => ⟨o, es, ep, hidT_get e (free (ls_ne_dict ha e d)), d, r⟩
  have hKb : K.In (hidT s1.heap H) := fun b o e => hidT_get (KX b o e) (by
    by_cases hb : b = a
    · subst hb
      cases q : H b with
      | none => rfl
      | some u => exact absurd (hK fun z => by rw [q] at z; cases z) (by rw [e]; exact fun z => nomatch z)
    · exact free hb)
  obtain ⟨mc, l1, l2⟩ := nl
  have e0 : Env0 P w K mg (hidT s1.heap H) callerA [] s1 H := ⟨rfl, ⟨hKb, nsK hns, ⟨mb, nsK hb, hbb⟩, ⟨mc, nsK l1, l2⟩⟩, fun b o e => of_hidT e, Nat.le_of_eq (hidT_size _ _), trivial, (fun b z => absurd (show b ∈ ([] : List Addr) from z) (by simp)), hok, .of_eq hg⟩
  refine codeAny_mono ((F _ hKb (nsK hns)).run callerA [] s1 H ⟨[.ref a], []⟩ [.ref a] [.ref a] _ _ rfl hr e0 (hbind s1 (.ref a)) (.cons rfl .nil) hsp) fun r s' h => ?_
  rcases r with e | fl
  · exact (hCX H e s' h).elim
  · cases fl with
    | ret u =>
      obtain ⟨v, H', os, bare, un, hok', r', q⟩ := h
      cases (show v = .bl true from q)
      cases (show u = Value.bool true from r')
      refine ⟨rfl, OldK.of_keep fun b o e => ?_, os, bare⟩
      rcases hO b with z | ⟨ob, xs, z⟩
      · exact un.keep b o e z (fun y => absurd (show b ∈ ([] : List Addr) from y) (by simp)) (by simp)
      · have z1 := hok b _ z
        have z2 := hok' b _ (un.frzs b ob _ z)
        have e1 : some ob = some o := z1.1.symm.trans e
        cases e1
        exact z2.1
    | next => exact h.elim
    | cont => exact h.elim
    | brk => exact h.elim
theorem law_callG (KX : K.In s1.heap) (hns : s1.heap.Ns mainGlobals mg) (hb : s1.heap.Ns builtinsNs mb) (hbb : ∀ y : Str, y ≠ "__name__" → mb y = bootBuiltins y) (nl : s1.heap.NoLimit) (hg : s1.gens = #[]) (ha : s1.heap.get? a = some { cls := .type "list", data := .seq vs.toArray }) (hi : IntsAre vs ns) (hl : ns.length ≤ sizeLine)
    (hr : Room k callerA) (F : ∀ base : Heap, K.In base → base.Ns mainGlobals mg → FnG P w K mg base CX k fa fd [x] sp) (hbind : ∀ (s : Shared) (u : Value), BindsTo s fd ⟨[u], []⟩ [(x, u)]) (hsp : ∀ H : Hp, Only H → SqL K H a (ns.map V.int) → sp [.ref a] H (fun v _ => v = .bl true) fun _ _ _ => False)
    (hCX : ∀ H e s', CX [] H s1 (fun _ _ _ => False) e s' → False) : codeAny (model P w) callerA (.call (.ref fa) ⟨[.ref a], []⟩) (fun r s' => r = .ok (.ret (.bool true)) ∧ OldK s1.heap s'.heap ∧ s'.os = s1.os ∧ AllBare s'.gens) s1 := by
  have rv := vals_ints hi
  cases hk : K.lookup a with
  | none =>
    have hif : (fun b => if b = a then some (HO.frz { cls := .type "list", data := .seq vs.toArray } (.lst (ns.map V.int))) else none : Hp) a = some (.frz { cls := .type "list", data := .seq vs.toArray } (.lst (ns.map V.int))) := if_pos rfl
    have hO : Only (fun b => if b = a then some (HO.frz { cls := .type "list", data := .seq vs.toArray } (.lst (ns.map V.int))) else none : Hp) := fun b => by
      by_cases hb : b = a
      · exact .inr ⟨_, _, if_pos hb⟩
      · exact .inl (if_neg hb)
    refine callG KX hns hb hbb nl hg ha hr F hbind hCX hO (fun b u z => ?_) (fun b z => Classical.byContradiction fun y => z (if_neg y)) (fun _ => hk) (hsp _ hO (.inl (.inr ⟨_, hif⟩)))
    by_cases hb : b = a
    · cases (if_pos hb).symm.trans z
      subst hb
      exact ⟨ha, by rw [List.length_map]; exact hl, vs, _, rv, ha⟩
    · cases (if_neg hb).symm.trans z
  | some o =>
    cases ha.symm.trans (KX a o hk)
    have hO : Only (fun _ => none : Hp) := fun _ => .inl rfl
    exact callG KX hns hb hbb nl hg ha hr F hbind hCX hO (fun b u z => nomatch (show (none : Option HO) = some u from z)) (fun b z => absurd rfl z) (fun z => absurd rfl z) (hsp _ hO (.inr ⟨_, vs.toArray, _, hk, rfl, rfl, rfl, by rw [List.size_toArray, hi.length]; exact hl, by simpa using rv⟩))
end
/-- a law's end -/
theorem walk_ofG {l : PySem.W.OpenLaw} {n k : Nat} {q : Program} {loose : List Str} {XP : (Str → Option Value) → Heap → Prop} {YP : World → Heap → Prop} {d : DefRec} {CX : CXT} {x : Str} (hn : l.most = some n) (hn2 : n ≤ sizeLine) (hdf : d.params.defaults = []) (hr : Room k callerA)
    (F : ∀ (w : World) (mg : Str → Option Value) (fa : Addr) (h : Heap), YP w h → h.Ns mainGlobals mg → mg d.name = some (.ref fa) → ∃ (K : PySem.W.Frag) (fd : FuncData) (sp : Sp), K.In h ∧ (∀ (s : Shared) (u : Value), BindsTo s fd ⟨[u], []⟩ [(x, u)]) ∧
        (∀ (H : Hp) (a : Addr) (ns : List Int), ns.length ≤ n → Only H → SqL K H a (ns.map V.int) → sp [.ref a] H (fun v _ => v = .bl true) fun _ _ _ => False) ∧ ∀ base : Heap, K.In base → base.Ns mainGlobals mg → FnG l.prog w K mg base CX k fa fd [x] sp)
    (hCX : ∀ (H : Hp) (s : Shared) (e : Value) (s' : Shared), CX [] H s (fun _ _ _ => False) e s' → False) : PySem.W.WalkO q loose XP YP l.row.toRowW d [] (fun f vs => PySem.call f vs) := by
  refine Att.attach_call hn hdf fun w s0 s1 mg mb fa o pm cd doc a vs ns G Y ho hd hcd hmg hobj hints hlen hg => ?_
  obtain ⟨K, fd, sp, KX, hb, hsp, hF⟩ := F w mg fa _ Y G.T.g hmg
  exact law_callG KX G.T.g G.T.b G.T.builtins G.T.nolimit hg hobj hints (Nat.le_trans hlen hn2) hr hF hb (fun H hO hS => hsp H a ns hlen hO hS) fun H e s' => hCX H s1 e s'
end Gd
set_option Elab.async false
set_option linter.all false
set_option maxRecDepth 100000
set_option maxHeartbeats 4000000
/-! R27: isinstance(x, T), T a built-in type written by its name. -/
namespace Gd
open PySem PySem.Spec PyProof.Rows L2
def tyB (a b : String) : Bool := a == b || (a == "bool" && b == "int")
def tyNm : V → Hp → Option String
  | .str _, _ => some "str"
  | .non, _ => some "NoneType"
  | .bl _, _ => some "bool"
  | .int _, _ => some "int"
  | .ref p, H => match H p with
    | some (.lst _) => some "list"
    | some (.tup _) => some "tuple"
    | _ => none
  | _, _ => none
def hIsT : List V → Hp → VK → Prop := fun xs H Q => match xs with
  | [x, .ty n] => (n = "str" ∨ n = "int" ∨ n = "bool" ∨ n = "list" ∨ n = "tuple") ∧ ∃ a, tyNm x H = some a ∧ Q (.bl (tyB a n)) H
  | _ => False
theorem hc_isT {X : Cx} : CallR X (.builtin "isinstance") hIsT := by
  intro pins s σ H xs us Q I rs h
  refine call_isi pins s σ H xs us Q I rs ?_
  unfold hIsT at h
  split at h
  · rename_i x n
    obtain ⟨hn, a, ha, q⟩ := h
    unfold tyNm at ha
    split at ha
    · cases ha
      rcases hn with rfl | rfl | rfl | rfl | rfl <;> exact ⟨_, _, _, _, _, rfl, .ty _, .base (.str _), rfl, q⟩
    · cases ha
      rcases hn with rfl | rfl | rfl | rfl | rfl <;> exact ⟨_, _, _, _, _, rfl, .ty _, .base .non, rfl, q⟩
    · cases ha
      rcases hn with rfl | rfl | rfl | rfl | rfl <;> exact ⟨_, _, _, _, _, rfl, .ty _, .base (.bl _), rfl, q⟩
    · cases ha
      rcases hn with rfl | rfl | rfl | rfl | rfl <;> exact ⟨_, _, _, _, _, rfl, .ty _, .base (.int _), rfl, q⟩
    · split at ha
      · cases ha
        rcases hn with rfl | rfl | rfl | rfl | rfl <;> exact ⟨_, _, _, _, _, rfl, .ty _, .base (.lst ‹_›), rfl, q⟩
      · cases ha
        rcases hn with rfl | rfl | rfl | rfl | rfl <;> exact ⟨_, _, _, _, _, rfl, .ty _, .base (.tup ‹_›), rfl, q⟩
      · cases ha
    · cases ha
  · exact h.elim
end Gd
set_option Elab.async false
set_option linter.all false
set_option maxRecDepth 100000
set_option maxHeartbeats 4000000
/-! R28: comprehensions over range; len in a comprehension. -/
namespace Gd
open PySem PySem.Spec PyProof.Rows L2 Xs
theorem lcp_range {lo : Int} {n : Nat} {g : TG} {tt : TT} {te : TE} {vs : List Nat} {σ : L2.St} {H1 : Hp} {D : Addr} {Qd : Hp → Prop} (Pv : Nat → Hp → Prop) (h0 : Pv 0 (upd H1 D (.lst [])))
    (hs : ∀ i H, i < n → Pv i H → g (.int (lo + i)) (wipe σ vs) H fun σ2 H2 => wipe σ2 vs = wipe σ vs ∧ tt σ2 H2 fun b H3 =>
      if b = true then te σ2 H3 fun y H4 => ∃ acc, H4 D = some (.lst acc) ∧ acc.length < sizeLine ∧ Pv (i + 1) (upd H4 D (.lst (acc ++ [y]))) else Pv (i + 1) H3) (hd : ∀ H, Pv n H → Qd H) : LcP (Itr lo n) g tt te vs σ H1 D Qd := by
  refine ⟨fun i m H => m = n - i ∧ i ≤ n ∧ Pv i H, ⟨n, by simp, Nat.zero_le _, h0⟩, ?_⟩
  rintro i m H ⟨rfl, hi, p⟩
  by_cases hlt : i < n
  · refine .inr ⟨hlt, Pv (i + 1), fun H' p' => ⟨n - (i + 1), by omega, rfl, hlt, p'⟩, fun v H' y => ?_⟩
    obtain ⟨e1, e2⟩ := y
    subst e1 e2
    exact hs i _ hlt p
  · have e : i = n := by omega
    subst e
    exact .inl ⟨Nat.le_refl _, hd H p⟩
section
variable {X : Cx} {s : Shared} {H : Hp} {sc : Scope} {env : Env} {fp : List Addr}
theorem hc_lenB : CallR (X.blk s H sc env fp) (.builtin "len") (hLen X.K) := hc_len (X := X.blk s H sc env fp)
end
end Gd
set_option Elab.async false
set_option linter.all false
set_option maxRecDepth 100000
set_option maxHeartbeats 4000000
/-! R29: how long a shown list or tuple is at most. -/
namespace Gd
open PySem PySem.Spec PyProof.Rows L2 Xs
def sumL (ts : List Str) : Nat := (ts.map fun t => t.length + 2).sum
theorem sumL_cons (t : Str) (ts : List Str) : sumL (t :: ts) = t.length + 2 + sumL ts := rfl
theorem textFrom_le : ∀ (ts : List Str) (k : Nat) (acc : Str), (textFrom k acc ts).length ≤ acc.length + sumL ts
  | [], k, acc => Nat.le_add_right _ _
  | t :: r, k, acc => by
    have ih := textFrom_le r (k + 1) (acc ++ (if k > 0 then ", " else "" : String) ++ t)
    have e : (acc ++ (if k > 0 then ", " else "" : String) ++ t).length ≤ acc.length + 2 + t.length := by
      rw [la, la]
      split
      · rw [show (Str.ofString ", ").length = 2 from rfl]; omega
      · rw [show (Str.ofString "").length = 0 from rfl]; omega
    rw [sumL_cons]
    show (textFrom (k + 1) _ r).length ≤ _
    omega
theorem listText_le (ts : List Str) : (listText ts).length ≤ sumL ts + 2 := by
  unfold listText
  have := textFrom_le ts 0 "["
  rw [la]
  rw [show (Str.ofString "]").length = 1 from rfl]
  rw [show (Str.ofString "[").length = 1 from rfl] at this
  omega
theorem joinS_le : ∀ ts : List Str, (Str.join ", " ts).length ≤ sumL ts
  | [] => Nat.zero_le _
  | [x] => by
    show x.length ≤ _
    rw [sumL_cons]; omega
  | x :: y :: r => by
    have ih := joinS_le (y :: r)
    show (x ++ ", " ++ Str.join ", " (y :: r)).length ≤ _
    rw [la, la, sumL_cons, show (Str.ofString ", ").length = 2 from rfl]
    omega
theorem tupleText_le (ts : List Str) : (tupleText ts).length ≤ sumL ts + 3 := by
  unfold tupleText
  have := joinS_le ts
  rw [la, la, show (Str.ofString "(").length = 1 from rfl]
  split
  · rw [show (Str.ofString ",)").length = 2 from rfl]; omega
  · rw [show (Str.ofString ")").length = 1 from rfl]; omega
theorem sumL_le {m : Nat} : ∀ {ts : List Str}, (∀ t ∈ ts, t.length ≤ m) → sumL ts ≤ ts.length * (m + 2)
  | [], _ => Nat.zero_le _
  | t :: ts, h => by
    have h1 := h t (List.mem_cons_self ..)
    have h2 := sumL_le (m := m) (ts := ts) fun x hx => h x (List.mem_cons_of_mem _ hx)
    rw [sumL_cons, List.length_cons, Nat.succ_mul]
    omega
theorem shownAll_len : ∀ ds : List PyData, (PyData.shownAll ds).length = ds.length
  | [] => by simp [PyData.shownAll]
  | d :: ds => by simp [PyData.shownAll, shownAll_len ds]
theorem shownAll_mem : ∀ {ds : List PyData} {t : Str}, t ∈ PyData.shownAll ds → ∃ d ∈ ds, t = d.shown
  | [], t, h => by simp [PyData.shownAll] at h
  | d :: ds, t, h => by
    simp only [PyData.shownAll, List.mem_cons] at h
    rcases h with rfl | h
    · exact ⟨d, List.mem_cons_self .., rfl⟩
    · obtain ⟨e, he, r⟩ := shownAll_mem h
      exact ⟨e, List.mem_cons_of_mem _ he, r⟩
theorem showableAll_of : ∀ {ds : List PyData}, (∀ d ∈ ds, d.showable = true) → PyData.showableAll ds = true
  | [], _ => by simp [PyData.showableAll]
  | d :: ds, h => by
    simp only [PyData.showableAll, h d (List.mem_cons_self ..), Bool.true_and]
    exact showableAll_of fun x hx => h x (List.mem_cons_of_mem _ hx)
theorem hasDictAll_of : ∀ {ds : List PyData}, (∀ d ∈ ds, d.hasDict = false) → PyData.hasDictAll ds = false
  | [], _ => by simp [PyData.hasDictAll]
  | d :: ds, h => by
    simp only [PyData.hasDictAll, h d (List.mem_cons_self ..), Bool.false_or]
    exact hasDictAll_of fun x hx => h x (List.mem_cons_of_mem _ hx)
theorem depthAll_of {m : Nat} : ∀ {ds : List PyData}, (∀ d ∈ ds, d.depth ≤ m) → PyData.depthAll ds ≤ m
  | [], _ => by simp [PyData.depthAll]
  | d :: ds, h => by
    have h1 := h d (List.mem_cons_self ..)
    have h2 := depthAll_of (m := m) (ds := ds) fun x hx => h x (List.mem_cons_of_mem _ hx)
    simp only [PyData.depthAll]
    omega
end Gd
set_option Elab.async false
set_option linter.all false
set_option maxRecDepth 100000
set_option maxHeartbeats 4000000
/-! Mp: the signs and escapes of a text. -/
namespace Mp
open PySem PySem.Spec PyProof.Rows L2 Xs Mi
open TL (tl)
/-- an escape begins here -/
def escAt (l : T) : Bool := match l with
  | c :: r => c == 94 && Mi.hex2 r
  | [] => false
def sz (l : T) : Nat := if escAt l = true then 3 else 1
theorem sz_pos (l : T) : 1 ≤ sz l := by unfold sz; split <;> omega
theorem hex2_two {r : T} (h : Mi.hex2 r = true) : ∃ a b s, r = a :: b :: s ∧ HEXT.contains a = true ∧ HEXT.contains b = true := by
  match r, h with
  | a :: b :: s, h =>
    have h' : (HEXT.contains a && HEXT.contains b) = true := h
    rw [Bool.and_eq_true] at h'
    exact ⟨a, b, s, rfl, h'.1, h'.2⟩
theorem hex2_take (r : T) : Mi.hex2 (r.take 2) = Mi.hex2 r := by
  match r with
  | [] => rfl
  | [a] => rfl
  | a :: b :: s => rfl
theorem escAt_three {l : T} (h : escAt l = true) : ∃ a b s, l = 94 :: a :: b :: s ∧ HEXT.contains a = true ∧ HEXT.contains b = true := by
  match l, h with
  | c :: r, h =>
    have h' : (c == 94 && Mi.hex2 r) = true := h
    rw [Bool.and_eq_true] at h'
    obtain ⟨a, b, s, rfl, ha, hb⟩ := hex2_two h'.2
    have : c = 94 := by simpa using h'.1
    subst this
    exact ⟨a, b, s, rfl, ha, hb⟩
theorem sz_le {l : T} (h : l ≠ []) : sz l ≤ l.length := by
  unfold sz
  split
  · rename_i he
    obtain ⟨a, b, s, rfl, _, _⟩ := escAt_three he
    simp only [List.length_cons]; omega
  · cases l with
    | nil => exact absurd rfl h
    | cons c r => simp only [List.length_cons]; omega
def pcsF : Nat → T → List T
  | 0, _ => []
  | n + 1, l => match l with
    | [] => []
    | c :: r => (c :: r).take (sz (c :: r)) :: pcsF n ((c :: r).drop (sz (c :: r)))
def pcs (l : T) : List T := pcsF l.length l
theorem pcsF_nil (n : Nat) : pcsF n [] = [] := by cases n <;> rfl
theorem pcsF_eq : ∀ (n m : Nat) (l : T), l.length ≤ n → l.length ≤ m → pcsF n l = pcsF m l
  | 0, m, l, h, _ => by
    have : l = [] := List.length_eq_zero_iff.mp (by omega)
    subst this
    rw [pcsF_nil, pcsF_nil]
  | n + 1, 0, l, _, h => by
    have : l = [] := List.length_eq_zero_iff.mp (by omega)
    subst this
    rw [pcsF_nil, pcsF_nil]
  | n + 1, m + 1, [], _, _ => rfl
  | n + 1, m + 1, c :: r, h1, h2 => by
    have hp := sz_pos (c :: r)
    show _ :: pcsF n _ = _ :: pcsF m _
    rw [pcsF_eq n m _ (by rw [List.length_drop]; omega) (by rw [List.length_drop]; omega)]
theorem pcs_nil : pcs [] = [] := rfl
theorem pcs_step {l : T} (h : l ≠ []) : pcs l = l.take (sz l) :: pcs (l.drop (sz l)) := by
  cases l with
  | nil => exact absurd rfl h
  | cons c r =>
    have hp := sz_pos (c :: r)
    show _ :: pcsF r.length _ = _ :: pcsF _ _
    rw [pcsF_eq r.length _ _ (by rw [List.length_drop, List.length_cons]; omega) (Nat.le_refl _)]
theorem pcs_flat : ∀ (n : Nat) (l : T), l.length ≤ n → (pcs l).flatten = l
  | 0, l, h => by
    have : l = [] := List.length_eq_zero_iff.mp (by omega)
    subst this
    rfl
  | n + 1, l, h => by
    by_cases he : l = []
    · subst he; rfl
    · have hp := sz_pos l
      rw [pcs_step he, List.flatten_cons, pcs_flat n _ (by rw [List.length_drop]; omega), List.take_append_drop]
theorem pcs_join (l : T) : (pcs l).flatten = l := pcs_flat l.length l (Nat.le_refl _)
/-- an escape, or one sign -/
def IsPc (p : T) : Prop := (∃ a b, p = [94, a, b] ∧ HEXT.contains a = true ∧ HEXT.contains b = true) ∨ ∃ c, p = [c]
theorem pcs_mem : ∀ (n : Nat) (l : T), l.length ≤ n → ∀ p ∈ pcs l, IsPc p ∧ ∀ c ∈ p, c ∈ l
  | 0, l, h => by
    have : l = [] := List.length_eq_zero_iff.mp (by omega)
    subst this
    intro p hp
    cases hp
  | n + 1, l, h => by
    intro p hp
    by_cases he : l = []
    · subst he; cases hp
    · have hps := sz_pos l
      rw [pcs_step he] at hp
      rcases List.mem_cons.mp hp with rfl | hp
      · refine ⟨?_, fun c hc => List.mem_of_mem_take hc⟩
        unfold sz
        split
        · rename_i ha
          obtain ⟨a, b, s, rfl, h1, h2⟩ := escAt_three ha
          exact .inl ⟨a, b, rfl, h1, h2⟩
        · cases l with
          | nil => exact absurd rfl he
          | cons c r => exact .inr ⟨c, rfl⟩
      · obtain ⟨h1, h2⟩ := pcs_mem n _ (by rw [List.length_drop]; omega) p hp
        exact ⟨h1, fun c hc => List.mem_of_mem_drop (h2 c hc)⟩
theorem pcs_is {l : T} {p : T} (h : p ∈ pcs l) : IsPc p := (pcs_mem l.length l (Nat.le_refl _) p h).1
theorem pcs_sub {l : T} {p : T} (h : p ∈ pcs l) : ∀ c ∈ p, c ∈ l := (pcs_mem l.length l (Nat.le_refl _) p h).2
theorem pcs_len (l : T) : (pcs l).length ≤ l.length := by
  have h : ∀ (ps : List T), (∀ p ∈ ps, 1 ≤ p.length) → ps.length ≤ ps.flatten.length := by
    intro ps
    induction ps with
    | nil => intro _; exact Nat.zero_le _
    | cons p ps ih =>
      intro h
      have h1 := h p (List.mem_cons_self ..)
      have h2 := ih fun q hq => h q (List.mem_cons_of_mem _ hq)
      rw [List.flatten_cons, List.length_append, List.length_cons]
      omega
  have := h (pcs l) fun p hp => by
    rcases pcs_is hp with ⟨a, b, rfl, _, _⟩ | ⟨c, rfl⟩ <;> simp
  rw [pcs_join] at this
  exact this
theorem hext_hex : ∀ c ∈ HEXT, (48 ≤ c ∧ c ≤ 57) ∨ (97 ≤ c ∧ c ≤ 102) ∨ (65 ≤ c ∧ c ≤ 70) := by decide +kernel
theorem isHex_of {c : Nat} (h : HEXT.contains c = true) : Hx.IsHex c := hext_hex c (List.contains_iff_mem.mp h)
/-- the octet of a piece -/
def octP (p : T) : Nat := if p.length = 3 then Hx.hexNum (p.drop 1) else p.headD 0
theorem octP_lt {p : T} (h : IsPc p) (hs : ∀ c ∈ p, c < 256) : octP p < 256 := by
  rcases h with ⟨a, b, rfl, ha, hb⟩ | ⟨c, rfl⟩
  · have h1 := Hx.hv_lt (isHex_of ha)
    have h2 := Hx.hv_lt (isHex_of hb)
    show (0 * 16 + Hx.hv a) * 16 + Hx.hv b < 256
    omega
  · exact hs c (List.mem_singleton.mpr rfl)
end Mp
set_option Elab.async false
set_option linter.all false
set_option maxRecDepth 100000
set_option maxHeartbeats 4000000
/-! Mr: pieces of what stands between signs that are no hexadecimal digits; the pairs of a query. -/
namespace Mr
open PySem PySem.Spec PyProof.Rows L2 Xs Mi Ms Mp Mq
open TL (tl)
def NoHex (c : Nat) : Prop := c ≠ 94 ∧ HEXT.contains c = false
theorem escAt_app {c : Nat} (hc : NoHex c) (b : T) : ∀ a : T, escAt (a ++ c :: b) = escAt a
  | [] => by
    show (c == 94 && Mi.hex2 b) = false
    have : (c == 94) = false := by simpa using hc.1
    rw [this, Bool.false_and]
  | [x] => by
    show (x == 94 && Mi.hex2 (c :: b)) = (x == 94 && Mi.hex2 [])
    have : Mi.hex2 (c :: b) = false := by
      cases b with
      | nil => rfl
      | cons d s => show (HEXT.contains c && HEXT.contains d) = false; rw [hc.2, Bool.false_and]
    rw [this]
    rfl
  | [x, y] => by
    show (x == 94 && (HEXT.contains y && HEXT.contains c)) = (x == 94 && Mi.hex2 [y])
    rw [hc.2, Bool.and_false]
    rfl
  | x :: y :: z :: a => rfl
theorem pcs_app {c : Nat} (hc : NoHex c) (b : T) : ∀ (n : Nat) (a : T), a.length ≤ n → pcs (a ++ c :: b) = pcs a ++ [c] :: pcs b
  | n, [], _ => by
    have he : escAt (c :: b) = false := escAt_app hc b []
    have hs : sz (c :: b) = 1 := by unfold sz; rw [he]; rfl
    rw [List.nil_append, pcs_step (List.cons_ne_nil _ _), hs]
    rfl
  | 0, x :: a, h => by simp at h
  | n + 1, x :: a, h => by
    have he : escAt ((x :: a) ++ c :: b) = escAt (x :: a) := escAt_app hc b _
    have hs : sz ((x :: a) ++ c :: b) = sz (x :: a) := by unfold sz; rw [he]
    have hle := sz_le (List.cons_ne_nil x a)
    have hp := sz_pos (x :: a)
    rw [pcs_step (l := (x :: a) ++ c :: b) (by simp), hs, pcs_step (List.cons_ne_nil x a)]
    rw [List.take_append_of_le_length hle, List.drop_append_of_le_length hle, pcs_app hc b n _ (by rw [List.length_drop]; simp only [List.length_cons] at h ⊢; omega)]
    rfl
theorem pcs_cut {c : Nat} (hc : NoHex c) : ∀ (n : Nat) (l : T), l.length ≤ n → ∀ p ∈ cut c l, ∀ q ∈ pcs p, q ∈ pcs l
  | n, l, h => by
    intro p hp q hq
    cases hcl : l.contains c with
    | false =>
      rw [cut_none (fun z => by rw [List.contains_iff_mem.mpr z] at hcl; cases hcl)] at hp
      rw [← List.mem_singleton.mp hp]
      exact hq
    | true =>
      have e := bef_aft hcl
      have hl : (aft c l).length < l.length := by
        have := congrArg List.length e
        rw [List.length_append, List.length_cons] at this
        omega
      rw [e, cut_app, cut_none (fun z => by
        have := bef_free c l
        rw [List.contains_iff_mem.mpr z] at this
        cases this)] at hp
      rw [e, pcs_app hc _ _ _ (Nat.le_refl _)]
      rcases List.mem_append.mp hp with hp | hp
      · rw [List.mem_singleton.mp hp] at hq
        exact List.mem_append_left _ hq
      · match n with
        | 0 => omega
        | n + 1 => exact List.mem_append_right _ (List.mem_cons_of_mem _ (pcs_cut hc n _ (by omega) p hp q hq))
theorem pcs_bef {c : Nat} (hc : NoHex c) (l : T) : (∀ q ∈ pcs (bef c l), q ∈ pcs l) ∧ (l.contains c = true → ∀ q ∈ pcs (aft c l), q ∈ pcs l) := by
  cases hcl : l.contains c with
  | false =>
    rw [bef_none hcl]
    exact ⟨fun q hq => hq, fun z => nomatch z⟩
  | true =>
    have e := bef_aft hcl
    have ep : pcs l = pcs (bef c l) ++ [c] :: pcs (aft c l) := by
      conv => lhs; rw [e]
      exact pcs_app hc _ _ _ (Nat.le_refl _)
    rw [ep]
    exact ⟨fun q hq => List.mem_append_left _ hq, fun _ q hq => List.mem_append_right _ (List.mem_cons_of_mem _ hq)⟩
theorem no38 : NoHex 38 := ⟨by decide, by decide +kernel⟩
theorem no61 : NoHex 61 := ⟨by decide, by decide +kernel⟩
/-- a text with its escapes replaced -/
def bareT (l : T) : T := (pcs l).map octP
def itmT (l : T) : T × Option T := (bareT (bef 61 l), if l.contains 61 = true then some (bareT (aft 61 l)) else none)
def prsT (l : T) : List (T × Option T) := if l = [] then [] else (cut 38 l).map itmT
end Mr
set_option Elab.async false
set_option linter.all false
set_option maxRecDepth 100000
set_option maxHeartbeats 4000000
/-! R30: a call with keyword-only arguments within a try's body. -/
namespace Gd
open PySem PySem.Spec PyProof.Rows L2 Xs
section
variable {X : Cx} {CX : CXT} {k n : Nat} {f : Addr} {fd : FuncData} {ps ks : List Str} {dv : List V} {sp : Sp} {E : L2.St → XK} {x : Str} {e : Expr} {es : List Expr} {t tk : TA} {p pos : Pos} {kws : List Keyword} {g : List Value → List Value → List Value}
theorem run_fnKS {pins : List (Addr × Obj)} {σ : L2.St} {H : Hp} {s : Shared} {Q : VK} {us ws : List Value} {vs zs : List V} (F : FnOk X.prog X.w X.K X.mg X.base CX k f fd ps sp) (hr : Room k X.A) (hb : KBn X.K fd ps n ks g (fun vs zs => vs ++ zs)) (hx : PassesAt CX X σ (E σ))
    (I : Inv X pins σ H s) (r : Vals vs us) (rz : Vals zs ws) (l1 : vs.length = n) (l2 : zs.length = ks.length) (h : sp (vs ++ zs) H Q (E σ)) : wpAny (model X.prog X.w) X.A (call (.ref f) us (ks.zip ws)) (EP X pins σ Q) X.xe s := by
  have b := hb.to s us ws I.kIn (r.length.symm.trans l1) (rz.length.symm.trans l2)
  refine wpAny_call (codeAny_mono (F.run X.A X.stack s H ⟨us, ks.zip ws⟩ (g us ws) (vs ++ zs) Q (E σ) hr I.env0 b (hb.rel r rz) h) fun z s' hq => ?_)
  rcases z with er | fl
  · exact hx pins H s er s' I hq
  · cases fl with
    | ret u => exact I.after hq
    | next => exact hq.elim
    | cont => exact hq.elim
    | brk => exact hq.elim
def tCallKOS (n m : Nat) (sp : Sp) (E : L2.St → XK) (t tk : TA) : TE := fun σ H Q => t σ H fun vs H1 => tk σ H1 fun zs H2 => vs.length = n ∧ zs.length = m ∧ sp (vs ++ zs) H2 Q (E σ)
theorem pfKOS (F : OkK X.prog X.w X.K X.mg X.base CX k f n ps ks dv sp) (hr : Room k X.A) (hm : X.mg x = some (.ref f)) (hk : PySem.W.keepIn X.K (.ref f) = true) (hx : ∀ σ, PassesAt CX X σ (E σ)) (ha : PA X (e :: es) t) (hkw : PK X kws tk) (hg : Gl X x := by rfl)
    (hall : (backToKw pos (keywordEach kws X.env)).all (·.1.isSome) = true := by rfl) (hks : (backToKw pos (keywordEach kws X.env)).filterMap (·.1) = ks := by rfl)
    (hdb : (x == ("__debug__" : Str)) = false := by decide) (he : starEach (e :: es) X.env = (false, eval e X.env) :: starEach es X.env := by rfl)
    (hpl : ((backTo pos (starEach (e :: es) X.env)).any (·.1) || (backToKw pos (keywordEach kws X.env)).any (·.1.isNone)) = false := by rfl) : PE X (.Call (.Name x p) (e :: es) kws pos) (tCallKOS n ks.length sp E t tk) := by
  obtain ⟨fd, G, _, g, b⟩ := F
  refine ⟨fun pins s σ H Q I h => wpAny_Call_Name_kw (ld_glob I hg hm ?_ hdb)⟩
  refine PySem.W.callWith_KW (h₀ := X.base) I.ok.mod.kin hk hall (thn (ha.run pos pins s σ H _ I h) fun us s1 ⟨vs, H1, I1, r, q⟩ => ?_) hpl he
  refine thn (hkw.run pos pins s1 σ H1 _ I1 q) fun ws s2 ⟨zs, H2, I2, rz, l1, l2, q2⟩ => ⟨I2.kIn, ?_⟩
  rw [hks]
  exact run_fnKS G hr b (hx σ) I2 r rz l1 l2 q2
end
end Gd
set_option Elab.async false
set_option linter.all false
set_option maxRecDepth 100000
set_option maxHeartbeats 4000000
/-! R31: data that are the same compare so; slices of lists; lists of numbers shown. -/
namespace Gd
open PySem PySem.Spec PyProof.Rows L2 Xs
theorem ne_same {K : PySem.W.Frag} {H : Hp} {a b : Addr} {d : PyData} {Q : VK} (ha : Dp K H (.ref a) d) (hb : Dp K H (.ref b) d) (hs : SeqAt.shaped d = true) (q : Q (.bl false) H) : cEq K true (.ref a) (.ref b) H Q := by
  refine ⟨d, d, ha, hb, hs, hs, ?_⟩
  rw [if_pos rfl, SeqAt.eqv_refl d (SeqAt.canLay_of_shaped hs)]
  exact q
theorem eq_same {K : PySem.W.Frag} {H : Hp} {a b : Addr} {d : PyData} {Q : VK} (ha : Dp K H (.ref a) d) (hb : Dp K H (.ref b) d) (hs : SeqAt.shaped d = true) (q : Q (.bl true) H) : cEq K false (.ref a) (.ref b) H Q := by
  refine ⟨d, d, ha, hb, hs, hs, ?_⟩
  rw [if_neg (by decide), SeqAt.eqv_refl d (SeqAt.canLay_of_shaped hs)]
  exact q
theorem hne_same {K : PySem.W.Frag} {H : Hp} {a b : Addr} {d : PyData} {Q : VK} (ha : Dp K H (.ref a) d) (hb : Dp K H (.ref b) d) (hs : SeqAt.shaped d = true) (q : Q (.bl false) H) : hNe K (.ref a) (.ref b) H Q := ne_same ha hb hs q
theorem heq_same {K : PySem.W.Frag} {H : Hp} {a b : Addr} {d : PyData} {Q : VK} (ha : Dp K H (.ref a) d) (hb : Dp K H (.ref b) d) (hs : SeqAt.shaped d = true) (q : Q (.bl true) H) : hEq K (.ref a) (.ref b) H Q := eq_same ha hb hs q
theorem cutV_to (xs : List V) (n : Nat) : cutV xs none (some (n : Int)) = xs.take n := by
  show ((xs.drop (HT.sIx xs.length 0 none)).take _) = _
  rw [HT.sIx_nat, HT.sIx_none, List.drop_zero, Nat.sub_zero]
  rcases Nat.le_total n xs.length with h | h
  · rw [Nat.min_eq_left h]
  · rw [Nat.min_eq_right h, List.take_length, List.take_of_length_le h]
theorem cutV_from (xs : List V) (n : Nat) (h : n ≤ xs.length) : cutV xs (some (n : Int)) none = xs.drop n := by
  show ((xs.drop (HT.sIx xs.length 0 (some (n : Int)))).take _) = _
  rw [HT.sIx_nat, HT.sIx_none, Nat.min_eq_left h]
  exact List.take_of_length_le (by rw [List.length_drop]; omega)
theorem int_show : ∀ n < 256, (toString ((n : Nat) : Int) : Str).length ≤ 3 := by decide +kernel
theorem ints_repr {K : PySem.W.Frag} {H : Hp} {a : Addr} {ns : List Nat} {Q : VK} (ha : H a = some (.lst (ns.map fun n => V.int ((n : Nat) : Int)))) (hb : ∀ n ∈ ns, n < 256) (hn : ns.length ≤ 10000) (q : Q (.str (PyData.list (ns.map fun n => PyData.int ((n : Nat) : Int))).shown) H) : rReprD K [.ref a] H Q := by
  have dp : ∀ ns : List Nat, DpAll K H (ns.map fun n => V.int ((n : Nat) : Int)) (ns.map fun n => PyData.int ((n : Nat) : Int)) := by
    intro ns
    induction ns with
    | nil => exact .nil
    | cons n ns ih => exact .cons (.int _) ih
  have hall : ∀ d ∈ ns.map (fun n => PyData.int ((n : Nat) : Int)), ∃ n : Nat, n < 256 ∧ d = .int n := fun d hd => by
    obtain ⟨n, hn, rfl⟩ := List.mem_map.mp hd
    exact ⟨n, hb n hn, rfl⟩
  have sl := sl
  refine ⟨a, _, rfl, .lst (.inl (Rd.of ha)) (dp ns), ?_, ?_, ?_, ?_, q⟩
  · simp only [PyData.showable]
    refine showableAll_of fun d hd => ?_
    obtain ⟨n, h1, rfl⟩ := hall d hd
    simp only [PyData.showable]
    exact decide_eq_true ((by decide +kernel : ∀ n < 256, ((n : Nat) : Int).natAbs.log2 < 1920) n h1)
  · simp only [PyData.hasDict]
    refine hasDictAll_of fun d hd => ?_
    obtain ⟨n, h1, rfl⟩ := hall d hd
    simp only [PyData.hasDict]
  · have := depthAll_of (m := 0) (ds := ns.map fun n => PyData.int ((n : Nat) : Int)) fun d hd => by
      obtain ⟨n, h1, rfl⟩ := hall d hd
      simp [PyData.depth]
    simp only [PyData.depth]
    omega
  · simp only [PyData.shown]
    refine Nat.le_trans (listText_le _) ?_
    have := sumL_le (m := 3) (ts := PyData.shownAll (ns.map fun n => PyData.int ((n : Nat) : Int))) fun t ht => by
      obtain ⟨d, hd, rfl⟩ := shownAll_mem ht
      obtain ⟨n, h1, rfl⟩ := hall d hd
      simp only [PyData.shown]
      exact int_show n h1
    rw [shownAll_len, List.length_map] at this
    omega
end Gd
set_option Elab.async false
set_option linter.all false
set_option maxRecDepth 100000
set_option maxHeartbeats 4000000
/-! R32: rows of tuples in the heap; sums. -/
namespace Gd
open PySem PySem.Spec PyProof.Rows L2 Xs
/-- tuples stand at these places -/
def TAt (H : Hp) (as : List Addr) (rs : List (List V)) : Prop := as.length = rs.length ∧ ∀ (i : Nat) (t : Addr) (r : List V), as[i]? = some t → rs[i]? = some r → H t = some (.tup r)
theorem TAt.nil {H : Hp} : TAt H [] [] := ⟨rfl, fun i t r h => by cases h⟩
theorem TAt.ext {H H' : Hp} {as : List Addr} {rs : List (List V)} (h : TAt H as rs) (x : Ext H H') : TAt H' as rs := ⟨h.1, fun i t z h1 h2 => x _ _ (h.2 i t z h1 h2)⟩
theorem TAt.updL {H : Hp} {as : List Addr} {rs : List (List V)} {p : Addr} {xs : List V} {o : HO} (h : TAt H as rs) (hp : H p = some (.lst xs)) : TAt (upd H p o) as rs := ⟨h.1, fun i t z h1 h2 => by
  have e := h.2 i t z h1 h2
  rw [upd_ne (fun z => by rw [z, hp] at e; cases e)]
  exact e⟩
theorem TAt.at' {H : Hp} {as : List Addr} {rs : List (List V)} {T : Addr} {r : List V} (h : TAt H as rs) (hT : H T = some (.tup r)) : TAt H (as ++ [T]) (rs ++ [r]) := ⟨by rw [List.length_append, List.length_append, h.1]; rfl, fun i t y e1 e2 => by
  rcases Nat.lt_or_ge i as.length with hi | hi
  · rw [List.getElem?_append_left hi] at e1
    rw [List.getElem?_append_left (by rw [← h.1]; exact hi)] at e2
    exact h.2 i t y e1 e2
  · have hi2 := (List.getElem?_eq_some_iff.mp e1).1
    rw [List.length_append, List.length_singleton] at hi2
    have ei : i = as.length := by omega
    subst ei
    rw [List.getElem?_append_right (Nat.le_refl _), Nat.sub_self] at e1
    rw [h.1, List.getElem?_append_right (Nat.le_refl _), Nat.sub_self] at e2
    cases e1
    cases e2
    exact hT⟩
theorem TAt.snoc {H : Hp} {as : List Addr} {rs : List (List V)} {T : Addr} {r : List V} (h : TAt H as rs) (hT : H T = none) : TAt (upd H T (.tup r)) (as ++ [T]) (rs ++ [r]) := (h.ext (Ext.rf.fresh hT)).at' upd_self
theorem TAt.app {H : Hp} {as bs : List Addr} {rs qs : List (List V)} (h : TAt H as rs) (h2 : TAt H bs qs) : TAt H (as ++ bs) (rs ++ qs) := ⟨by rw [List.length_append, List.length_append, h.1, h2.1], fun i t q e1 e2 => by
  rcases Nat.lt_or_ge i as.length with hi | hi
  · rw [List.getElem?_append_left hi] at e1
    rw [List.getElem?_append_left (by rw [← h.1]; exact hi)] at e2
    exact h.2 i t q e1 e2
  · rw [List.getElem?_append_right hi] at e1
    rw [List.getElem?_append_right (by rw [← h.1]; exact hi), ← h.1] at e2
    exact h2.2 _ t q e1 e2⟩
theorem TAt.get {H : Hp} {as : List Addr} {rs : List (List V)} {i : Nat} {t : Addr} (h : TAt H as rs) (ht : as[i]? = some t) : ∃ r, rs[i]? = some r ∧ H t = some (.tup r) := by
  have hi := (List.getElem?_eq_some_iff.mp ht).1
  have hi2 : i < rs.length := by rw [← h.1]; exact hi
  exact ⟨rs[i], List.getElem?_eq_getElem hi2, h.2 i t _ ht (List.getElem?_eq_getElem hi2)⟩
theorem of_ref {as : List Addr} {i : Nat} {v : V} (h : (as.map V.ref)[i]? = some v) : ∃ t, as[i]? = some t ∧ V.ref t = v := by
  rw [List.getElem?_map] at h
  cases e : as[i]? with
  | none => rw [e] at h; cases h
  | some t => rw [e] at h; exact ⟨t, rfl, Option.some.inj h⟩
theorem of_strs {zs : List Str} {i : Nat} {v : V} (h : (zs.map V.str)[i]? = some v) : ∃ z, zs[i]? = some z ∧ V.str z = v := by
  rw [List.getElem?_map] at h
  cases e : zs[i]? with
  | none => rw [e] at h; cases h
  | some t => rw [e] at h; exact ⟨t, rfl, Option.some.inj h⟩
theorem sum_cast : ∀ ns : List Nat, ((ns.map fun n => ((n : Nat) : Int)).sum) = ((ns.sum : Nat) : Int)
  | [] => rfl
  | n :: ns => by
    rw [List.map_cons, List.sum_cons, List.sum_cons, sum_cast ns]
    omega
theorem sqT_ext {K : PySem.W.Frag} {H H' : Hp} {a : Addr} {xs : List V} (e : Ext H H') (h : SqT K H a xs) : SqT K H' a xs := by
  rcases h with (h | ⟨o, h⟩) | h
  · exact .inl (.inl (e _ _ h))
  · exact .inl (.inr ⟨o, e _ _ h⟩)
  · exact .inr h
mutual
theorem dp_ext {K : PySem.W.Frag} {H H' : Hp} (x : Ext H H') : ∀ {v : V} {d : PyData}, Dp K H v d → Dp K H' v d
  | _, _, .non => .non
  | _, _, .bl b => .bl b
  | _, _, .int b => .int b
  | _, _, .str b => .str b
  | _, _, .lst h a => .lst (Same.seq x h) (dpa_ext x a)
  | _, _, .tup h a => .tup (sqT_ext x h) (dpa_ext x a)
theorem dpa_ext {K : PySem.W.Frag} {H H' : Hp} (x : Ext H H') : ∀ {vs : List V} {ds : List PyData}, DpAll K H vs ds → DpAll K H' vs ds
  | _, _, .nil => .nil
  | _, _, .cons a b => .cons (dp_ext x a) (dpa_ext x b)
end
end Gd
set_option Elab.async false
set_option linter.all false
set_option maxRecDepth 100000
set_option maxHeartbeats 4000000
/-! R33: repr of a list, a tuple or a plain thing, where no guard stands. -/
namespace Gd
open PySem PySem.Spec PyProof.Rows L2 Xs
/-- the text of a thing -/
def ReprOf (K : PySem.W.Frag) (H : Hp) (v : V) (tx : Str) : Prop := match v with
  | .non => tx = Str.ofString "None"
  | .int i => i = 0 ∧ tx = Str.ofString "0"
  | .str a => (reprText a).length ≤ sizeLine ∧ tx = reprText a
  | .ref a => ∃ d, Dp K H (.ref a) d ∧ d.showable = true ∧ d.hasDict = false ∧ d.depth ≤ 60 ∧ d.shown.length ≤ sizeLine ∧ tx = d.shown
  | _ => False
section
variable {X : Cx}
def rReprA (K : PySem.W.Frag) : List V → Hp → VK → Prop := fun xs H Q => ∃ v tx, xs = [v] ∧ ReprOf K H v tx ∧ Q (.str tx) H
theorem call_reprA (hg : X.A.guards = some []) (hu : X.A.units + 64 < cLine) : CallR X (.builtin "repr") (rReprA X.K) := by
  intro pins s σ H xs us Q I rs h
  obtain ⟨v, tx, rfl, h, q⟩ := h
  unfold ReprOf at h
  split at h
  · subst h
    obtain ⟨u, rfl, hu⟩ := vals1 rs
    obtain rfl : u = Value.none := hu
    exact PySem.P.repr_of_none (Q := EP X pins σ Q) ⟨.str _, H, I.tok _, ⟨_, rfl⟩, q⟩
  · obtain ⟨rfl, rfl⟩ := h
    obtain ⟨u, rfl, t, rfl⟩ := vals1 rs
    exact PySem.P.repr_of_int (Q := EP X pins σ Q) (by decide) ⟨.str _, H, I.tok _, ⟨_, rfl⟩, q⟩
  · obtain ⟨hz, rfl⟩ := h
    obtain ⟨u, rfl, t, rfl⟩ := vals1 rs
    exact PySem.P.repr_of_str (Q := EP X pins σ Q) ⟨.str _, H, I.tok _, ⟨_, rfl⟩, q⟩ hz
  · obtain ⟨d, h0, h1, h2, h3, h4, rfl⟩ := h
    exact call_reprD hg hu pins s σ H _ us Q I rs ⟨_, d, rfl, h0, h1, h2, h3, h4, q⟩
  · exact h.elim
end
end Gd
set_option Elab.async false
set_option linter.all false
set_option maxRecDepth 100000
set_option maxHeartbeats 4000000
/-! R45: x(lambda: body), x a def of the text; a def's code object told. -/
namespace LamX
open PySem PySem.Spec PyProof.Rows L2
section
variable {X : Cx}
theorem pe_lamD {sL : Scope} {T : List (Addr × Str)} {TT : (XK → Hp → VK → Prop) → Hp → VK → Prop} {x a : Str} {g c P : Addr} {k : Nat} {pg : Arguments} {bg : List Stmt} {sg : Scope} {fd : FuncData} {Ng : List Str}
    {params : Arguments} {body : Expr} {scope : Scope} {t : XK → TE} {p lpos pos : Pos} (F : FunD X.K x x pg bg sg [] [] g fd) (hb : L2.Binds X.K fd [a] []) (hm : X.mg x = some (.ref g)) (Sg : FnScope Ng [a] sg)
    (hG : ∀ cdv, GivesTo X Ng x sg g cdv bg a (X.env.qual ++ "<lambda>") TT)
    (TB : TabB X.base X.mg c P) (hcode : X.env.code = .ref c) (hmT : (P, X.env.qual ++ "<lambda>") ∈ T) (hu : ∀ p ∈ T, p.1 = P → p.2 = X.env.qual ++ "<lambda>") (hr : Room (k + 2) X.A)
    (hbody : ∀ (A : Around) (outer : List Env) (s : Shared) (H : Hp) (E : XK) (f c' : Addr), Room k (A.deeper (lamEnv X scope s.heap.objs.size f c')) → PE (lamCx X A outer s H E scope f c') body (t E))
    (hg : Gl X x := by rfl) (hNg : Ng[0]? = some a := by rfl) (hva : Vis sg a := by exact .inl rfl) (hsL : X.env.scope = sL := by rfl) (hL : lamSB sL scope = true := by decide +kernel) (hdef : defaultsOf params X.env = ([], []) := by rfl)
    (hbind : ∀ (q : Str) (cl : List (Str × Addr)) (pm cv ctv : Value), bindArgs (PySem.W.kla_fn "<lambda>" q params body scope cl pm cv ctv) ⟨[], []⟩ = pure [] := by exact fun _ _ _ _ _ => rfl)
    (hdb : (x == ("__debug__" : Str)) = false := by decide) (hd : (a == ("__debug__" : Str)) = false := by decide) (hcd : (a == ("__classdict__" : Str)) = false := by decide) :
    PE X (.Call (.Name x p) [.Lambda params body scope lpos] [] pos) (tLam T TT t) := by
  have hk := F.kp
  have L : LamS X.env.scope scope := by rw [hsL]; exact lamS_by hL
  obtain ⟨oc, od, dV, kV, doc, pm, an, cdv, ct, osl, rfl, lk, hcd2, _, _⟩ := F.ex
  exact pe_lamcall hg hm hk lk hcd2 hb Sg hNg hva (hG cdv) TB hcode hmT hu hr L hdef hbind hbody hdb hd hcd
end
/-- the def's code object is known -/
theorem FunD.okC {P : Program} {w : World} {K : PySem.W.Frag} {mg : Str → Option Value} {base : Heap} {x qual : Str} {params : Arguments} {body : List Stmt} {scope : Scope} {dvs : List V} {kws : List (Str × V)} {f cc : Addr} {fd : FuncData}
    {CX : CXT} {N ps : List Str} {k : Nat} {sp : Sp} (F : FunD K x qual params body scope dvs kws f fd) (hc : fd.code = .ref cc) (S : FnScope N ps scope) (len : ∀ vs H Q E, sp vs H Q E → vs.length = ps.length)
    (hbody : ∀ (A : Around) (outer : List Env) (s : Shared) (H : Hp) (vs : List V) (Q : VK) (E : XK), Room k (A.deeper (envOfC qual scope s.heap.objs.size f (.ref cc))) → sp vs H Q E →
      ∃ t, PSs (cxOf CX P w K mg base N qual scope f (.ref cc) A outer s H E) body t ∧ t { nx := fun _ H' => Q .non H', rt := Q } (start N vs) H) : FnOk P w K mg base CX (k + 1) f fd ps sp := by
  obtain ⟨oc, od, dV, kV, doc, pm, an, cdv, ct, osl, rfl, lk, hcd, _, _⟩ := F.ex
  obtain rfl : cdv = .ref cc := hc
  exact fn_of lk hcd S len fun A outer s H vs Q E hr hsp => hbody A outer s H vs Q E hr hsp
/-- while an exception flies the slots are as many as the names -/
theorem takes_len {X : Cx} {W : WX} (t : Takes X W) : Takes X (fun c d σ H => σ.length = X.N.length → W c d σ H) := fun u s' ⟨a, B, sI, pins, σ, H, cls, d, e, I, nb, up, sky, na, os, ag, w⟩ => t u s' ⟨a, B, sI, pins, σ, H, cls, d, e, I, nb, up, sky, na, os, ag, w I.len⟩
/-- the call of what was got, within a try's body -/
def tAct (n : Nat) (W : WX) (c' f : Addr) (q : Str) (tl : XK → Hp → VK → Prop) : TE := fun σ H Q => ∃ Ech : XK, (∀ cls d σ' H', σ'.length = n → Ech cls d H' → W cls d σ' H') ∧ σ[0]? = some (some (.ref f)) ∧ H c' = some (CodeO c' q) ∧ tl Ech H Q
theorem pe_tAct {X : Cx} {n : Nat} {W : WX} {c' f : Addr} {q : Str} {tl : XK → Hp → VK → Prop} {e : Expr} (hn : X.N.length = n) (tk : Takes X W) (h : ∀ (W : WX) (E : XK), Takes X W → (∀ cls d σ' H', E cls d H' → W cls d σ' H') → PE X e (fun σZ HZ Q => σZ[0]? = some (some (.ref f)) ∧ HZ c' = some (CodeO c' q) ∧ tl E HZ Q)) : PE X e (tAct n W c' f q tl) := by
  subst hn
  exact ⟨fun pins s σ H Q I ⟨Ech, hW, h1, h2, h3⟩ => (h _ Ech (takes_len tk) fun cls d σ' H' hE hl => hW cls d σ' H' hl hE).run pins s σ H Q I ⟨h1, h2, h3⟩⟩
end LamX
set_option Elab.async false
set_option linter.all false
set_option maxRecDepth 100000
set_option maxHeartbeats 4000000
namespace Da
open PySem PySem.Spec PyProof.Rows L2 Hd Xs Fx
theorem hu64 {A : Around} {k : Nat} (h : Room k A) : A.units + 64 < cLine := by have := h.un; omega
/-- the bag: two numbers -/
def Bg (H : Hp) (a : Addr) : Prop := ∃ x y : Int, H a = some (.lst [.int x, .int y]) ∧ 0 ≤ y ∧ y < 4294967296
def spTake : Sp := fun vs H Q _ => match vs with
  | [.ref a, .int n] => Bg H a ∧ 1 ≤ n ∧ n ≤ 1000000 ∧ ∀ d H', 0 ≤ d → d < n → Bg H' a → Kp a H H' → Q (.int d) H'
  | _ => False
theorem fm {x m : Int} (h : 0 < m) : 0 ≤ x.fmod m ∧ x.fmod m < m := by
  rw [Int.fmod_eq_emod_of_nonneg _ (by omega)]
  exact ⟨Int.emod_nonneg _ (by omega), Int.emod_lt_of_pos _ h⟩
section
variable {P : Program} {w : World} {K : PySem.W.Frag} {mg : Str → Option Value} {base : Heap}
theorem ok__law_take (c : Ct w K mg) : OkF P w K mg base CX0 1 (He.ga K "_law_take") ["bag", "many"] spTake := by
  obtain ⟨fd, F⟩ := F__law_take c
  refine ⟨fd, F.ok sc__law_take (fun vs H Q E h => ?_) (fun cdv A outer s H vs Q E hr h => ⟨_, PSs.nox ((pss_cons (ps_if (ctc co_gt (hix (cv 0) pe_int) pe_int (by rfl)) (pss_cons (ps_set (i := 2) (sc__law_take).nd rfl (Or.inl rfl) (pe_op co_mod (hix (cv 0) pe_int) (cv 1))) (pss_cons (ps_asg (pe_op co_fdiv (hix (cv 0) pe_int) (cv 1)) (pg_sub (cv 0) pe_int set_list)) (pss_one (ps_ret (cv 2))))) pss_nil) (pss_cons (ps_asg (pe_op co_mod (pe_op co_add (pe_op co_mul (hix (cv 0) pe_int) pe_int) pe_int) pe_int) (pg_sub (cv 0) pe_int set_list)) (pss_one (ps_ret (pe_op co_mod (pe_op co_fdiv (pe_op co_mod (pe_op co_mul (pe_op co_fdiv (hix (cv 0) pe_int) pe_int) pe_int) pe_int) pe_int) (cv 1))))))), ?_⟩), F.bindsN fun _ _ _ _ _ _ us hl => match us, hl with | [_, _], _ => rfl⟩
  · unfold spTake at h
    split at h
    · rfl
    · exact h.elim
  · unfold spTake at h
    split at h
    case h_2 => exact h.elim
    case h_1 vs a n =>
    obtain ⟨⟨x, y, ha, y0, y1⟩, n0, n1, q⟩ := h
    have e0 : atI [V.int x, V.int y] 0 = some (.int x) := rfl
    have e1 : atI [V.int x, V.int y] 1 = some (.int y) := rfl
    (try simp only [tSeq, tNext, tIfS, tFor_eq, cBl, tOp, tC, cI, cIc, cAdd, cVar, hEq, hNe, hIn, hNotIn, hLen, hSl, tM1, tBM, cT1, cT1f, cFind3, cSplit, cPart, rNewStrs, hIsS, hTru, tAsg, gName, gSub, tRet, tRetN, tCons, tNil, tTup, tLst, tCB, tNot, tAnd, tNotV, tAndV, tOrV, tOr, V.bl.injEq, V.int.injEq, V.str.injEq, exists_eq_left', exists_eq_left, exists_eq', true_and, and_true, cIsN, L2.start, gTup, gCons, gNil, nox_K, cx_K, tCallF, tSl, tPart, tNoPart, iEnum, RZ.iZipA, iRng1, iRng2, cAbs, List.map_cons, List.map_nil, List.length_cons, List.length_nil, List.replicate, List.cons_append, List.nil_append, List.getElem?_cons_zero, List.getElem?_cons_succ, List.getElem?_nil, List.set_cons_zero, List.set_cons_succ, Nat.reduceAdd, Nat.reduceSub, Nat.zero_add, if_true, if_false, reduceIte, reduceCtorEq, Bool.false_eq_true, decide_eq_true_eq, tDrop, cMin2, cJoin, iList, tDNewK, tLc_eq, iStr, wipe])
    simp only [hIx, seqAt_lst ha, e0, e1]
    split
    · refine ⟨by omega, ⟨by omega, by omega⟩, setL_at ha rfl ?_⟩
      have hm := fm (x := x) (m := n) (by omega)
      exact q _ _ hm.1 hm.2 ⟨_, _, upd_self, y0, y1⟩ (Kp.refl.at)
    · refine ⟨.inr ⟨by decide, by decide⟩, by decide, setL_at ha rfl ?_⟩
      have hm := fm (x := y * 48271 + 3571) (m := 2147483587) (by decide)
      have eg : ∀ z : V, atI ([V.int x, V.int y].set 1 z) 1 = some z := fun _ => rfl
      simp only [hIx, seqAt_lst (upd_self (H := H) (a := a)), eg]
      have hm1 := fm (x := ((y * 48271 + 3571).fmod 2147483587).fdiv 11 * 69621) (m := 2147483497) (by decide)
      have hm2 := fm (x := (((((y * 48271 + 3571).fmod 2147483587).fdiv 11 * 69621).fmod 2147483497).fdiv 64)) (m := n) (by omega)
      refine ⟨⟨by decide, by decide⟩, .inr ⟨by decide, by decide⟩, by decide, ⟨by decide, by decide⟩, by omega, q _ _ hm2.1 hm2.2 ⟨_, _, upd_self, hm.1, by omega⟩ (Kp.refl.at)⟩
theorem take_ok {H : Hp} {a : Addr} {n : Int} {Q : VK} {E : XK} (hb : Bg H a) (n0 : 1 ≤ n) (n1 : n ≤ 1000000) (q : ∀ d H', 0 ≤ d → d < n → Bg H' a → Kp a H H' → Q (.int d) H') : spTake [.ref a, .int n] H Q E := ⟨hb, n0, n1, q⟩
theorem Bg.fresh {H : Hp} {a p : Addr} {o : HO} (h : Bg H a) (hp : H p = none) : Bg (upd H p o) a := by
  obtain ⟨x, y, e, r⟩ := h
  exact ⟨x, y, upd_old e hp, r⟩
theorem Bg.ne {H : Hp} {a p : Addr} (h : Bg H a) (hp : H p = none) : p ≠ a := by
  obtain ⟨x, y, e, r⟩ := h
  exact (ne_none e hp).symm
def spBag (K : PySem.W.Frag) : Sp := fun vs H Q _ => match vs with
  | [.ref a, .int i] => ∃ ns : List Int, SqL K H a (ns.map V.int) ∧ 0 ≤ i ∧ i ≤ 100 ∧ ∀ p H', Ext H H' → H p = none → Bg H' p → Q (.ref p) H'
  | _ => False
theorem ok__law_bag (c : Ct w K mg) : OkF P w K mg base CX0 1 (He.ga K "_law_bag") ["script", "at"] (spBag K) := by
  obtain ⟨fd, F⟩ := F__law_bag c
  refine ⟨fd, F.ok sc__law_bag (fun vs H Q E h => ?_) (fun cdv A outer s H vs Q E hr h => ⟨_, PSs.nox ((pss_cons (ps_set (i := 2) (sc__law_bag).nd rfl (Or.inl rfl) (pe_ifExp (ctc co_lt (cv 1) (pe_callB cc_len (by rfl) (b_len c) (by decide +kernel) (pa_cons (cv 0) pa_nil)) (by rfl)) (cix (cv 0) (cv 1)) pe_int)) (pss_cons (ps_set (i := 3) (sc__law_bag).nd rfl (Or.inl rfl) (pe_op co_add (pe_op co_mul pe_int (cv 1)) pe_int)) (pss_cons (ps_for PassesOwn.never rfl (pi_enum rfl (b_enumerate c) (pa_cons (pe_slice cs_any (cv 0) po_none (po_some pe_int)) pa_nil)) (pg_tup (n := 2) rfl (pgs_cons (pg_name (i := 4) (sc__law_bag).nd rfl (Or.inl rfl)) (pgs_cons (pg_name (i := 5) (sc__law_bag).nd rfl (Or.inl rfl)) pgs_nil))) (pss_one (ps_set (i := 3) (sc__law_bag).nd rfl (Or.inl rfl) (pe_op co_mod (pe_op co_add (pe_op co_add (pe_op co_mul (cv 3) pe_int) (pe_op co_mod (cv 5) pe_int)) (pe_op co_mul pe_int (cv 4))) pe_int)))) (pss_one (ps_ret (pe_lst (pa_cons (pe_ifExp (ctc co_ge (pe_callB cc_abs (by rfl) (b_abs c) (by decide +kernel) (pa_cons (cv 2) pa_nil)) (pe_op co_pow pe_int pe_int) (by rfl)) (pe_callB cc_abs (by rfl) (b_abs c) (by decide +kernel) (pa_cons (cv 2) pa_nil)) pe_int) (pa_cons (cv 3) pa_nil))))))))), ?_⟩), F.bindsN fun _ _ _ _ _ _ us hl => match us, hl with | [_, _], _ => rfl⟩
  · unfold spBag at h
    split at h
    · rfl
    · exact h.elim
  · unfold spBag at h
    split at h
    case h_2 => exact h.elim
    case h_1 vs a i =>
    obtain ⟨ns, hS, i0, i1, q⟩ := h
    (try simp only [tSeq, tNext, tIfS, tFor_eq, cBl, tOp, tC, cI, cIc, cAdd, cVar, hEq, hNe, hIn, hNotIn, hLen, hSl, tM1, tBM, cT1, cT1f, cFind3, cSplit, cPart, rNewStrs, hIsS, hTru, tAsg, gName, gSub, tRet, tRetN, tCons, tNil, tTup, tLst, tCB, tNot, tAnd, tNotV, tAndV, tOrV, tOr, V.bl.injEq, V.int.injEq, V.str.injEq, exists_eq_left', exists_eq_left, exists_eq', true_and, and_true, cIsN, L2.start, gTup, gCons, gNil, nox_K, cx_K, tCallF, tSl, tPart, tNoPart, iEnum, RZ.iZipA, iRng1, iRng2, cAbs, List.map_cons, List.map_nil, List.length_cons, List.length_nil, List.replicate, List.cons_append, List.nil_append, List.getElem?_cons_zero, List.getElem?_cons_succ, List.getElem?_nil, List.set_cons_zero, List.set_cons_succ, Nat.reduceAdd, Nat.reduceSub, Nat.zero_add, if_true, if_false, reduceIte, reduceCtorEq, Bool.false_eq_true, decide_eq_true_eq, tDrop, cMin2, cJoin, iList, tDNewK, tLc_eq, iStr, wipe])
    refine cps (R := tIf _ _ _ _ _) (fun v H' => H = H' ∧ ∃ z : Int, v = .int z) ?_ ?_
    · rintro _ _ ⟨rfl, z, rfl⟩
      (try simp only [tSeq, tNext, tIfS, tFor_eq, cBl, tOp, tC, cI, cIc, cAdd, cVar, hEq, hNe, hIn, hNotIn, hLen, hSl, tM1, tBM, cT1, cT1f, cFind3, cSplit, cPart, rNewStrs, hIsS, hTru, tAsg, gName, gSub, tRet, tRetN, tCons, tNil, tTup, tLst, tCB, tNot, tAnd, tNotV, tAndV, tOrV, tOr, V.bl.injEq, V.int.injEq, V.str.injEq, exists_eq_left', exists_eq_left, exists_eq', true_and, and_true, cIsN, L2.start, gTup, gCons, gNil, nox_K, cx_K, tCallF, tSl, tPart, tNoPart, iEnum, RZ.iZipA, iRng1, iRng2, cAbs, List.map_cons, List.map_nil, List.length_cons, List.length_nil, List.replicate, List.cons_append, List.nil_append, List.getElem?_cons_zero, List.getElem?_cons_succ, List.getElem?_nil, List.set_cons_zero, List.set_cons_succ, Nat.reduceAdd, Nat.reduceSub, Nat.zero_add, if_true, if_false, reduceIte, reduceCtorEq, Bool.false_eq_true, decide_eq_true_eq, tDrop, cMin2, cJoin, iList, tDNewK, tLc_eq, iStr, wipe])
      refine ⟨.inl ⟨by omega, by omega⟩, ?_⟩
      refine ⟨_, hS, fun p hp => ⟨p, _, rfl, .inl (Rd.of upd_self), ?_⟩⟩
      refine lp_enum (xs := cutV (ns.map V.int) none (some 30)) (fun k σ H' => ∃ y u v, σ = [some (V.ref a), some (V.int i), some (V.int z), some (V.int y), u, v] ∧ (0 ≤ y ∧ y < 4294967296) ∧ Ext (upd H p (.lst (cutV (ns.map V.int) none (some 30)))) H') ⟨4093 * i + 811, none, none, rfl, by omega, Ext.rf⟩ ?_ ?_ ?_
      · rintro k σ H' _ ⟨y, u, v, _, _, he⟩
        exact .inl (Rd.of (he _ _ upd_self))
      · rintro k x σ H' T hx ⟨y, u, v, rfl, y0, he⟩ hT
        obtain ⟨n, rfl⟩ : ∃ n, x = V.int n := by
          have hm := List.mem_of_mem_drop (List.mem_of_mem_take (List.mem_of_getElem? hx))
          obtain ⟨n, _, e⟩ := List.mem_map.mp hm
          exact ⟨n, e.symm⟩
        (try simp only [tSeq, tNext, tIfS, tFor_eq, cBl, tOp, tC, cI, cIc, cAdd, cVar, hEq, hNe, hIn, hNotIn, hLen, hSl, tM1, tBM, cT1, cT1f, cFind3, cSplit, cPart, rNewStrs, hIsS, hTru, tAsg, gName, gSub, tRet, tRetN, tCons, tNil, tTup, tLst, tCB, tNot, tAnd, tNotV, tAndV, tOrV, tOr, V.bl.injEq, V.int.injEq, V.str.injEq, exists_eq_left', exists_eq_left, exists_eq', true_and, and_true, cIsN, L2.start, gTup, gCons, gNil, nox_K, cx_K, tCallF, tSl, tPart, tNoPart, iEnum, RZ.iZipA, iRng1, iRng2, cAbs, List.map_cons, List.map_nil, List.length_cons, List.length_nil, List.replicate, List.cons_append, List.nil_append, List.getElem?_cons_zero, List.getElem?_cons_succ, List.getElem?_nil, List.set_cons_zero, List.set_cons_succ, Nat.reduceAdd, Nat.reduceSub, Nat.zero_add, if_true, if_false, reduceIte, reduceCtorEq, Bool.false_eq_true, decide_eq_true_eq, tDrop, cMin2, cJoin, iList, tDNewK, tLc_eq, iStr, wipe])
        refine ⟨_, _, rfl, .inl (Rd.of upd_self), rfl, _, _, rfl, _, _, rfl, rfl, ?_⟩
        (try simp only [tSeq, tNext, tIfS, tFor_eq, cBl, tOp, tC, cI, cIc, cAdd, cVar, hEq, hNe, hIn, hNotIn, hLen, hSl, tM1, tBM, cT1, cT1f, cFind3, cSplit, cPart, rNewStrs, hIsS, hTru, tAsg, gName, gSub, tRet, tRetN, tCons, tNil, tTup, tLst, tCB, tNot, tAnd, tNotV, tAndV, tOrV, tOr, V.bl.injEq, V.int.injEq, V.str.injEq, exists_eq_left', exists_eq_left, exists_eq', true_and, and_true, cIsN, L2.start, gTup, gCons, gNil, nox_K, cx_K, tCallF, tSl, tPart, tNoPart, iEnum, RZ.iZipA, iRng1, iRng2, cAbs, List.map_cons, List.map_nil, List.length_cons, List.length_nil, List.replicate, List.cons_append, List.nil_append, List.getElem?_cons_zero, List.getElem?_cons_succ, List.getElem?_nil, List.set_cons_zero, List.set_cons_succ, Nat.reduceAdd, Nat.reduceSub, Nat.zero_add, if_true, if_false, reduceIte, reduceCtorEq, Bool.false_eq_true, decide_eq_true_eq, tDrop, cMin2, cJoin, iList, tDNewK, tLc_eq, iStr, wipe])
        have hm := fm (x := y * 39373 + n.fmod 2147483549 + 97 * (k : Int)) (m := 2147483549) (by decide)
        exact ⟨.inr ⟨by decide, by decide⟩, by decide, .inl ⟨by decide, by decide⟩, by decide, _, _, _, rfl, by omega, he.fresh hT⟩
      · rintro σ H' ⟨y, u, v, rfl, hy, he⟩
        (try simp only [tSeq, tNext, tIfS, tFor_eq, cBl, tOp, tC, cI, cIc, cAdd, cVar, hEq, hNe, hIn, hNotIn, hLen, hSl, tM1, tBM, cT1, cT1f, cFind3, cSplit, cPart, rNewStrs, hIsS, hTru, tAsg, gName, gSub, tRet, tRetN, tCons, tNil, tTup, tLst, tCB, tNot, tAnd, tNotV, tAndV, tOrV, tOr, V.bl.injEq, V.int.injEq, V.str.injEq, exists_eq_left', exists_eq_left, exists_eq', true_and, and_true, cIsN, L2.start, gTup, gCons, gNil, nox_K, cx_K, tCallF, tSl, tPart, tNoPart, iEnum, RZ.iZipA, iRng1, iRng2, cAbs, List.map_cons, List.map_nil, List.length_cons, List.length_nil, List.replicate, List.cons_append, List.nil_append, List.getElem?_cons_zero, List.getElem?_cons_succ, List.getElem?_nil, List.set_cons_zero, List.set_cons_succ, Nat.reduceAdd, Nat.reduceSub, Nat.zero_add, if_true, if_false, reduceIte, reduceCtorEq, Bool.false_eq_true, decide_eq_true_eq, tDrop, cMin2, cJoin, iList, tDNewK, tLc_eq, iStr, wipe])
        refine cps (R := tIf _ _ _ _ _) (fun v H2 => H' = H2 ∧ ∃ z : Int, v = .int z) ?_ ?_
        · rintro _ _ ⟨rfl, z, rfl⟩
          (try simp only [tSeq, tNext, tIfS, tFor_eq, cBl, tOp, tC, cI, cIc, cAdd, cVar, hEq, hNe, hIn, hNotIn, hLen, hSl, tM1, tBM, cT1, cT1f, cFind3, cSplit, cPart, rNewStrs, hIsS, hTru, tAsg, gName, gSub, tRet, tRetN, tCons, tNil, tTup, tLst, tCB, tNot, tAnd, tNotV, tAndV, tOrV, tOr, V.bl.injEq, V.int.injEq, V.str.injEq, exists_eq_left', exists_eq_left, exists_eq', true_and, and_true, cIsN, L2.start, gTup, gCons, gNil, nox_K, cx_K, tCallF, tSl, tPart, tNoPart, iEnum, RZ.iZipA, iRng1, iRng2, cAbs, List.map_cons, List.map_nil, List.length_cons, List.length_nil, List.replicate, List.cons_append, List.nil_append, List.getElem?_cons_zero, List.getElem?_cons_succ, List.getElem?_nil, List.set_cons_zero, List.set_cons_succ, Nat.reduceAdd, Nat.reduceSub, Nat.zero_add, if_true, if_false, reduceIte, reduceCtorEq, Bool.false_eq_true, decide_eq_true_eq, tDrop, cMin2, cJoin, iList, tDNewK, tLc_eq, iStr, wipe])
          refine ⟨by decide, fun r hr => q _ _ ((Ext.rf.fresh hp).tr he |>.fresh hr) ?_ ⟨_, _, upd_self, hy.1, hy.2⟩⟩
          cases h : H r with
          | none => rfl
          | some o =>
            have z := he r o (upd_old h hp)
            rw [hr] at z
            cases z
        · intro Q' hQ
          unfold tIf
          (try simp only [tSeq, tNext, tIfS, tFor_eq, cBl, tOp, tC, cI, cIc, cAdd, cVar, hEq, hNe, hIn, hNotIn, hLen, hSl, tM1, tBM, cT1, cT1f, cFind3, cSplit, cPart, rNewStrs, hIsS, hTru, tAsg, gName, gSub, tRet, tRetN, tCons, tNil, tTup, tLst, tCB, tNot, tAnd, tNotV, tAndV, tOrV, tOr, V.bl.injEq, V.int.injEq, V.str.injEq, exists_eq_left', exists_eq_left, exists_eq', true_and, and_true, cIsN, L2.start, gTup, gCons, gNil, nox_K, cx_K, tCallF, tSl, tPart, tNoPart, iEnum, RZ.iZipA, iRng1, iRng2, cAbs, List.map_cons, List.map_nil, List.length_cons, List.length_nil, List.replicate, List.cons_append, List.nil_append, List.getElem?_cons_zero, List.getElem?_cons_succ, List.getElem?_nil, List.set_cons_zero, List.set_cons_succ, Nat.reduceAdd, Nat.reduceSub, Nat.zero_add, if_true, if_false, reduceIte, reduceCtorEq, Bool.false_eq_true, decide_eq_true_eq, tDrop, cMin2, cJoin, iList, tDNewK, tLc_eq, iStr, wipe])
          refine ⟨⟨by decide, by decide, by decide⟩, ?_⟩
          repeat' split
          all_goals exact hQ _ _ ⟨rfl, _, rfl⟩
    · intro Q' hQ
      unfold tIf
      (try simp only [tSeq, tNext, tIfS, tFor_eq, cBl, tOp, tC, cI, cIc, cAdd, cVar, hEq, hNe, hIn, hNotIn, hLen, hSl, tM1, tBM, cT1, cT1f, cFind3, cSplit, cPart, rNewStrs, hIsS, hTru, tAsg, gName, gSub, tRet, tRetN, tCons, tNil, tTup, tLst, tCB, tNot, tAnd, tNotV, tAndV, tOrV, tOr, V.bl.injEq, V.int.injEq, V.str.injEq, exists_eq_left', exists_eq_left, exists_eq', true_and, and_true, cIsN, L2.start, gTup, gCons, gNil, nox_K, cx_K, tCallF, tSl, tPart, tNoPart, iEnum, RZ.iZipA, iRng1, iRng2, cAbs, List.map_cons, List.map_nil, List.length_cons, List.length_nil, List.replicate, List.cons_append, List.nil_append, List.getElem?_cons_zero, List.getElem?_cons_succ, List.getElem?_nil, List.set_cons_zero, List.set_cons_succ, Nat.reduceAdd, Nat.reduceSub, Nat.zero_add, if_true, if_false, reduceIte, reduceCtorEq, Bool.false_eq_true, decide_eq_true_eq, tDrop, cMin2, cJoin, iList, tDNewK, tLc_eq, iStr, wipe])
      refine ⟨_, .inl hS, ?_⟩
      simp only [List.length_map]
      by_cases hl : i < (ns.length : Nat)
      · rw [if_pos hl]
        obtain ⟨j, rfl⟩ : ∃ j : Nat, i = j := ⟨i.toNat, by omega⟩
        have hj : j < ns.length := by omega
        refine ⟨_, .int ns[j], .inl hS, ?_, hQ _ _ ⟨rfl, _, rfl⟩⟩
        unfold atI ixN
        rw [if_pos (by omega), if_pos (by simpa using hl)]
        simp [hj]
      · rw [if_neg hl]
        exact hQ _ _ ⟨rfl, _, rfl⟩
end
end Da
set_option Elab.async false
set_option linter.all false
set_option maxRecDepth 100000
set_option maxHeartbeats 4000000
namespace Da
open PySem PySem.Spec PyProof.Rows L2 Hd Xs Fx Mi ClX Xr
open TL (tl joinL)
/-! ### signs and escapes -/
def SGS : Str := " !\"#$&'()*+,-./0123456789:;<=>?@ABCDEFGHIJKLMNOPQRSTUVWXYZ[\\]^_`abcdefghijklmnopqrstuvwxyz{|}~"
def PLS : Str := "-.0123456789ABCDEFGHIJKLMNOPQRSTUVWXYZ_abcdefghijklmnopqrstuvwxyz~"
def spS (s : Str) : Sp := fun vs H Q _ => match vs with
  | [] => Q (.str s) H
  | _ => False
/-- the escape of an octet, with capitals -/
def escS (k : Nat) : Str := Str.ofString "^" ++ hex2 k
def escT (k : Nat) : T := 94 :: tl (hex2 k)
theorem escS_tl (k : Nat) : tl (escS k) = escT k := by
  unfold escS
  rw [TL.tl_append]; rfl
theorem hex2_two : ∀ n < 256, (hex2 n).length = 2 := by decide +kernel
theorem hex2_hx : ∀ n < 256, ∀ c ∈ tl (hex2 n), (48 ≤ c ∧ c ≤ 57) ∨ (65 ≤ c ∧ c ≤ 70) := by decide +kernel
theorem escS_len {k : Nat} (h : k < 256) : (escS k).length = 3 := by
  unfold escS
  rw [la, hex2_two k h]; rfl
def hexD : Str := "0123456789ABCDEF"
def pairS (k : Nat) : Str := ⟨#[hexD.cps.getD (k / 16) 0]⟩ ++ ⟨#[hexD.cps.getD (k % 16) 0]⟩
theorem pairS_hex : ∀ k < 256, pairS k = hex2 k := by decide +kernel
/-- the escape of an octet, small or not -/
def escB (b : Bool) (k : Nat) : Str := Str.ofString "^" ++ (if b = true then Txt.lower (pairS k) else pairS k)
theorem escB_no {k : Nat} (h : k < 256) : escB false k = escS k := by
  unfold escB escS
  rw [if_neg (by decide), pairS_hex k h]
theorem hexD_at {d : Nat} (h : d < 16) : atI hexD.cps.toList (d : Int) = some (hexD.cps.getD d 0) := by
  have := (by decide +kernel : ∀ d < 16, atI hexD.cps.toList ((d : Nat) : Int) = some (hexD.cps.getD d 0))
  exact this d h
def spLesc : Sp := fun vs H Q _ => match vs with
  | [.int n, .bl b] => ∃ k : Nat, n = (k : Nat) ∧ k < 256 ∧ Q (.str (escB b k)) H
  | _ => False
theorem tyNm_in {v : V} {H : Hp} {a : String} (h : Gd.tyNm v H = some a) : a = "str" ∨ a = "NoneType" ∨ a = "bool" ∨ a = "int" ∨ a = "list" ∨ a = "tuple" := by
  unfold Gd.tyNm at h
  split at h
  · cases h; simp
  · cases h; simp
  · cases h; simp
  · cases h; simp
  · split at h
    · cases h; simp
    · cases h; simp
    · cases h
  · cases h
theorem tyNm_int {v : V} {H : Hp} (h : Gd.tyNm v H = some "int") : ∃ n, v = .int n := by
  unfold Gd.tyNm at h
  split at h
  · exact absurd h (by decide)
  · exact absurd h (by decide)
  · exact absurd h (by decide)
  · exact ⟨_, rfl⟩
  · split at h <;> exact absurd h (by decide)
  · cases h
theorem tyNm_notint {v : V} {H : Hp} {a : String} (h : Gd.tyNm v H = some a) (ha : a ≠ "int") (n : Int) : v ≠ .int n := fun e => by
  subst e
  exact ha (Option.some.inj h).symm
def spIsI : Sp := fun vs H Q _ => match vs with
  | [v] => ∃ a, Gd.tyNm v H = some a ∧ Q (.bl (a == "int")) H
  | _ => False
def isOct (v : V) : Bool := match v with
  | .int n => decide (0 ≤ n) && decide (n ≤ 255)
  | _ => false
def spOct : Sp := fun vs H Q _ => match vs with
  | [v] => (∃ a, Gd.tyNm v H = some a) ∧ Q (.bl (isOct v)) H
  | _ => False
def spEsc : Sp := fun vs H Q _ => match vs with
  | [.int n] => ∃ k : Nat, n = (k : Nat) ∧ k < 256 ∧ Q (.str (escS k)) H
  | _ => False
section
variable {P : Program} {w : World} {K : PySem.W.Frag} {mg : Str → Option Value} {base : Heap}
theorem ok__law_signs (c : Ct w K mg) : OkF P w K mg base CX0 1 (He.ga K "_law_signs") [] (spS SGS) := by
  obtain ⟨fd, F⟩ := F__law_signs c
  refine ⟨fd, F.ok sc__law_signs (fun vs H Q E h => ?_) (fun cdv A outer s H vs Q E hr h => ⟨_, PSs.nox ((pss_one (ps_ret pe_str))), ?_⟩), F.bindsN fun _ _ _ _ _ _ us hl => match us, hl with | [], _ => rfl⟩
  · unfold spS at h
    split at h
    · rfl
    · exact h.elim
  · unfold spS at h
    split at h
    case h_2 => exact h.elim
    skip
    (try simp only [tSeq, tNext, tIfS, tFor_eq, cBl, tOp, tC, cI, cIc, cAdd, cVar, hEq, hNe, hIn, hNotIn, hLen, hSl, tM1, tBM, cT1, cT1f, cFind3, cSplit, cPart, rNewStrs, hIsS, hTru, tAsg, gName, gSub, tRet, tRetN, tCons, tNil, tTup, tLst, tCB, tNot, tAnd, tNotV, tAndV, tOrV, tOr, V.bl.injEq, V.int.injEq, V.str.injEq, exists_eq_left', exists_eq_left, exists_eq', true_and, and_true, cIsN, L2.start, gTup, gCons, gNil, nox_K, cx_K, tCallF, tSl, tPart, tNoPart, iEnum, RZ.iZipA, iRng1, iRng2, cAbs, List.map_cons, List.map_nil, List.length_cons, List.length_nil, List.replicate, List.cons_append, List.nil_append, List.getElem?_cons_zero, List.getElem?_cons_succ, List.getElem?_nil, List.set_cons_zero, List.set_cons_succ, Nat.reduceAdd, Nat.reduceSub, Nat.zero_add, if_true, if_false, reduceIte, reduceCtorEq, Bool.false_eq_true, decide_eq_true_eq, tDrop, cMin2, cJoin, iList, tDNewK, tLc_eq, iStr, wipe])
    exact h
theorem ok__law_plain (c : Ct w K mg) : OkF P w K mg base CX0 1 (He.ga K "_law_plain") [] (spS PLS) := by
  obtain ⟨fd, F⟩ := F__law_plain c
  refine ⟨fd, F.ok sc__law_plain (fun vs H Q E h => ?_) (fun cdv A outer s H vs Q E hr h => ⟨_, PSs.nox ((pss_one (ps_ret pe_str))), ?_⟩), F.bindsN fun _ _ _ _ _ _ us hl => match us, hl with | [], _ => rfl⟩
  · unfold spS at h
    split at h
    · rfl
    · exact h.elim
  · unfold spS at h
    split at h
    case h_2 => exact h.elim
    skip
    (try simp only [tSeq, tNext, tIfS, tFor_eq, cBl, tOp, tC, cI, cIc, cAdd, cVar, hEq, hNe, hIn, hNotIn, hLen, hSl, tM1, tBM, cT1, cT1f, cFind3, cSplit, cPart, rNewStrs, hIsS, hTru, tAsg, gName, gSub, tRet, tRetN, tCons, tNil, tTup, tLst, tCB, tNot, tAnd, tNotV, tAndV, tOrV, tOr, V.bl.injEq, V.int.injEq, V.str.injEq, exists_eq_left', exists_eq_left, exists_eq', true_and, and_true, cIsN, L2.start, gTup, gCons, gNil, nox_K, cx_K, tCallF, tSl, tPart, tNoPart, iEnum, RZ.iZipA, iRng1, iRng2, cAbs, List.map_cons, List.map_nil, List.length_cons, List.length_nil, List.replicate, List.cons_append, List.nil_append, List.getElem?_cons_zero, List.getElem?_cons_succ, List.getElem?_nil, List.set_cons_zero, List.set_cons_succ, Nat.reduceAdd, Nat.reduceSub, Nat.zero_add, if_true, if_false, reduceIte, reduceCtorEq, Bool.false_eq_true, decide_eq_true_eq, tDrop, cMin2, cJoin, iList, tDNewK, tLc_eq, iStr, wipe])
    exact h
theorem ok__law_escape (c : Ct w K mg) : OkF P w K mg base CX0 1 (He.ga K "_law_escape") ["octet", "is_small"] (spLesc) := by
  obtain ⟨fd, F⟩ := F__law_escape c
  refine ⟨fd, F.ok sc__law_escape (fun vs H Q E h => ?_) (fun cdv A outer s H vs Q E hr h => ⟨_, PSs.nox ((pss_cons (ps_set (i := 2) (sc__law_escape).nd rfl (Or.inl rfl) (pe_op co_add (hix pe_str (pe_op co_fdiv (cv 0) pe_int)) (hix pe_str (pe_op co_mod (cv 0) pe_int)))) (pss_one (ps_ret (pe_op co_add pe_str (pe_ifExp (hTr (cv 1)) (pe_lower (cv 2)) (cv 2))))))), ?_⟩), F.bindsN fun _ _ _ _ _ _ us hl => match us, hl with | [_, _], _ => rfl⟩
  · unfold spLesc at h
    split at h
    · rfl
    · exact h.elim
  · unfold spLesc at h
    split at h
    case h_2 => exact h.elim
    rename_i n b
    obtain ⟨k, rfl, hk, q⟩ := h
    (try simp only [tSeq, tNext, tIfS, tFor_eq, cBl, tOp, tC, cI, cIc, cAdd, cVar, hEq, hNe, hIn, hNotIn, hLen, hSl, tM1, tBM, cT1, cT1f, cFind3, cSplit, cPart, rNewStrs, hIsS, hTru, tAsg, gName, gSub, tRet, tRetN, tCons, tNil, tTup, tLst, tCB, tNot, tAnd, tNotV, tAndV, tOrV, tOr, V.bl.injEq, V.int.injEq, V.str.injEq, exists_eq_left', exists_eq_left, exists_eq', true_and, and_true, cIsN, L2.start, gTup, gCons, gNil, nox_K, cx_K, tCallF, tSl, tPart, tNoPart, iEnum, RZ.iZipA, iRng1, iRng2, cAbs, List.map_cons, List.map_nil, List.length_cons, List.length_nil, List.replicate, List.cons_append, List.nil_append, List.getElem?_cons_zero, List.getElem?_cons_succ, List.getElem?_nil, List.set_cons_zero, List.set_cons_succ, Nat.reduceAdd, Nat.reduceSub, Nat.zero_add, if_true, if_false, reduceIte, reduceCtorEq, Bool.false_eq_true, decide_eq_true_eq, tDrop, cMin2, cJoin, iList, tDNewK, tLc_eq, iStr, wipe])
    have e1 : ((k : Nat) : Int).fdiv 16 = ((k / 16 : Nat) : Int) := by rw [Int.fdiv_eq_ediv_of_nonneg _ (by decide)]; omega
    have e2 : ((k : Nat) : Int).fmod 16 = ((k % 16 : Nat) : Int) := by rw [Int.fmod_eq_emod_of_nonneg _ (by decide)]; omega
    refine ⟨⟨by decide, by decide⟩, ?_⟩
    rw [e1, e2]
    refine hIx_str (by decide) (hexD_at (d := k / 16) (by omega)) ⟨by decide, ?_⟩
    refine hIx_str (by decide) (hexD_at (d := k % 16) (by omega)) ?_
    dsimp only
    have sl := sl
    have hp : pairS k = hex2 k := pairS_hex k hk
    have hl : (hex2 k).length = 2 := hex2_two k hk
    refine ⟨by rw [l1, l1]; omega, ?_⟩
    show tIf _ _ _ [_, _, some (V.str (pairS k))] _ _
    unfold tIf
    (try simp only [tSeq, tNext, tIfS, tFor_eq, cBl, tOp, tC, cI, cIc, cAdd, cVar, hEq, hNe, hIn, hNotIn, hLen, hSl, tM1, tBM, cT1, cT1f, cFind3, cSplit, cPart, rNewStrs, hIsS, hTru, tAsg, gName, gSub, tRet, tRetN, tCons, tNil, tTup, tLst, tCB, tNot, tAnd, tNotV, tAndV, tOrV, tOr, V.bl.injEq, V.int.injEq, V.str.injEq, exists_eq_left', exists_eq_left, exists_eq', true_and, and_true, cIsN, L2.start, gTup, gCons, gNil, nox_K, cx_K, tCallF, tSl, tPart, tNoPart, iEnum, RZ.iZipA, iRng1, iRng2, cAbs, List.map_cons, List.map_nil, List.length_cons, List.length_nil, List.replicate, List.cons_append, List.nil_append, List.getElem?_cons_zero, List.getElem?_cons_succ, List.getElem?_nil, List.set_cons_zero, List.set_cons_succ, Nat.reduceAdd, Nat.reduceSub, Nat.zero_add, if_true, if_false, reduceIte, reduceCtorEq, Bool.false_eq_true, decide_eq_true_eq, tDrop, cMin2, cJoin, iList, tDNewK, tLc_eq, iStr, wipe])
    have e3 : (Str.ofString "^").length = 1 := rfl
    unfold escB at q
    have hl2 : ∀ k < 256, (Txt.lower (hex2 k)).length = 2 := by decide +kernel
    cases b with
    | true =>
      rw [if_pos rfl] at q
      unfold tM0
      (try simp only [tSeq, tNext, tIfS, tFor_eq, cBl, tOp, tC, cI, cIc, cAdd, cVar, hEq, hNe, hIn, hNotIn, hLen, hSl, tM1, tBM, cT1, cT1f, cFind3, cSplit, cPart, rNewStrs, hIsS, hTru, tAsg, gName, gSub, tRet, tRetN, tCons, tNil, tTup, tLst, tCB, tNot, tAnd, tNotV, tAndV, tOrV, tOr, V.bl.injEq, V.int.injEq, V.str.injEq, exists_eq_left', exists_eq_left, exists_eq', true_and, and_true, cIsN, L2.start, gTup, gCons, gNil, nox_K, cx_K, tCallF, tSl, tPart, tNoPart, iEnum, RZ.iZipA, iRng1, iRng2, cAbs, List.map_cons, List.map_nil, List.length_cons, List.length_nil, List.replicate, List.cons_append, List.nil_append, List.getElem?_cons_zero, List.getElem?_cons_succ, List.getElem?_nil, List.set_cons_zero, List.set_cons_succ, Nat.reduceAdd, Nat.reduceSub, Nat.zero_add, if_true, if_false, reduceIte, reduceCtorEq, Bool.false_eq_true, decide_eq_true_eq, tDrop, cMin2, cJoin, iList, tDNewK, tLc_eq, iStr, wipe])
      refine ⟨by rw [hp]; omega, by rw [hp, hl2 k hk]; omega, q⟩
    | false =>
      rw [if_neg (by decide)] at q
      (try simp only [tSeq, tNext, tIfS, tFor_eq, cBl, tOp, tC, cI, cIc, cAdd, cVar, hEq, hNe, hIn, hNotIn, hLen, hSl, tM1, tBM, cT1, cT1f, cFind3, cSplit, cPart, rNewStrs, hIsS, hTru, tAsg, gName, gSub, tRet, tRetN, tCons, tNil, tTup, tLst, tCB, tNot, tAnd, tNotV, tAndV, tOrV, tOr, V.bl.injEq, V.int.injEq, V.str.injEq, exists_eq_left', exists_eq_left, exists_eq', true_and, and_true, cIsN, L2.start, gTup, gCons, gNil, nox_K, cx_K, tCallF, tSl, tPart, tNoPart, iEnum, RZ.iZipA, iRng1, iRng2, cAbs, List.map_cons, List.map_nil, List.length_cons, List.length_nil, List.replicate, List.cons_append, List.nil_append, List.getElem?_cons_zero, List.getElem?_cons_succ, List.getElem?_nil, List.set_cons_zero, List.set_cons_succ, Nat.reduceAdd, Nat.reduceSub, Nat.zero_add, if_true, if_false, reduceIte, reduceCtorEq, Bool.false_eq_true, decide_eq_true_eq, tDrop, cMin2, cJoin, iList, tDNewK, tLc_eq, iStr, wipe])
      exact ⟨by rw [hp]; omega, q⟩
end
end Da
set_option Elab.async false
set_option linter.all false
set_option maxRecDepth 100000
set_option maxHeartbeats 4000000
namespace Da
open PySem PySem.Spec PyProof.Rows L2 Hd Xs Fx Mi Ms Md Mp ClX Xr
open TL (tl joinL)
/-! ### the law's own reading of escapes -/
def spIsE : Sp := fun vs H Q _ => match vs with
  | [.str t, .int i] => ∃ n : Nat, i = (n : Nat) ∧ t.length ≤ (100000 : Nat) ∧ n ≤ (100000 : Nat) ∧ ∀ H', Ext H H' → Q (.bl (escAt ((tl t).drop n))) H'
  | _ => False
def spLoct : Sp := fun vs H Q _ => match vs with
  | [.str t, .int i] => ∃ n : Nat, i = (n : Nat) ∧ t.length ≤ (100000 : Nat) ∧ n ≤ (100000 : Nat) ∧ escAt ((tl t).drop n) = true ∧ Q (.int (octP (((tl t).drop n).take 3) : Nat)) H
  | _ => False
def spPcs : Sp := fun vs H Q _ => match vs with
  | [.str t] => t.length ≤ 50000 ∧ ∀ p (zs : List Str) H', Ext H H' → H p = none → H' p = some (.lst (zs.map V.str)) → zs.map tl = pcs (tl t) → Q (.ref p) H'
  | _ => False
theorem isIn1e (c : Nat) (b : Str) : isIn ⟨#[c]⟩ b = (tl b).contains c := by
  show decide (c ∈ tl b) = _
  simp
theorem hexL (c : Nat) : (tl (Str.ofString "0123456789abcdefABCDEF")).contains c = HEXT.contains c := by
  rw [Bool.eq_iff_iff, List.contains_iff_mem, List.contains_iff_mem]
  exact ⟨fun h => (by decide +kernel : ∀ c ∈ tl (Str.ofString "0123456789abcdefABCDEF"), c ∈ HEXT) c h, fun h => (by decide +kernel : ∀ c ∈ HEXT, c ∈ tl (Str.ofString "0123456789abcdefABCDEF")) c h⟩
theorem drop_add1 (l : T) (n : Nat) : l.drop (n + 1) = (l.drop n).drop 1 := by rw [List.drop_drop]
theorem hexI : ∀ c ∈ HEXT, (Builtin.Str.occurrences (Str.ofString "0123456789abcdef") ⟨#[lo1 c]⟩ 0 16 1) = [Hx.hv c] := by decide +kernel
theorem hext_asc : ∀ c ∈ HEXT, c < 128 := by decide +kernel
theorem low_tl2 {z : Str} (h : ∀ c ∈ tl z, c < 128) : tl (Txt.lower z) = (tl z).map lo1 := by
  rw [PyProof.Rows.lower_ascii h]
  show (z.cps.map lo1).toList = _
  rw [Array.toList_map]
theorem pair_tl (t : Str) (n : Nat) : tl (cutS t (some ((n : Int) + 1)) (some ((n : Int) + 3))) = (((tl t).drop n).drop 1).take 2 := by
  rw [show ((n : Int) + 1) = ((n + 1 : Nat) : Int) by omega, show ((n : Int) + 3) = ((n + 3 : Nat) : Int) by omega, sl_mid, List.drop_drop]
  congr 1
  omega
theorem one_tl (t : Str) (n : Nat) : tl (cutS t (some ((n : Nat) : Int)) (some ((n : Int) + 1))) = ((tl t).drop n).take 1 := by
  rw [show ((n : Int) + 1) = ((n + 1 : Nat) : Int) by omega, sl_mid]
  congr 1
  omega
theorem head_tl {t : Str} {n : Nat} (h : cutS t (some ((n : Nat) : Int)) (some ((n : Int) + 1)) = Str.ofString "^") : ∃ r, (tl t).drop n = 94 :: r := by
  have e := one_tl t n
  rw [h] at e
  cases hd : (tl t).drop n with
  | nil => rw [hd] at e; cases e
  | cons c r =>
    rw [hd] at e
    have : (94 : Nat) = c := (List.cons.inj (show [94] = [c] from e)).1
    exact ⟨r, by rw [this]⟩
theorem head_of {t : Str} {n : Nat} {r : T} (h : (tl t).drop n = 94 :: r) : cutS t (some ((n : Nat) : Int)) (some ((n : Int) + 1)) = Str.ofString "^" := TL.ext_tl (by
  rw [one_tl, h]
  rfl)
section
variable {P : Program} {w : World} {K : PySem.W.Frag} {mg : Str → Option Value} {base : Heap}
theorem ok__law_is_escape (c : Ct w K mg) : OkF P w K mg base CX0 1 (He.ga K "_law_is_escape") ["text", "at"] (spIsE) := by
  obtain ⟨fd, F⟩ := F__law_is_escape c
  refine ⟨fd, F.ok sc__law_is_escape (fun vs H Q E h => ?_) (fun cdv A outer s H vs Q E hr h => ⟨_, PSs.nox ((pss_cons (ps_set (i := 2) (sc__law_is_escape).nd rfl (Or.inl rfl) (pe_slice hs_any (cv 0) (po_some (pe_op co_add (cv 1) pe_int)) (po_some (pe_op co_add (cv 1) pe_int)))) (pss_cons (ps_if (PW.pt (pw_or (ctc (ho_ne (hu64 hr)) (pe_slice hs_any (cv 0) (po_some (cv 1)) (po_some (pe_op co_add (cv 1) pe_int))) pe_str (by rfl)) (pw_or1 (ctc (ho_ne (hu64 hr)) (pe_callB hc_len (by rfl) (b_len c) (by decide +kernel) (pa_cons (cv 2) pa_nil)) pe_int (by rfl))))) (pss_one (ps_ret pe_bl)) pss_nil) (pss_one (ps_ret (pe_callB (cr_all rfl) (by rfl) (b_all c) (by decide +kernel) (pa_cons (pe_lc rfl (sc__law_is_escape).nd (pi_str (cv 2)) (blkOk_by (own := [("sign", 3)]) (by rfl)) (fun _ _ _ _ _ => pg_name (i := 3) (sc__law_is_escape).nd rfl (Or.inl rfl)) (fun _ _ _ _ _ => pts_nil) (fun _ _ _ _ _ => (pe_cmpR (r := hIn K) ho_in (cv 3) pe_str (by rfl)))) pa_nil))))))), ?_⟩), F.bindsN fun _ _ _ _ _ _ us hl => match us, hl with | [_, _], _ => rfl⟩
  · unfold spIsE at h
    split at h
    · rfl
    · exact h.elim
  · unfold spIsE at h
    split at h
    case h_2 => exact h.elim
    rename_i t i
    obtain ⟨n, rfl, ht, hn, q⟩ := h
    have sl := sl
    refine seqStep ?_
    (try simp only [tNext, tFor_eq, cBl, tOp, tC, cI, cIc, cAdd, cVar, hEq, hNe, hIn, hNotIn, hLen, hSl, tM1, tBM, cT1, cT1f, cFind3, cSplit, cPart, rNewStrs, hIsS, hTru, tAsg, gName, gSub, tRet, tRetN, tCons, tNil, tTup, tLst, tCB, tNot, tAnd, tNotV, tAndV, tOrV, tOr, V.bl.injEq, V.int.injEq, V.str.injEq, exists_eq_left', exists_eq_left, exists_eq', true_and, and_true, cIsN, L2.start, gTup, gCons, gNil, nox_K, cx_K, tCallF, tSl, tPart, tNoPart, iEnum, RZ.iZipA, iRng1, iRng2, cAbs, List.map_cons, List.map_nil, List.length_cons, List.length_nil, List.replicate, List.cons_append, List.nil_append, List.getElem?_cons_zero, List.getElem?_cons_succ, List.getElem?_nil, List.set_cons_zero, List.set_cons_succ, Nat.reduceAdd, Nat.reduceSub, Nat.zero_add, if_true, if_false, reduceIte, reduceCtorEq, Bool.false_eq_true, decide_eq_true_eq, tDrop, cMin2, cJoin, iList, tDNewK, tLc_eq, iStr, wipe])
    have ep := pair_tl t n
    have lp : (cutS t (some ((n : Int) + 1)) (some ((n : Int) + 3))).length = (((tl t).drop n).drop 1 |>.take 2).length := by rw [TL.len_tl, ep]
    have lp2 : (cutS t (some ((n : Int) + 1)) (some ((n : Int) + 3))).length ≤ 2 := by rw [lp, List.length_take]; omega
    refine ⟨by omega, ?_⟩
    refine seqStep ?_
    unfold tIfS
    (try simp only [tNext, tFor_eq, cBl, tOp, tC, cI, cIc, cAdd, cVar, hEq, hNe, hIn, hNotIn, hLen, hSl, tM1, tBM, cT1, cT1f, cFind3, cSplit, cPart, rNewStrs, hIsS, hTru, tAsg, gName, gSub, tRet, tRetN, tCons, tNil, tTup, tLst, tCB, tNot, tAnd, tNotV, tAndV, tOrV, tOr, V.bl.injEq, V.int.injEq, V.str.injEq, exists_eq_left', exists_eq_left, exists_eq', true_and, and_true, cIsN, L2.start, gTup, gCons, gNil, nox_K, cx_K, tCallF, tSl, tPart, tNoPart, iEnum, RZ.iZipA, iRng1, iRng2, cAbs, List.map_cons, List.map_nil, List.length_cons, List.length_nil, List.replicate, List.cons_append, List.nil_append, List.getElem?_cons_zero, List.getElem?_cons_succ, List.getElem?_nil, List.set_cons_zero, List.set_cons_succ, Nat.reduceAdd, Nat.reduceSub, Nat.zero_add, if_true, if_false, reduceIte, reduceCtorEq, Bool.false_eq_true, decide_eq_true_eq, tDrop, cMin2, cJoin, iList, tDNewK, tLc_eq, iStr, wipe])
    refine ⟨by omega, ?_⟩
    generalize cutS t (some ((n : Int) + 1)) (some ((n : Int) + 3)) = pr at *
    by_cases hc : cutS t (some ((n : Nat) : Int)) (some ((n : Int) + 1)) = Str.ofString "^"
    · rw [if_neg (fun z => z hc)]
      obtain ⟨r, er⟩ := head_tl hc
      rw [er] at ep lp q
      have ep : tl pr = r.take 2 := ep
      refine ⟨by omega, ?_⟩
      by_cases h2 : ((pr.length : Nat) : Int) = 2
      · rw [if_neg (fun z => z h2)]
        have l2 : (r.take 2).length = 2 := by rw [← ep, ← TL.len_tl]; omega
        obtain ⟨a, b, s, rfl⟩ : ∃ a b s, r = a :: b :: s := by
          match r, l2 with
          | a :: b :: s, _ => exact ⟨a, b, s, rfl⟩
        have ep : tl pr = [a, b] := ep
        (try simp only [tNext, tFor_eq, cBl, tOp, tC, cI, cIc, cAdd, cVar, hEq, hNe, hIn, hNotIn, hLen, hSl, tM1, tBM, cT1, cT1f, cFind3, cSplit, cPart, rNewStrs, hIsS, hTru, tAsg, gName, gSub, tRet, tRetN, tCons, tNil, tTup, tLst, tCB, tNot, tAnd, tNotV, tAndV, tOrV, tOr, V.bl.injEq, V.int.injEq, V.str.injEq, exists_eq_left', exists_eq_left, exists_eq', true_and, and_true, cIsN, L2.start, gTup, gCons, gNil, nox_K, cx_K, tCallF, tSl, tPart, tNoPart, iEnum, RZ.iZipA, iRng1, iRng2, cAbs, List.map_cons, List.map_nil, List.length_cons, List.length_nil, List.replicate, List.cons_append, List.nil_append, List.getElem?_cons_zero, List.getElem?_cons_succ, List.getElem?_nil, List.set_cons_zero, List.set_cons_succ, Nat.reduceAdd, Nat.reduceSub, Nat.zero_add, if_true, if_false, reduceIte, reduceCtorEq, Bool.false_eq_true, decide_eq_true_eq, tDrop, cMin2, cJoin, iList, tDNewK, tLc_eq, iStr, wipe])
        refine fun D hD => ?_
        refine lc_its (fun j H' => H' D = some (.lst ((((tl pr).take j).map HEXT.contains).map V.bl)) ∧ Ext H H') ⟨upd_self, Ext.rf.fresh hD⟩ ?_ ?_
        · rintro j c H' hj ⟨hd, x⟩
          have hjl := (List.getElem?_eq_some_iff.mp hj).1
          rw [← TL.len_tl] at hjl
          (try simp only [tSeq, tNext, tIfS, tFor_eq, cBl, tOp, tC, cI, cIc, cAdd, cVar, hEq, hNe, hIn, hNotIn, hLen, hSl, tM1, tBM, cT1, cT1f, cFind3, cSplit, cPart, rNewStrs, hIsS, hTru, tAsg, gName, gSub, tRet, tRetN, tCons, tNil, tTup, tLst, tCB, tNot, tAnd, tNotV, tAndV, tOrV, tOr, V.bl.injEq, V.int.injEq, V.str.injEq, exists_eq_left', exists_eq_left, exists_eq', true_and, and_true, cIsN, L2.start, gTup, gCons, gNil, nox_K, cx_K, tCallF, tSl, tPart, tNoPart, iEnum, RZ.iZipA, iRng1, iRng2, cAbs, List.map_cons, List.map_nil, List.length_cons, List.length_nil, List.replicate, List.cons_append, List.nil_append, List.getElem?_cons_zero, List.getElem?_cons_succ, List.getElem?_nil, List.set_cons_zero, List.set_cons_succ, Nat.reduceAdd, Nat.reduceSub, Nat.zero_add, if_true, if_false, reduceIte, reduceCtorEq, Bool.false_eq_true, decide_eq_true_eq, tDrop, cMin2, cJoin, iList, tDNewK, tLc_eq, iStr, wipe])
          simp only [tYes, if_true]
          refine ⟨_, hd, by rw [List.length_map, List.length_map, List.length_take, ← TL.len_tl]; omega, ?_, x.new hD⟩
          rw [take_snoc hj, List.map_append, List.map_append]
          rw [upd_self]
          show some (HO.lst (_ ++ [V.bl (isIn ⟨#[c]⟩ (Str.ofString "0123456789abcdefABCDEF"))])) = _
          rw [isIn1e, hexL]
          rfl
        · rintro H' ⟨hd, x⟩
          rw [List.take_length] at hd
          refine ⟨D, _, rfl, .inl (Rd.of hd), ?_⟩
          have e : (((tl pr).map HEXT.contains).all id) = escAt (94 :: a :: b :: s) := by
            rw [ep]
            show (HEXT.contains a && (HEXT.contains b && true)) = (94 == 94 && (HEXT.contains a && HEXT.contains b))
            simp
          rw [e]
          exact q _ x
      · rw [if_pos h2]
        have e : escAt (94 :: r) = false := by
          cases he : escAt (94 :: r) with
          | false => rfl
          | true =>
            obtain ⟨a, b, s, er2, _, _⟩ := escAt_three he
            have er3 : r = a :: b :: s := (List.cons.inj er2).2
            rw [er3] at ep
            exact absurd (by rw [TL.len_tl, ep]; rfl) h2
        rw [e] at q
        exact q _ Ext.rf
    · rw [if_pos hc]
      have e : escAt ((tl t).drop n) = false := by
        cases he : escAt ((tl t).drop n) with
        | false => rfl
        | true =>
          obtain ⟨a, b, s, er2, _, _⟩ := escAt_three he
          exact absurd (head_of er2) hc
      rw [e] at q
      exact q _ Ext.rf
theorem ok__law_octet (c : Ct w K mg) : OkF P w K mg base CX0 1 (He.ga K "_law_octet") ["text", "at"] (spLoct) := by
  obtain ⟨fd, F⟩ := F__law_octet c
  refine ⟨fd, F.ok sc__law_octet (fun vs H Q E h => ?_) (fun cdv A outer s H vs Q E hr h => ⟨_, PSs.nox ((pss_cons (ps_par (i := 2) (j := 3) (by rfl) (sc__law_octet).nd rfl rfl (by decide) rfl rfl (pa_cons pe_str (pa_cons (pe_lower (pe_slice hs_any (cv 0) (po_some (pe_op co_add (cv 1) pe_int)) (po_some (pe_op co_add (cv 1) pe_int)))) pa_nil)) (by rfl)) (pss_one (ps_ret (pe_op co_add (pe_op co_mul pe_int (pe_m1 PySem.F.slot_str_index PySem.F.type_str_index mt_sindex (cv 2) (hix (cv 3) pe_int))) (pe_m1 PySem.F.slot_str_index PySem.F.type_str_index mt_sindex (cv 2) (hix (cv 3) pe_int))))))), ?_⟩), F.bindsN fun _ _ _ _ _ _ us hl => match us, hl with | [_, _], _ => rfl⟩
  · unfold spLoct at h
    split at h
    · rfl
    · exact h.elim
  · unfold spLoct at h
    split at h
    case h_2 => exact h.elim
    rename_i t i
    obtain ⟨n, rfl, ht, hn, he, q⟩ := h
    have sl := sl
    refine seqStep ?_
    try unfold tPar tM0
    (try simp only [tNext, tFor_eq, cBl, tOp, tC, cI, cIc, cAdd, cVar, hEq, hNe, hIn, hNotIn, hLen, hSl, tM1, tBM, cT1, cT1f, cFind3, cSplit, cPart, rNewStrs, hIsS, hTru, tAsg, gName, gSub, tRet, tRetN, tCons, tNil, tTup, tLst, tCB, tNot, tAnd, tNotV, tAndV, tOrV, tOr, V.bl.injEq, V.int.injEq, V.str.injEq, exists_eq_left', exists_eq_left, exists_eq', true_and, and_true, cIsN, L2.start, gTup, gCons, gNil, nox_K, cx_K, tCallF, tSl, tPart, tNoPart, iEnum, RZ.iZipA, iRng1, iRng2, cAbs, List.map_cons, List.map_nil, List.length_cons, List.length_nil, List.replicate, List.cons_append, List.nil_append, List.getElem?_cons_zero, List.getElem?_cons_succ, List.getElem?_nil, List.set_cons_zero, List.set_cons_succ, Nat.reduceAdd, Nat.reduceSub, Nat.zero_add, if_true, if_false, reduceIte, reduceCtorEq, Bool.false_eq_true, decide_eq_true_eq, tDrop, cMin2, cJoin, iList, tDNewK, tLc_eq, iStr, wipe])
    have ep := pair_tl t n
    obtain ⟨a, b, s, er, ha, hb⟩ := escAt_three he
    rw [er] at ep q
    have ep : tl (cutS t (some ((n : Int) + 1)) (some ((n : Int) + 3))) = [a, b] := ep
    have lp : (cutS t (some ((n : Int) + 1)) (some ((n : Int) + 3))).length = 2 := by rw [TL.len_tl, ep]; rfl
    have ha' := List.contains_iff_mem.mp ha
    have hb' := List.contains_iff_mem.mp hb
    have el : tl (Txt.lower (cutS t (some ((n : Int) + 1)) (some ((n : Int) + 3)))) = [lo1 a, lo1 b] := by
      rw [low_tl2 (fun c hc => by
        rw [ep] at hc
        rcases List.mem_cons.mp hc with rfl | hc
        · exact hext_asc _ ha'
        · rw [List.mem_singleton.mp hc]; exact hext_asc _ hb'), ep]
      rfl
    have ll : (Txt.lower (cutS t (some ((n : Int) + 1)) (some ((n : Int) + 3)))).length = 2 := by rw [TL.len_tl, el]; rfl
    generalize Txt.lower (cutS t (some ((n : Int) + 1)) (some ((n : Int) + 3))) = lw at *
    refine ⟨by omega, by omega, _, _, rfl, ⟨_, rfl⟩, ?_⟩
    refine hIx_str (by omega) (c := lo1 a) (by rw [show lw.cps.toList = [lo1 a, lo1 b] from el]; exact atI_zero _ _) ?_
    have i1 := hexI a ha'
    have i2 := hexI b hb'
    have v1 := Hx.hv_lt (isHex_of ha)
    refine ⟨Str.ofString "0123456789abcdef", ⟨#[lo1 a]⟩, Hx.hv a, [], rfl, rfl, i1, .inl ⟨by decide, by decide⟩, ⟨_, rfl⟩, ?_⟩
    refine hIx_str (by omega) (c := lo1 b) (by rw [show lw.cps.toList = [lo1 a, lo1 b] from el]; rfl) ?_
    refine ⟨Str.ofString "0123456789abcdef", ⟨#[lo1 b]⟩, Hx.hv b, [], rfl, rfl, i2, ?_⟩
    have e : ((octP ((94 :: a :: b :: s).take 3) : Nat) : Int) = 16 * ((Hx.hv a : Nat) : Int) + ((Hx.hv b : Nat) : Int) := by
      show ((((0 * 16 + Hx.hv a) * 16 + Hx.hv b) : Nat) : Int) = _
      omega
    rw [← e]
    exact q
theorem ok__law_pieces (c : Ct w K mg) : OkF P w K mg base CX0 2 (He.ga K "_law_pieces") ["text"] (spPcs) := by
  obtain ⟨fd, F⟩ := F__law_pieces c
  refine ⟨fd, F.ok sc__law_pieces (fun vs H Q E h => ?_) (fun cdv A outer s H vs Q E hr h => ⟨_, PSs.nox ((pss_cons (ps_par (i := 1) (j := 2) (by rfl) (sc__law_pieces).nd rfl rfl (by decide) rfl rfl (pa_cons (pe_lst pa_nil) (pa_cons pe_int pa_nil)) (by rfl)) (pss_cons (ps_while PassesOwn.never (ctc co_lt (cv 2) (pe_callB hc_len (by rfl) (b_len c) (by decide +kernel) (pa_cons (cv 0) pa_nil)) (by rfl)) (pss_cons (ps_set (i := 3) (sc__law_pieces).nd rfl (Or.inl rfl) (pe_ifExp (ct (pf (ok__law_is_escape c) (hr.mono (by decide)) (g__law_is_escape c) (k__law_is_escape c) pass0 (pa_cons (cv 0) (pa_cons (cv 2) pa_nil)))) pe_int pe_int)) (pss_cons (ps_expr (pe_bm PySem.F.plainAttrs_list PySem.F.slot_list_append PySem.F.type_list_append mt_append (cv 1) (pa_cons (pe_slice hs_any (cv 0) (po_some (cv 2)) (po_some (pe_op co_add (cv 2) (cv 3)))) pa_nil))) (pss_one (ps_set (i := 2) (sc__law_pieces).nd rfl (Or.inl rfl) (pe_op co_add (cv 2) (cv 3))))))) (pss_one (ps_ret (cv 1)))))), ?_⟩), F.bindsN fun _ _ _ _ _ _ us hl => match us, hl with | [_], _ => rfl⟩
  · unfold spPcs at h
    split at h
    · rfl
    · exact h.elim
  · unfold spPcs at h
    split at h
    case h_2 => exact h.elim
    rename_i t
    obtain ⟨ht, q⟩ := h
    have sl := sl
    refine seqStep ?_
    try unfold tPar
    (try simp only [tNext, tFor_eq, cBl, tOp, tC, cI, cIc, cAdd, cVar, hEq, hNe, hIn, hNotIn, hLen, hSl, tM1, tBM, cT1, cT1f, cFind3, cSplit, cPart, rNewStrs, hIsS, hTru, tAsg, gName, gSub, tRet, tRetN, tCons, tNil, tTup, tLst, tCB, tNot, tAnd, tNotV, tAndV, tOrV, tOr, V.bl.injEq, V.int.injEq, V.str.injEq, exists_eq_left', exists_eq_left, exists_eq', true_and, and_true, cIsN, L2.start, gTup, gCons, gNil, nox_K, cx_K, tCallF, tSl, tPart, tNoPart, iEnum, RZ.iZipA, iRng1, iRng2, cAbs, List.map_cons, List.map_nil, List.length_cons, List.length_nil, List.replicate, List.cons_append, List.nil_append, List.getElem?_cons_zero, List.getElem?_cons_succ, List.getElem?_nil, List.set_cons_zero, List.set_cons_succ, Nat.reduceAdd, Nat.reduceSub, Nat.zero_add, if_true, if_false, reduceIte, reduceCtorEq, Bool.false_eq_true, decide_eq_true_eq, tDrop, cMin2, cJoin, iList, tDNewK, tLc_eq, iStr, wipe])
    have hl := TL.len_tl t
    refine ⟨Nat.zero_le _, fun p hp => ⟨_, _, rfl, ?_⟩⟩
    refine seqCps (fun σ H' => ∃ (zs : List Str) (u3 : Option V), σ = [some (.str t), some (.ref p), some (.int (t.length : Nat)), u3] ∧ Ext H H' ∧ H' p = some (.lst (zs.map V.str)) ∧ zs.map tl = pcs (tl t)) (fun Nx hN => ?_) ?_
    · refine lp_while (fun σ H' => ∃ (n : Nat) (zs : List Str) (u3 : Option V), σ = [some (.str t), some (.ref p), some (.int (n : Nat)), u3] ∧ n ≤ t.length ∧ Ext H H' ∧ H' p = some (.lst (zs.map V.str)) ∧ zs.length ≤ n ∧ zs.map tl ++ pcs ((tl t).drop n) = pcs (tl t)) (fun σ H' => match σ with
        | [_, _, some (.int i), _] => t.length - i.toNat
        | _ => 0) ⟨0, [], none, rfl, Nat.zero_le _, Ext.rf.fresh hp, upd_self, Nat.le_refl _, rfl⟩ ?_
      rintro σ H' ⟨n, zs, u3, rfl, hn, x, hz, nz, ez⟩
      (try simp only [tNext, tFor_eq, cBl, tOp, tC, cI, cIc, cAdd, cVar, hEq, hNe, hIn, hNotIn, hLen, hSl, tM1, tBM, cT1, cT1f, cFind3, cSplit, cPart, rNewStrs, hIsS, hTru, tAsg, gName, gSub, tRet, tRetN, tCons, tNil, tTup, tLst, tCB, tNot, tAnd, tNotV, tAndV, tOrV, tOr, V.bl.injEq, V.int.injEq, V.str.injEq, exists_eq_left', exists_eq_left, exists_eq', true_and, and_true, cIsN, L2.start, gTup, gCons, gNil, nox_K, cx_K, tCallF, tSl, tPart, tNoPart, iEnum, RZ.iZipA, iRng1, iRng2, cAbs, List.map_cons, List.map_nil, List.length_cons, List.length_nil, List.replicate, List.cons_append, List.nil_append, List.getElem?_cons_zero, List.getElem?_cons_succ, List.getElem?_nil, List.set_cons_zero, List.set_cons_succ, Nat.reduceAdd, Nat.reduceSub, Nat.zero_add, if_true, if_false, reduceIte, reduceCtorEq, Bool.false_eq_true, decide_eq_true_eq, tDrop, cMin2, cJoin, iList, tDNewK, tLc_eq, iStr, wipe])
      refine ⟨by omega, ?_⟩
      by_cases hlt : ((n : Nat) : Int) < (t.length : Nat)
      · rw [if_pos hlt]
        have hne : (tl t).drop n ≠ [] := fun e => by
          have := congrArg List.length e
          rw [List.length_drop, List.length_nil] at this
          omega
        refine ⟨_, fun σ' H2 h => h, ?_⟩
        refine seqStep ?_
        unfold tAsg
        refine cps (R := tIf _ _ _ _ _) (fun v H2 => v = .int (sz ((tl t).drop n) : Nat) ∧ Ext H' H2) ?_ ?_
        · rintro _ H2 ⟨rfl, x2⟩
          (try simp only [tNext, tFor_eq, cBl, tOp, tC, cI, cIc, cAdd, cVar, hEq, hNe, hIn, hNotIn, hLen, hSl, tM1, tBM, cT1, cT1f, cFind3, cSplit, cPart, rNewStrs, hIsS, hTru, tAsg, gName, gSub, tRet, tRetN, tCons, tNil, tTup, tLst, tCB, tNot, tAnd, tNotV, tAndV, tOrV, tOr, V.bl.injEq, V.int.injEq, V.str.injEq, exists_eq_left', exists_eq_left, exists_eq', true_and, and_true, cIsN, L2.start, gTup, gCons, gNil, nox_K, cx_K, tCallF, tSl, tPart, tNoPart, iEnum, RZ.iZipA, iRng1, iRng2, cAbs, List.map_cons, List.map_nil, List.length_cons, List.length_nil, List.replicate, List.cons_append, List.nil_append, List.getElem?_cons_zero, List.getElem?_cons_succ, List.getElem?_nil, List.set_cons_zero, List.set_cons_succ, Nat.reduceAdd, Nat.reduceSub, Nat.zero_add, if_true, if_false, reduceIte, reduceCtorEq, Bool.false_eq_true, decide_eq_true_eq, tDrop, cMin2, cJoin, iList, tDNewK, tLc_eq, iStr, wipe])
          have hs1 := sz_pos ((tl t).drop n)
          have hs2 := sz_le hne
          rw [List.length_drop] at hs2
          have hz2 := x2 _ _ hz
          refine seqStep ?_
          (try simp only [tNext, tFor_eq, cBl, tOp, tC, cI, cIc, cAdd, cVar, hEq, hNe, hIn, hNotIn, hLen, hSl, tM1, tBM, cT1, cT1f, cFind3, cSplit, cPart, rNewStrs, hIsS, hTru, tAsg, gName, gSub, tRet, tRetN, tCons, tNil, tTup, tLst, tCB, tNot, tAnd, tNotV, tAndV, tOrV, tOr, V.bl.injEq, V.int.injEq, V.str.injEq, exists_eq_left', exists_eq_left, exists_eq', true_and, and_true, cIsN, L2.start, gTup, gCons, gNil, nox_K, cx_K, tCallF, tSl, tPart, tNoPart, iEnum, RZ.iZipA, iRng1, iRng2, cAbs, List.map_cons, List.map_nil, List.length_cons, List.length_nil, List.replicate, List.cons_append, List.nil_append, List.getElem?_cons_zero, List.getElem?_cons_succ, List.getElem?_nil, List.set_cons_zero, List.set_cons_succ, Nat.reduceAdd, Nat.reduceSub, Nat.zero_add, if_true, if_false, reduceIte, reduceCtorEq, Bool.false_eq_true, decide_eq_true_eq, tDrop, cMin2, cJoin, iList, tDNewK, tLc_eq, iStr, wipe])
          refine ⟨tyL hz2, by omega, append_at hz2 (by rw [List.length_map]; omega) ?_⟩
          have ec : tl (cutS t (some ((n : Nat) : Int)) (some (((n : Nat) : Int) + ((sz ((tl t).drop n) : Nat) : Int)))) = ((tl t).drop n).take (sz ((tl t).drop n)) := by
            rw [show (((n : Nat) : Int) + ((sz ((tl t).drop n) : Nat) : Int)) = ((n + sz ((tl t).drop n) : Nat) : Int) by omega, sl_mid]
            congr 1
            omega
          refine ⟨_, ?_, rfl, n + sz ((tl t).drop n), zs ++ [cutS t (some ((n : Nat) : Int)) (some (((n : Nat) : Int) + ((sz ((tl t).drop n) : Nat) : Int)))], _, by congr 4, by omega, (x.tr x2).new hp, by rw [List.map_append]; exact upd_self, by rw [List.length_append, List.length_singleton]; omega, ?_⟩
          · show t.length - _ < t.length - _
            omega
          · rw [List.map_append, ← ez, pcs_step hne, List.append_assoc, List.drop_drop]
            show _ ++ ([tl _] ++ _) = _
            rw [ec]
            rfl
        · intro Q' hQ
          unfold tIf
          (try simp only [tSeq, tNext, tIfS, tFor_eq, cBl, tOp, tC, cI, cIc, cAdd, cVar, hEq, hNe, hIn, hNotIn, hLen, hSl, tM1, tBM, cT1, cT1f, cFind3, cSplit, cPart, rNewStrs, hIsS, hTru, tAsg, gName, gSub, tRet, tRetN, tCons, tNil, tTup, tLst, tCB, tNot, tAnd, tNotV, tAndV, tOrV, tOr, V.bl.injEq, V.int.injEq, V.str.injEq, exists_eq_left', exists_eq_left, exists_eq', true_and, and_true, cIsN, L2.start, gTup, gCons, gNil, nox_K, cx_K, tCallF, tSl, tPart, tNoPart, iEnum, RZ.iZipA, iRng1, iRng2, cAbs, List.map_cons, List.map_nil, List.length_cons, List.length_nil, List.replicate, List.cons_append, List.nil_append, List.getElem?_cons_zero, List.getElem?_cons_succ, List.getElem?_nil, List.set_cons_zero, List.set_cons_succ, Nat.reduceAdd, Nat.reduceSub, Nat.zero_add, if_true, if_false, reduceIte, reduceCtorEq, Bool.false_eq_true, decide_eq_true_eq, tDrop, cMin2, cJoin, iList, tDNewK, tLc_eq, iStr, wipe])
          refine ⟨n, rfl, by omega, by omega, fun H2 x2 => ?_⟩
          cases he : escAt ((tl t).drop n) with
          | true =>
            have e : sz ((tl t).drop n) = 3 := by unfold sz; rw [he]; rfl
            rw [e] at hQ
            exact hQ _ _ ⟨rfl, x2⟩
          | false =>
            have e : sz ((tl t).drop n) = 1 := by unfold sz; rw [he]; rfl
            rw [e] at hQ
            exact hQ _ _ ⟨rfl, x2⟩
      · rw [if_neg hlt]
        have e : n = t.length := by omega
        subst e
        refine hN _ _ ⟨zs, _, rfl, x, hz, ?_⟩
        rw [← ez, List.drop_of_length_le (by rw [hl]; exact Nat.le_refl _), pcs_nil, List.append_nil]
    · rintro σ H' ⟨zs, u3, rfl, x, hz, ez⟩
      (try simp only [tSeq, tNext, tIfS, tFor_eq, cBl, tOp, tC, cI, cIc, cAdd, cVar, hEq, hNe, hIn, hNotIn, hLen, hSl, tM1, tBM, cT1, cT1f, cFind3, cSplit, cPart, rNewStrs, hIsS, hTru, tAsg, gName, gSub, tRet, tRetN, tCons, tNil, tTup, tLst, tCB, tNot, tAnd, tNotV, tAndV, tOrV, tOr, V.bl.injEq, V.int.injEq, V.str.injEq, exists_eq_left', exists_eq_left, exists_eq', true_and, and_true, cIsN, L2.start, gTup, gCons, gNil, nox_K, cx_K, tCallF, tSl, tPart, tNoPart, iEnum, RZ.iZipA, iRng1, iRng2, cAbs, List.map_cons, List.map_nil, List.length_cons, List.length_nil, List.replicate, List.cons_append, List.nil_append, List.getElem?_cons_zero, List.getElem?_cons_succ, List.getElem?_nil, List.set_cons_zero, List.set_cons_succ, Nat.reduceAdd, Nat.reduceSub, Nat.zero_add, if_true, if_false, reduceIte, reduceCtorEq, Bool.false_eq_true, decide_eq_true_eq, tDrop, cMin2, cJoin, iList, tDNewK, tLc_eq, iStr, wipe])
      exact q p zs H' x hp hz ez
end
end Da
set_option Elab.async false
set_option linter.all false
set_option maxRecDepth 100000
set_option maxHeartbeats 4000000
namespace Da
open PySem PySem.Spec PyProof.Rows L2 Hd Xs Fx Mi Ms Md Mp ClX Xr
open TL (tl joinL)
/-! ### drawn texts; the program's pieces -/
def PcS (sg p : T) : Prop := (∃ a b, p = [94, a, b] ∧ HEXT.contains a = true ∧ HEXT.contains b = true) ∨ ∃ c, c ∈ sg ∧ p = [c]
def DrT (sg : T) (m : Nat) (l : T) : Prop := ∃ ps : List T, l = ps.flatten ∧ ps.length ≤ m ∧ ∀ p ∈ ps, PcS sg p
theorem DrT.len {sg : T} {m : Nat} {l : T} (h : DrT sg m l) : l.length ≤ 3 * m := by
  obtain ⟨ps, rfl, hn, hp⟩ := h
  have : ∀ ps : List T, (∀ p ∈ ps, PcS sg p) → ps.flatten.length ≤ 3 * ps.length := by
    intro ps
    induction ps with
    | nil => intro _; exact Nat.zero_le _
    | cons p ps ih =>
      intro h
      have h1 : p.length ≤ 3 := by
        rcases h p (List.mem_cons_self ..) with ⟨a, b, rfl, _, _⟩ | ⟨c, _, rfl⟩ <;> simp
      have h2 := ih fun q hq => h q (List.mem_cons_of_mem _ hq)
      rw [List.flatten_cons, List.length_append, List.length_cons]
      omega
  have := this ps hp
  omega
theorem DrT.snoc {sg p : T} {m : Nat} {l : T} (h : DrT sg m l) (hp : PcS sg p) : DrT sg (m + 1) (l ++ p) := by
  obtain ⟨ps, rfl, hn, hps⟩ := h
  refine ⟨ps ++ [p], by simp, by rw [List.length_append]; simp; omega, fun q hq => ?_⟩
  rcases List.mem_append.mp hq with hq | hq
  · exact hps q hq
  · rw [List.mem_singleton.mp hq]; exact hp
def escOk (l : T) : Bool := l.length == 3 && (l.headD 0 == 94 && (HEXT.contains (l.getD 1 0) && HEXT.contains (l.getD 2 0)))
theorem escB_ok : ∀ k < 256, escOk (tl (escB true k)) = true ∧ escOk (tl (escB false k)) = true := by decide +kernel
theorem escOk_pc {l sg : T} (h : escOk l = true) : PcS sg l := by
  match l, h with
  | [x, a, b], h =>
    have h' : (x == 94 && (HEXT.contains a && HEXT.contains b)) = true := h
    simp only [Bool.and_eq_true, beq_iff_eq] at h'
    obtain ⟨rfl, ha, hb⟩ := h'
    exact .inl ⟨a, b, rfl, ha, hb⟩
theorem escB_pc {k : Nat} (h : k < 256) (b : Bool) (sg : T) : PcS sg (tl (escB b k)) := by
  obtain ⟨h1, h2⟩ := escB_ok k h
  cases b with
  | true => exact escOk_pc h1
  | false => exact escOk_pc h2
theorem sgs_lt3 : ∀ c ∈ tl SGS, c < 128 := by decide +kernel
def spDt : Sp := fun vs H Q _ => match vs with
  | [.ref b, .str sg, .int m] => Bg H b ∧ 0 ≤ m ∧ m ≤ 100 ∧ 1 ≤ sg.length ∧ sg.length ≤ 200 ∧ (∀ c ∈ tl sg, c < 256) ∧ ∀ z H', DrT (tl sg) m.toNat (tl z) → Bg H' b → Kp b H H' → Q (.str z) H'
  | _ => False
/-- where the pieces stand -/
def posn (ps : List T) (i : Nat) : Nat := ((ps.take i).map List.length).sum
def PcAt (H : Hp) (as : List Addr) (zs : List Str) : Prop := as.length = zs.length ∧ ∀ (i : Nat) (t : Addr) (z : Str), as[i]? = some t → zs[i]? = some z → H t = some (.tup [.int (posn (zs.map tl) i : Nat), .str z])
theorem PcAt.updL {H : Hp} {as : List Addr} {zs : List Str} {p : Addr} {xs : List V} {o : HO} (h : PcAt H as zs) (hp : H p = some (.lst xs)) : PcAt (upd H p o) as zs := ⟨h.1, fun i t z h1 h2 => by
  have e := h.2 i t z h1 h2
  rw [upd_ne (fun z => by rw [z, hp] at e; cases e)]
  exact e⟩
theorem PcAt.ext {H H' : Hp} {as : List Addr} {zs : List Str} (h : PcAt H as zs) (x : Ext H H') : PcAt H' as zs := ⟨h.1, fun i t z h1 h2 => x _ _ (h.2 i t z h1 h2)⟩
theorem PcAt.snoc {H : Hp} {as : List Addr} {zs : List Str} {T0 : Addr} {p : Nat} (h : PcAt H as zs) (hT : H T0 = none) (hs : ((zs.map tl).map List.length).sum = p) (z : Str) : PcAt (upd H T0 (.tup [.int (p : Nat), .str z])) (as ++ [T0]) (zs ++ [z]) := ⟨by rw [List.length_append, List.length_append, h.1]; rfl, fun i t y e1 e2 => by
  have e := h.ext (Ext.rf.fresh (o := .tup [.int (p : Nat), .str z]) hT)
  rcases Nat.lt_or_ge i as.length with hi | hi
  · rw [List.getElem?_append_left hi] at e1
    have hi2 : i < zs.length := by rw [← h.1]; exact hi
    rw [List.getElem?_append_left hi2] at e2
    have := e.2 i t y e1 e2
    have ep : posn ((zs ++ [z]).map tl) i = posn (zs.map tl) i := by
      unfold posn
      rw [List.map_append, List.take_append_of_le_length (by rw [List.length_map]; omega)]
    rw [ep]
    exact this
  · have hi2 := (List.getElem?_eq_some_iff.mp e1).1
    rw [List.length_append, List.length_singleton] at hi2
    have ei : i = as.length := by omega
    subst ei
    rw [List.getElem?_append_right (Nat.le_refl _), Nat.sub_self] at e1
    rw [h.1, List.getElem?_append_right (Nat.le_refl _), Nat.sub_self] at e2
    cases e1
    cases e2
    have ep : posn ((zs ++ [z]).map tl) as.length = p := by
      unfold posn
      rw [List.map_append, List.take_left' (by rw [List.length_map, h.1])]
      exact hs
    rw [ep]
    exact upd_self⟩
def spPof : Sp := fun vs H Q _ => match vs with
  | [.str t] => t.length ≤ 50000 ∧ ∀ p (as : List Addr) (zs : List Str) H', Ext H H' → H p = none → H' p = some (.lst (as.map V.ref)) → PcAt H' as zs → zs.map tl = pcs (tl t) → Q (.ref p) H'
  | _ => False
def spBeg : Sp := fun vs H Q _ => match vs with
  | [.str t] => t.length ≤ (100000 : Nat) ∧ Q (.bl (Mi.hex2 (tl t))) H
  | _ => False
theorem one_at2 {z : Str} {c : Nat} {r : List Nat} {K : PySem.W.Frag} {H : Hp} {Q : VK} (e : tl z = c :: r) (hz : z.length ≤ sizeLine) (q : Q (.str ⟨#[c]⟩) H) : hIx K (.str z) (.int 0) H Q := hIx_str hz (by rw [show z.cps.toList = c :: r from e]; exact atI_zero _ _) q
theorem two_at2 {z : Str} {c d : Nat} {r : List Nat} {K : PySem.W.Frag} {H : Hp} {Q : VK} (e : tl z = c :: d :: r) (hz : z.length ≤ sizeLine) (q : Q (.str ⟨#[d]⟩) H) : hIx K (.str z) (.int 1) H Q := hIx_str hz (by
  rw [show z.cps.toList = c :: d :: r from e]
  unfold atI ixN
  rw [if_pos (by decide), if_pos (by simp only [List.length_cons]; omega)]
  rfl) q
section
variable {P : Program} {w : World} {K : PySem.W.Frag} {mg : Str → Option Value} {base : Heap}
theorem ok__law_drawn_text (c : Ct w K mg) : OkF P w K mg base CX0 2 (He.ga K "_law_drawn_text") ["bag", "signs", "most"] (spDt) := by
  obtain ⟨fd, F⟩ := F__law_drawn_text c
  refine ⟨fd, F.ok sc__law_drawn_text (fun vs H Q E h => ?_) (fun cdv A outer s H vs Q E hr h => ⟨_, PSs.nox ((pss_cons (ps_set (i := 3) (sc__law_drawn_text).nd rfl (Or.inl rfl) pe_str) (pss_cons (ps_for PassesOwn.never rfl (pi_range1 rfl (b_range c) (pa_cons (pf (ok__law_take c) (hr.mono (by decide)) (g__law_take c) (k__law_take c) pass0 (pa_cons (cv 0) (pa_cons (pe_op co_add (cv 2) pe_int) pa_nil))) pa_nil)) (pg_name (i := 4) (sc__law_drawn_text).nd rfl (Or.inl rfl)) (pss_cons (ps_set (i := 5) (sc__law_drawn_text).nd rfl (Or.inl rfl) (pf (ok__law_take c) (hr.mono (by decide)) (g__law_take c) (k__law_take c) pass0 (pa_cons (cv 0) (pa_cons pe_int pa_nil)))) (pss_one (ps_if (ctc (ho_eq (hu64 hr)) (cv 5) pe_int (by rfl)) (pss_one (ps_set (i := 3) (sc__law_drawn_text).nd rfl (Or.inl rfl) (pe_op co_add (cv 3) (pf (ok__law_escape c) (hr.mono (by decide)) (g__law_escape c) (k__law_escape c) pass0 (pa_cons (pf (ok__law_take c) (hr.mono (by decide)) (g__law_take c) (k__law_take c) pass0 (pa_cons (cv 0) (pa_cons pe_int pa_nil))) (pa_cons (pe_cmpR (ho_eq (hu64 hr)) (pf (ok__law_take c) (hr.mono (by decide)) (g__law_take c) (k__law_take c) pass0 (pa_cons (cv 0) (pa_cons pe_int pa_nil))) pe_int (by rfl)) pa_nil)))))) (pss_one (ps_if (ctc (ho_eq (hu64 hr)) (cv 5) pe_int (by rfl)) (pss_one (ps_set (i := 3) (sc__law_drawn_text).nd rfl (Or.inl rfl) (pe_op co_add (cv 3) (pf (ok__law_escape c) (hr.mono (by decide)) (g__law_escape c) (k__law_escape c) pass0 (pa_cons (pe_callB call_ord (by rfl) (b_ord c) (by decide +kernel) (pa_cons (hix (cv 1) (pf (ok__law_take c) (hr.mono (by decide)) (g__law_take c) (k__law_take c) pass0 (pa_cons (cv 0) (pa_cons (pe_callB hc_len (by rfl) (b_len c) (by decide +kernel) (pa_cons (cv 1) pa_nil)) pa_nil)))) pa_nil)) (pa_cons (pe_cmpR (ho_eq (hu64 hr)) (pf (ok__law_take c) (hr.mono (by decide)) (g__law_take c) (k__law_take c) pass0 (pa_cons (cv 0) (pa_cons pe_int pa_nil))) pe_int (by rfl)) pa_nil)))))) (pss_one (ps_set (i := 3) (sc__law_drawn_text).nd rfl (Or.inl rfl) (pe_op co_add (cv 3) (hix (cv 1) (pf (ok__law_take c) (hr.mono (by decide)) (g__law_take c) (k__law_take c) pass0 (pa_cons (cv 0) (pa_cons (pe_callB hc_len (by rfl) (b_len c) (by decide +kernel) (pa_cons (cv 1) pa_nil)) pa_nil))))))))))))) (pss_one (ps_ret (cv 3)))))), ?_⟩), F.bindsN fun _ _ _ _ _ _ us hl => match us, hl with | [_, _, _], _ => rfl⟩
  · unfold spDt at h
    split at h
    · rfl
    · exact h.elim
  · unfold spDt at h
    split at h
    case h_2 => exact h.elim
    rename_i b sg m
    obtain ⟨hb, m0, m1, s1, s2, hsg, q⟩ := h
    have sl := sl
    refine seqStep ?_
    (try simp only [tNext, tFor_eq, cBl, tOp, tC, cI, cIc, cAdd, cVar, hEq, hNe, hIn, hNotIn, hLen, hSl, tM1, tBM, cT1, cT1f, cFind3, cSplit, cPart, rNewStrs, hIsS, hTru, tAsg, gName, gSub, tRet, tRetN, tCons, tNil, tTup, tLst, tCB, tNot, tAnd, tNotV, tAndV, tOrV, tOr, V.bl.injEq, V.int.injEq, V.str.injEq, exists_eq_left', exists_eq_left, exists_eq', true_and, and_true, cIsN, L2.start, gTup, gCons, gNil, nox_K, cx_K, tCallF, tSl, tPart, tNoPart, iEnum, RZ.iZipA, iRng1, iRng2, cAbs, List.map_cons, List.map_nil, List.length_cons, List.length_nil, List.replicate, List.cons_append, List.nil_append, List.getElem?_cons_zero, List.getElem?_cons_succ, List.getElem?_nil, List.set_cons_zero, List.set_cons_succ, Nat.reduceAdd, Nat.reduceSub, Nat.zero_add, if_true, if_false, reduceIte, reduceCtorEq, Bool.false_eq_true, decide_eq_true_eq, tDrop, cMin2, cJoin, iList, tDNewK, tLc_eq, iStr, wipe])
    refine seqStep ?_
    (try simp only [tNext, tFor_eq, cBl, tOp, tC, cI, cIc, cAdd, cVar, hEq, hNe, hIn, hNotIn, hLen, hSl, tM1, tBM, cT1, cT1f, cFind3, cSplit, cPart, rNewStrs, hIsS, hTru, tAsg, gName, gSub, tRet, tRetN, tCons, tNil, tTup, tLst, tCB, tNot, tAnd, tNotV, tAndV, tOrV, tOr, V.bl.injEq, V.int.injEq, V.str.injEq, exists_eq_left', exists_eq_left, exists_eq', true_and, and_true, cIsN, L2.start, gTup, gCons, gNil, nox_K, cx_K, tCallF, tSl, tPart, tNoPart, iEnum, RZ.iZipA, iRng1, iRng2, cAbs, List.map_cons, List.map_nil, List.length_cons, List.length_nil, List.replicate, List.cons_append, List.nil_append, List.getElem?_cons_zero, List.getElem?_cons_succ, List.getElem?_nil, List.set_cons_zero, List.set_cons_succ, Nat.reduceAdd, Nat.reduceSub, Nat.zero_add, if_true, if_false, reduceIte, reduceCtorEq, Bool.false_eq_true, decide_eq_true_eq, tDrop, cMin2, cJoin, iList, tDNewK, tLc_eq, iStr, wipe])
    refine take_ok hb (by omega) (by omega) fun d H1 d0 d1 hb1 k1 => ⟨d, rfl, by omega, by omega, ?_⟩
    refine lp_range (fun i σ H' => ∃ (z : Str) (u4 u5 : Option V), σ = [some (.ref b), some (.str sg), some (.int m), some (.str z), u4, u5] ∧ DrT (tl sg) i (tl z) ∧ Bg H' b ∧ Kp b H H') ⟨Str.ofString "", _, _, rfl, ⟨[], rfl, Nat.le_refl _, fun p hp => by cases hp⟩, hb1, k1⟩ ?_ ?_
    · rintro i σ H2 hi ⟨z, u4, u5, rfl, hz, hb2, k2⟩
      have lz := hz.len
      rw [← TL.len_tl] at lz
      have hsl : ((sg.length : Nat) : Int) ≤ 1000000 := by omega
      refine seqStep ?_
      (try simp only [tNext, tFor_eq, cBl, tOp, tC, cI, cIc, cAdd, cVar, hEq, hNe, hIn, hNotIn, hLen, hSl, tM1, tBM, cT1, cT1f, cFind3, cSplit, cPart, rNewStrs, hIsS, hTru, tAsg, gName, gSub, tRet, tRetN, tCons, tNil, tTup, tLst, tCB, tNot, tAnd, tNotV, tAndV, tOrV, tOr, V.bl.injEq, V.int.injEq, V.str.injEq, exists_eq_left', exists_eq_left, exists_eq', true_and, and_true, cIsN, L2.start, gTup, gCons, gNil, nox_K, cx_K, tCallF, tSl, tPart, tNoPart, iEnum, RZ.iZipA, iRng1, iRng2, cAbs, List.map_cons, List.map_nil, List.length_cons, List.length_nil, List.replicate, List.cons_append, List.nil_append, List.getElem?_cons_zero, List.getElem?_cons_succ, List.getElem?_nil, List.set_cons_zero, List.set_cons_succ, Nat.reduceAdd, Nat.reduceSub, Nat.zero_add, if_true, if_false, reduceIte, reduceCtorEq, Bool.false_eq_true, decide_eq_true_eq, tDrop, cMin2, cJoin, iList, tDNewK, tLc_eq, iStr, wipe])
      refine take_ok hb2 (by omega) (by omega) fun w1 H3 e0 e1 hb3 k3 => ?_
      unfold tIfS
      (try simp only [tNext, tFor_eq, cBl, tOp, tC, cI, cIc, cAdd, cVar, hEq, hNe, hIn, hNotIn, hLen, hSl, tM1, tBM, cT1, cT1f, cFind3, cSplit, cPart, rNewStrs, hIsS, hTru, tAsg, gName, gSub, tRet, tRetN, tCons, tNil, tTup, tLst, tCB, tNot, tAnd, tNotV, tAndV, tOrV, tOr, V.bl.injEq, V.int.injEq, V.str.injEq, exists_eq_left', exists_eq_left, exists_eq', true_and, and_true, cIsN, L2.start, gTup, gCons, gNil, nox_K, cx_K, tCallF, tSl, tPart, tNoPart, iEnum, RZ.iZipA, iRng1, iRng2, cAbs, List.map_cons, List.map_nil, List.length_cons, List.length_nil, List.replicate, List.cons_append, List.nil_append, List.getElem?_cons_zero, List.getElem?_cons_succ, List.getElem?_nil, List.set_cons_zero, List.set_cons_succ, Nat.reduceAdd, Nat.reduceSub, Nat.zero_add, if_true, if_false, reduceIte, reduceCtorEq, Bool.false_eq_true, decide_eq_true_eq, tDrop, cMin2, cJoin, iList, tDNewK, tLc_eq, iStr, wipe])
      by_cases hw0 : w1 = 0
      · rw [if_pos hw0]
        refine take_ok hb3 (by omega) (by omega) fun w2 H4 f0 f1 hb4 k4 => take_ok hb4 (by omega) (by omega) fun w3 H5 g0 g1 hb5 k5 => ?_
        dsimp only
        refine ⟨w2.toNat, by omega, by omega, ?_⟩
        have hpc := escB_pc (k := w2.toNat) (by omega) (decide (w3 = 0)) (tl sg)
        have hl : (escB (decide (w3 = 0)) w2.toNat).length ≤ 3 := by
          rw [TL.len_tl]
          rcases hpc with ⟨a, b, e, _, _⟩ | ⟨c, _, e⟩ <;> rw [e] <;> simp
        dsimp only
        refine ⟨by omega, _, _, _, rfl, ?_, hb5, ((k2.trans k3).trans k4).trans k5⟩
        rw [TL.tl_append]
        exact hz.snoc hpc
      · rw [if_neg hw0]
        by_cases hw1 : w1 = 1
        · rw [if_pos hw1]
          refine ⟨by omega, take_ok hb3 (by omega) (by omega) fun w2 H4 f0 f1 hb4 k4 => ?_⟩
          refine hIx_chr (by omega) f0 f1 fun c hc => ⟨_, rfl, rfl, take_ok hb4 (by omega) (by omega) fun w3 H5 g0 g1 hb5 k5 => ?_⟩
          have hc2 : c < 256 := hsg c hc
          dsimp only
          refine ⟨c, rfl, hc2, ?_⟩
          have hpc := escB_pc hc2 (decide (w3 = 0)) (tl sg)
          have hl : (escB (decide (w3 = 0)) c).length ≤ 3 := by
            rw [TL.len_tl]
            rcases hpc with ⟨a, b, e, _, _⟩ | ⟨c, _, e⟩ <;> rw [e] <;> simp
          dsimp only
          refine ⟨by omega, _, _, _, rfl, ?_, hb5, ((k2.trans k3).trans k4).trans k5⟩
          rw [TL.tl_append]
          exact hz.snoc hpc
        · rw [if_neg hw1]
          refine ⟨by omega, take_ok hb3 (by omega) (by omega) fun w2 H4 f0 f1 hb4 k4 => ?_⟩
          refine hIx_chr (by omega) f0 f1 fun c hc => ?_
          dsimp only
          refine ⟨by rw [l1]; omega, _, _, _, rfl, ?_, hb4, (k2.trans k3).trans k4⟩
          rw [TL.tl_append]
          exact hz.snoc (.inr ⟨c, hc, rfl⟩)
    · rintro σ H2 ⟨z, u4, u5, rfl, hz, hb2, k2⟩
      (try simp only [tNext, tFor_eq, cBl, tOp, tC, cI, cIc, cAdd, cVar, hEq, hNe, hIn, hNotIn, hLen, hSl, tM1, tBM, cT1, cT1f, cFind3, cSplit, cPart, rNewStrs, hIsS, hTru, tAsg, gName, gSub, tRet, tRetN, tCons, tNil, tTup, tLst, tCB, tNot, tAnd, tNotV, tAndV, tOrV, tOr, V.bl.injEq, V.int.injEq, V.str.injEq, exists_eq_left', exists_eq_left, exists_eq', true_and, and_true, cIsN, L2.start, gTup, gCons, gNil, nox_K, cx_K, tCallF, tSl, tPart, tNoPart, iEnum, RZ.iZipA, iRng1, iRng2, cAbs, List.map_cons, List.map_nil, List.length_cons, List.length_nil, List.replicate, List.cons_append, List.nil_append, List.getElem?_cons_zero, List.getElem?_cons_succ, List.getElem?_nil, List.set_cons_zero, List.set_cons_succ, Nat.reduceAdd, Nat.reduceSub, Nat.zero_add, if_true, if_false, reduceIte, reduceCtorEq, Bool.false_eq_true, decide_eq_true_eq, tDrop, cMin2, cJoin, iList, tDNewK, tLc_eq, iStr, wipe])
      refine q z H2 ?_ hb2 k2
      obtain ⟨ps, e, n, hp⟩ := hz
      exact ⟨ps, e, by omega, hp⟩
theorem ok_begins_with_octet (c : Ct w K mg) : OkF P w K mg base CX0 1 (He.ga K "begins_with_octet") ["text"] (spBeg) := by
  obtain ⟨fd, F⟩ := F_begins_with_octet c
  refine ⟨fd, F.ok sc_begins_with_octet (fun vs H Q E h => ?_) (fun cdv A outer s H vs Q E hr h => ⟨_, PSs.nox ((pss_one (ps_ret (pe_and (pe_cmpR co_gt (pe_callB hc_len (by rfl) (b_len c) (by decide +kernel) (pa_cons (cv 0) pa_nil)) pe_int (by rfl)) (pe_and (pe_cmpR ho_in (hix (cv 0) pe_int) (pe_glob rfl (c_HEXADECIMAL c).choose_spec.1 (c_HEXADECIMAL c).choose_spec.2) (by rfl)) (pe_one (pe_cmpR ho_in (hix (cv 0) pe_int) (pe_glob rfl (c_HEXADECIMAL c).choose_spec.1 (c_HEXADECIMAL c).choose_spec.2) (by rfl)))))))), ?_⟩), F.bindsN fun _ _ _ _ _ _ us hl => match us, hl with | [_], _ => rfl⟩
  · unfold spBeg at h
    split at h
    · rfl
    · exact h.elim
  · unfold spBeg at h
    split at h
    case h_2 => exact h.elim
    rename_i t
    obtain ⟨ht, q⟩ := h
    have sl := sl
    (try simp only [tSeq, tNext, tIfS, tFor_eq, cBl, tOp, tC, cI, cIc, cAdd, cVar, hEq, hNe, hIn, hNotIn, hLen, hSl, tM1, tBM, cT1, cT1f, cFind3, cSplit, cPart, rNewStrs, hIsS, hTru, tAsg, gName, gSub, tRet, tRetN, tCons, tNil, tTup, tLst, tCB, tNot, tAnd, tNotV, tAndV, tOrV, tOr, V.bl.injEq, V.int.injEq, V.str.injEq, exists_eq_left', exists_eq_left, exists_eq', true_and, and_true, cIsN, L2.start, gTup, gCons, gNil, nox_K, cx_K, tCallF, tSl, tPart, tNoPart, iEnum, RZ.iZipA, iRng1, iRng2, cAbs, List.map_cons, List.map_nil, List.length_cons, List.length_nil, List.replicate, List.cons_append, List.nil_append, List.getElem?_cons_zero, List.getElem?_cons_succ, List.getElem?_nil, List.set_cons_zero, List.set_cons_succ, Nat.reduceAdd, Nat.reduceSub, Nat.zero_add, if_true, if_false, reduceIte, reduceCtorEq, Bool.false_eq_true, decide_eq_true_eq, tDrop, cMin2, cJoin, iList, tDNewK, tLc_eq, iStr, wipe])
    refine ⟨by omega, ?_⟩
    have hl := TL.len_tl t
    rcases e : tl t with _ | ⟨c, _ | ⟨d, r⟩⟩
    · rw [e] at hl q
      rw [if_neg (by rw [hl]; decide)]
      exact q
    · rw [e] at hl q
      rw [if_neg (by rw [hl]; simp only [List.length_cons, List.length_nil]; omega)]
      exact q
    · rw [e] at hl q
      rw [if_pos (by rw [hl]; simp only [List.length_cons]; omega)]
      refine one_at2 e (by omega) ?_
      dsimp only
      rw [isIn1e]
      have q' : Q (.bl (HEXT.contains c && HEXT.contains d)) H := q
      cases hc : HEXT.contains c with
      | false =>
        rw [if_neg (by rw [show (tl (Str.ofString "0123456789ABCDEFabcdef")).contains c = HEXT.contains c from rfl, hc]; exact Bool.false_ne_true)]
        rw [hc] at q'
        exact q'
      | true =>
        rw [if_pos (show (tl (Str.ofString "0123456789ABCDEFabcdef")).contains c = true from hc)]
        refine two_at2 e (by omega) ?_
        dsimp only
        rw [isIn1e]
        rw [hc, Bool.true_and] at q'
        exact q'
theorem ok_pieces_of (c : Ct w K mg) : OkF P w K mg base CX0 2 (He.ga K "pieces_of") ["text"] (spPof) := by
  obtain ⟨fd, F⟩ := F_pieces_of c
  refine ⟨fd, F.ok sc_pieces_of (fun vs H Q E h => ?_) (fun cdv A outer s H vs Q E hr h => ⟨_, PSs.nox ((pss_cons (ps_set (i := 1) (sc_pieces_of).nd rfl (Or.inl rfl) (pe_lst pa_nil)) (pss_cons (ps_set (i := 2) (sc_pieces_of).nd rfl (Or.inl rfl) pe_int) (pss_cons (ps_while PassesOwn.never (ctc co_lt (cv 2) (pe_callB hc_len (by rfl) (b_len c) (by decide +kernel) (pa_cons (cv 0) pa_nil)) (by rfl)) (pss_cons (ps_set (i := 3) (sc_pieces_of).nd rfl (Or.inl rfl) (pe_and (pe_cmpR (ho_eq (hu64 hr)) (hix (cv 0) (cv 2)) pe_str (by rfl)) (pe_one (pf (ok_begins_with_octet c) (hr.mono (by decide)) (g_begins_with_octet c) (k_begins_with_octet c) pass0 (pa_cons (pe_slice hs_any (cv 0) (po_some (pe_op co_add (cv 2) pe_int)) (po_some (pe_op co_add (cv 2) (pe_glob rfl (c_ESCAPE_SIZE c).choose_spec.1 (c_ESCAPE_SIZE c).choose_spec.2)))) pa_nil))))) (pss_cons (ps_set (i := 4) (sc_pieces_of).nd rfl (Or.inl rfl) (pe_ifExp (hTr (cv 3)) (pe_slice hs_any (cv 0) (po_some (cv 2)) (po_some (pe_op co_add (cv 2) (pe_glob rfl (c_ESCAPE_SIZE c).choose_spec.1 (c_ESCAPE_SIZE c).choose_spec.2)))) (hix (cv 0) (cv 2)))) (pss_cons (ps_expr (pe_bm PySem.F.plainAttrs_list PySem.F.slot_list_append PySem.F.type_list_append mt_append (cv 1) (pa_cons (pe_tup (pa_cons (cv 2) (pa_cons (cv 4) pa_nil))) pa_nil))) (pss_one (ps_aug (i := 2) (sc_pieces_of).nd rfl (Or.inl rfl) (pe_callB hc_len (by rfl) (b_len c) (by decide +kernel) (pa_cons (cv 4) pa_nil)) ip_add)))))) (pss_one (ps_ret (cv 1))))))), ?_⟩), F.bindsN fun _ _ _ _ _ _ us hl => match us, hl with | [_], _ => rfl⟩
  · unfold spPof at h
    split at h
    · rfl
    · exact h.elim
  · unfold spPof at h
    split at h
    case h_2 => exact h.elim
    rename_i t
    obtain ⟨ht, q⟩ := h
    have sl := sl
    refine seqStep ?_
    (try simp only [tNext, tFor_eq, cBl, tOp, tC, cI, cIc, cAdd, cVar, hEq, hNe, hIn, hNotIn, hLen, hSl, tM1, tBM, cT1, cT1f, cFind3, cSplit, cPart, rNewStrs, hIsS, hTru, tAsg, gName, gSub, tRet, tRetN, tCons, tNil, tTup, tLst, tCB, tNot, tAnd, tNotV, tAndV, tOrV, tOr, V.bl.injEq, V.int.injEq, V.str.injEq, exists_eq_left', exists_eq_left, exists_eq', true_and, and_true, cIsN, L2.start, gTup, gCons, gNil, nox_K, cx_K, tCallF, tSl, tPart, tNoPart, iEnum, RZ.iZipA, iRng1, iRng2, cAbs, List.map_cons, List.map_nil, List.length_cons, List.length_nil, List.replicate, List.cons_append, List.nil_append, List.getElem?_cons_zero, List.getElem?_cons_succ, List.getElem?_nil, List.set_cons_zero, List.set_cons_succ, Nat.reduceAdd, Nat.reduceSub, Nat.zero_add, if_true, if_false, reduceIte, reduceCtorEq, Bool.false_eq_true, decide_eq_true_eq, tDrop, cMin2, cJoin, iList, tDNewK, tLc_eq, iStr, wipe])
    refine ⟨Nat.zero_le _, fun p hp => ?_⟩
    refine seqStep ?_
    (try simp only [tNext, tFor_eq, cBl, tOp, tC, cI, cIc, cAdd, cVar, hEq, hNe, hIn, hNotIn, hLen, hSl, tM1, tBM, cT1, cT1f, cFind3, cSplit, cPart, rNewStrs, hIsS, hTru, tAsg, gName, gSub, tRet, tRetN, tCons, tNil, tTup, tLst, tCB, tNot, tAnd, tNotV, tAndV, tOrV, tOr, V.bl.injEq, V.int.injEq, V.str.injEq, exists_eq_left', exists_eq_left, exists_eq', true_and, and_true, cIsN, L2.start, gTup, gCons, gNil, nox_K, cx_K, tCallF, tSl, tPart, tNoPart, iEnum, RZ.iZipA, iRng1, iRng2, cAbs, List.map_cons, List.map_nil, List.length_cons, List.length_nil, List.replicate, List.cons_append, List.nil_append, List.getElem?_cons_zero, List.getElem?_cons_succ, List.getElem?_nil, List.set_cons_zero, List.set_cons_succ, Nat.reduceAdd, Nat.reduceSub, Nat.zero_add, if_true, if_false, reduceIte, reduceCtorEq, Bool.false_eq_true, decide_eq_true_eq, tDrop, cMin2, cJoin, iList, tDNewK, tLc_eq, iStr, wipe])
    have hl := TL.len_tl t
    refine seqCps (fun σ H' => ∃ (as : List Addr) (zs : List Str) (u3 u4 : Option V), σ = [some (.str t), some (.ref p), some (.int (t.length : Nat)), u3, u4] ∧ Ext H H' ∧ H' p = some (.lst (as.map V.ref)) ∧ PcAt H' as zs ∧ zs.map tl = pcs (tl t)) (fun Nx hN => ?_) ?_
    · refine lp_while (fun σ H' => ∃ (n : Nat) (as : List Addr) (zs : List Str) (u3 u4 : Option V), σ = [some (.str t), some (.ref p), some (.int (n : Nat)), u3, u4] ∧ n ≤ t.length ∧ Ext H H' ∧ H' p = some (.lst (as.map V.ref)) ∧ PcAt H' as zs ∧ zs.length ≤ n ∧ ((zs.map tl).map List.length).sum = n ∧ zs.map tl ++ pcs ((tl t).drop n) = pcs (tl t)) (fun σ H' => match σ with
        | [_, _, some (.int i), _, _] => t.length - i.toNat
        | _ => 0) ⟨0, [], [], none, none, rfl, Nat.zero_le _, Ext.rf.fresh hp, upd_self, ⟨rfl, fun i t z h => by cases h⟩, Nat.le_refl _, rfl, rfl⟩ ?_
      rintro σ H' ⟨n, as, zs, u3, u4, rfl, hn, x, hz, hpc, nz, sz_, ez⟩
      (try simp only [tNext, tFor_eq, cBl, tOp, tC, cI, cIc, cAdd, cVar, hEq, hNe, hIn, hNotIn, hLen, hSl, tM1, tBM, cT1, cT1f, cFind3, cSplit, cPart, rNewStrs, hIsS, hTru, tAsg, gName, gSub, tRet, tRetN, tCons, tNil, tTup, tLst, tCB, tNot, tAnd, tNotV, tAndV, tOrV, tOr, V.bl.injEq, V.int.injEq, V.str.injEq, exists_eq_left', exists_eq_left, exists_eq', true_and, and_true, cIsN, L2.start, gTup, gCons, gNil, nox_K, cx_K, tCallF, tSl, tPart, tNoPart, iEnum, RZ.iZipA, iRng1, iRng2, cAbs, List.map_cons, List.map_nil, List.length_cons, List.length_nil, List.replicate, List.cons_append, List.nil_append, List.getElem?_cons_zero, List.getElem?_cons_succ, List.getElem?_nil, List.set_cons_zero, List.set_cons_succ, Nat.reduceAdd, Nat.reduceSub, Nat.zero_add, if_true, if_false, reduceIte, reduceCtorEq, Bool.false_eq_true, decide_eq_true_eq, tDrop, cMin2, cJoin, iList, tDNewK, tLc_eq, iStr, wipe])
      refine ⟨by omega, ?_⟩
      by_cases hlt : ((n : Nat) : Int) < (t.length : Nat)
      · rw [if_pos hlt]
        have hne : (tl t).drop n ≠ [] := fun e => by
          have := congrArg List.length e
          rw [List.length_drop, List.length_nil] at this
          omega
        obtain ⟨c0, r0, er⟩ : ∃ c r, (tl t).drop n = c :: r := by
          cases e : (tl t).drop n with
          | nil => exact absurd e hne
          | cons c r => exact ⟨c, r, rfl⟩
        have hat : atI t.cps.toList ((n : Nat) : Int) = some c0 := by
          have hn2 : n < (tl t).length := by omega
          have e : (tl t)[n]? = some c0 := by
            have := List.getElem?_drop (xs := tl t) (i := n) (j := 0)
            rw [er] at this
            simpa using this.symm
          unfold atI ixN
          rw [if_pos (by omega), if_pos (by show ((n : Nat) : Int) < ((tl t).length : Nat); omega)]
          exact e
        refine ⟨_, fun σ' H2 h => h, ?_⟩
        refine seqStep ?_
        unfold tAsg
        refine cps (R := tAndV _ _ _ _) (fun v H2 => v = .bl (escAt ((tl t).drop n)) ∧ H' = H2) ?_ ?_
        · rintro _ _ ⟨rfl, rfl⟩
          (try simp only [tNext, tFor_eq, cBl, tOp, tC, cI, cIc, cAdd, cVar, hEq, hNe, hIn, hNotIn, hLen, hSl, tM1, tBM, cT1, cT1f, cFind3, cSplit, cPart, rNewStrs, hIsS, hTru, tAsg, gName, gSub, tRet, tRetN, tCons, tNil, tTup, tLst, tCB, tNot, tAnd, tNotV, tAndV, tOrV, tOr, V.bl.injEq, V.int.injEq, V.str.injEq, exists_eq_left', exists_eq_left, exists_eq', true_and, and_true, cIsN, L2.start, gTup, gCons, gNil, nox_K, cx_K, tCallF, tSl, tPart, tNoPart, iEnum, RZ.iZipA, iRng1, iRng2, cAbs, List.map_cons, List.map_nil, List.length_cons, List.length_nil, List.replicate, List.cons_append, List.nil_append, List.getElem?_cons_zero, List.getElem?_cons_succ, List.getElem?_nil, List.set_cons_zero, List.set_cons_succ, Nat.reduceAdd, Nat.reduceSub, Nat.zero_add, if_true, if_false, reduceIte, reduceCtorEq, Bool.false_eq_true, decide_eq_true_eq, tDrop, cMin2, cJoin, iList, tDNewK, tLc_eq, iStr, wipe])
          refine seqStep ?_
          refine cps (R := tIf _ _ _ _ _) (fun v H2 => H' = H2 ∧ ∃ z : Str, v = .str z ∧ tl z = ((tl t).drop n).take (sz ((tl t).drop n))) ?_ ?_
          · rintro _ _ ⟨rfl, z, rfl, e2⟩
            (try simp only [tNext, tFor_eq, cBl, tOp, tC, cI, cIc, cAdd, cVar, hEq, hNe, hIn, hNotIn, hLen, hSl, tM1, tBM, cT1, cT1f, cFind3, cSplit, cPart, rNewStrs, hIsS, hTru, tAsg, gName, gSub, tRet, tRetN, tCons, tNil, tTup, tLst, tCB, tNot, tAnd, tNotV, tAndV, tOrV, tOr, V.bl.injEq, V.int.injEq, V.str.injEq, exists_eq_left', exists_eq_left, exists_eq', true_and, and_true, cIsN, L2.start, gTup, gCons, gNil, nox_K, cx_K, tCallF, tSl, tPart, tNoPart, iEnum, RZ.iZipA, iRng1, iRng2, cAbs, List.map_cons, List.map_nil, List.length_cons, List.length_nil, List.replicate, List.cons_append, List.nil_append, List.getElem?_cons_zero, List.getElem?_cons_succ, List.getElem?_nil, List.set_cons_zero, List.set_cons_succ, Nat.reduceAdd, Nat.reduceSub, Nat.zero_add, if_true, if_false, reduceIte, reduceCtorEq, Bool.false_eq_true, decide_eq_true_eq, tDrop, cMin2, cJoin, iList, tDNewK, tLc_eq, iStr, wipe])
            have hs1 := sz_pos ((tl t).drop n)
            have hs2 := sz_le hne
            have lz : z.length = sz ((tl t).drop n) := by rw [TL.len_tl, e2, List.length_take]; omega
            rw [List.length_drop] at hs2
            refine seqStep ?_
            (try simp only [tNext, tFor_eq, cBl, tOp, tC, cI, cIc, cAdd, cVar, hEq, hNe, hIn, hNotIn, hLen, hSl, tM1, tBM, cT1, cT1f, cFind3, cSplit, cPart, rNewStrs, hIsS, hTru, tAsg, gName, gSub, tRet, tRetN, tCons, tNil, tTup, tLst, tCB, tNot, tAnd, tNotV, tAndV, tOrV, tOr, V.bl.injEq, V.int.injEq, V.str.injEq, exists_eq_left', exists_eq_left, exists_eq', true_and, and_true, cIsN, L2.start, gTup, gCons, gNil, nox_K, cx_K, tCallF, tSl, tPart, tNoPart, iEnum, RZ.iZipA, iRng1, iRng2, cAbs, List.map_cons, List.map_nil, List.length_cons, List.length_nil, List.replicate, List.cons_append, List.nil_append, List.getElem?_cons_zero, List.getElem?_cons_succ, List.getElem?_nil, List.set_cons_zero, List.set_cons_succ, Nat.reduceAdd, Nat.reduceSub, Nat.zero_add, if_true, if_false, reduceIte, reduceCtorEq, Bool.false_eq_true, decide_eq_true_eq, tDrop, cMin2, cJoin, iList, tDNewK, tLc_eq, iStr, wipe])
            refine ⟨tyL hz, by omega, fun T0 hT => ?_⟩
            have hz2 := upd_old (o := .tup [V.int (n : Nat), V.str z]) hz hT
            have na := hpc.1
            refine append_at hz2 (by rw [List.length_map]; omega) ?_
            unfold tAug
            simp only [ipI]
            (try simp only [tNext, tFor_eq, cBl, tOp, tC, cI, cIc, cAdd, cVar, hEq, hNe, hIn, hNotIn, hLen, hSl, tM1, tBM, cT1, cT1f, cFind3, cSplit, cPart, rNewStrs, hIsS, hTru, tAsg, gName, gSub, tRet, tRetN, tCons, tNil, tTup, tLst, tCB, tNot, tAnd, tNotV, tAndV, tOrV, tOr, V.bl.injEq, V.int.injEq, V.str.injEq, exists_eq_left', exists_eq_left, exists_eq', true_and, and_true, cIsN, L2.start, gTup, gCons, gNil, nox_K, cx_K, tCallF, tSl, tPart, tNoPart, iEnum, RZ.iZipA, iRng1, iRng2, cAbs, List.map_cons, List.map_nil, List.length_cons, List.length_nil, List.replicate, List.cons_append, List.nil_append, List.getElem?_cons_zero, List.getElem?_cons_succ, List.getElem?_nil, List.set_cons_zero, List.set_cons_succ, Nat.reduceAdd, Nat.reduceSub, Nat.zero_add, if_true, if_false, reduceIte, reduceCtorEq, Bool.false_eq_true, decide_eq_true_eq, tDrop, cMin2, cJoin, iList, tDNewK, tLc_eq, iStr, wipe])
            have hp2 := hpc.snoc (H := H') hT (p := n) sz_ z
            refine ⟨_, rfl, by omega, n, _, rfl, rfl, _, ?_, rfl, n + z.length, as ++ [T0], zs ++ [z], _, _, by congr 4, by omega, (x.fresh hT).new hp, by rw [List.map_append]; exact upd_self, hp2.updL hz2, by rw [List.length_append, List.length_singleton]; omega, ?_, ?_⟩
            · show t.length - _ < t.length - _
              omega
            · rw [List.map_append, List.map_append, List.sum_append, sz_]
              show n + ((tl z).length + 0) = _
              rw [← TL.len_tl]
              omega
            · rw [List.map_append, ← ez, pcs_step hne, List.append_assoc, List.drop_drop, lz]
              show _ ++ ([tl z] ++ _) = _
              rw [e2]
              rfl
          · intro Q' hQ
            unfold tIf
            (try simp only [tSeq, tNext, tIfS, tFor_eq, cBl, tOp, tC, cI, cIc, cAdd, cVar, hEq, hNe, hIn, hNotIn, hLen, hSl, tM1, tBM, cT1, cT1f, cFind3, cSplit, cPart, rNewStrs, hIsS, hTru, tAsg, gName, gSub, tRet, tRetN, tCons, tNil, tTup, tLst, tCB, tNot, tAnd, tNotV, tAndV, tOrV, tOr, V.bl.injEq, V.int.injEq, V.str.injEq, exists_eq_left', exists_eq_left, exists_eq', true_and, and_true, cIsN, L2.start, gTup, gCons, gNil, nox_K, cx_K, tCallF, tSl, tPart, tNoPart, iEnum, RZ.iZipA, iRng1, iRng2, cAbs, List.map_cons, List.map_nil, List.length_cons, List.length_nil, List.replicate, List.cons_append, List.nil_append, List.getElem?_cons_zero, List.getElem?_cons_succ, List.getElem?_nil, List.set_cons_zero, List.set_cons_succ, Nat.reduceAdd, Nat.reduceSub, Nat.zero_add, if_true, if_false, reduceIte, reduceCtorEq, Bool.false_eq_true, decide_eq_true_eq, tDrop, cMin2, cJoin, iList, tDNewK, tLc_eq, iStr, wipe])
            cases he : escAt ((tl t).drop n) with
            | true =>
              have e : sz ((tl t).drop n) = 3 := by unfold sz; rw [he]; rfl
              rw [e] at hQ
              rw [if_pos rfl]
              refine ⟨by omega, hQ _ _ ⟨rfl, _, rfl, ?_⟩⟩
              rw [show ((n : Nat) : Int) + 3 = ((n + 3 : Nat) : Int) by omega, sl_mid]
              congr 1
              omega
            | false =>
              have e : sz ((tl t).drop n) = 1 := by unfold sz; rw [he]; rfl
              rw [e, er] at hQ
              rw [if_neg Bool.false_ne_true]
              exact hIx_str (by omega) hat (hQ _ _ ⟨rfl, _, rfl, rfl⟩)
        · intro Q' hQ
          (try simp only [tNext, tFor_eq, cBl, tOp, tC, cI, cIc, cAdd, cVar, hEq, hNe, hIn, hNotIn, hLen, hSl, tM1, tBM, cT1, cT1f, cFind3, cSplit, cPart, rNewStrs, hIsS, hTru, tAsg, gName, gSub, tRet, tRetN, tCons, tNil, tTup, tLst, tCB, tNot, tAnd, tNotV, tAndV, tOrV, tOr, V.bl.injEq, V.int.injEq, V.str.injEq, exists_eq_left', exists_eq_left, exists_eq', true_and, and_true, cIsN, L2.start, gTup, gCons, gNil, nox_K, cx_K, tCallF, tSl, tPart, tNoPart, iEnum, RZ.iZipA, iRng1, iRng2, cAbs, List.map_cons, List.map_nil, List.length_cons, List.length_nil, List.replicate, List.cons_append, List.nil_append, List.getElem?_cons_zero, List.getElem?_cons_succ, List.getElem?_nil, List.set_cons_zero, List.set_cons_succ, Nat.reduceAdd, Nat.reduceSub, Nat.zero_add, if_true, if_false, reduceIte, reduceCtorEq, Bool.false_eq_true, decide_eq_true_eq, tDrop, cMin2, cJoin, iList, tDNewK, tLc_eq, iStr, wipe])
          refine hIx_str (by omega) hat ?_
          dsimp only
          rw [er] at hQ
          by_cases hc : c0 = 94
          · subst hc
            rw [if_pos (show (Str.mk #[94]) = Str.ofString "^" from TL.ext_tl (by decide +kernel))]
            have ep := pair_tl t n
            rw [er] at ep
            have ep : tl (cutS t (some ((n : Int) + 1)) (some ((n : Int) + 3))) = r0.take 2 := ep
            have lp := sl_len t (some ((n : Int) + 1)) (some ((n : Int) + 3))
            refine ⟨by omega, by omega, ?_⟩
            rw [ep, hex2_take]
            refine hQ _ _ ⟨?_, rfl⟩
            show V.bl (Mi.hex2 r0) = V.bl (94 == 94 && Mi.hex2 r0)
            simp
          · rw [if_neg (fun e => hc (by
              have := congrArg tl e
              exact (List.cons.inj (show [c0] = [94] from this)).1))]
            refine hQ _ _ ⟨?_, rfl⟩
            show V.bl false = V.bl (c0 == 94 && Mi.hex2 r0)
            simp [hc]
      · rw [if_neg hlt]
        have e : n = t.length := by omega
        subst e
        refine hN _ _ ⟨as, zs, _, _, rfl, x, hz, hpc, ?_⟩
        rw [← ez, List.drop_of_length_le (by rw [hl]; exact Nat.le_refl _), pcs_nil, List.append_nil]
    · rintro σ H' ⟨as, zs, u3, u4, rfl, x, hz, hpc, ez⟩
      (try simp only [tSeq, tNext, tIfS, tFor_eq, cBl, tOp, tC, cI, cIc, cAdd, cVar, hEq, hNe, hIn, hNotIn, hLen, hSl, tM1, tBM, cT1, cT1f, cFind3, cSplit, cPart, rNewStrs, hIsS, hTru, tAsg, gName, gSub, tRet, tRetN, tCons, tNil, tTup, tLst, tCB, tNot, tAnd, tNotV, tAndV, tOrV, tOr, V.bl.injEq, V.int.injEq, V.str.injEq, exists_eq_left', exists_eq_left, exists_eq', true_and, and_true, cIsN, L2.start, gTup, gCons, gNil, nox_K, cx_K, tCallF, tSl, tPart, tNoPart, iEnum, RZ.iZipA, iRng1, iRng2, cAbs, List.map_cons, List.map_nil, List.length_cons, List.length_nil, List.replicate, List.cons_append, List.nil_append, List.getElem?_cons_zero, List.getElem?_cons_succ, List.getElem?_nil, List.set_cons_zero, List.set_cons_succ, Nat.reduceAdd, Nat.reduceSub, Nat.zero_add, if_true, if_false, reduceIte, reduceCtorEq, Bool.false_eq_true, decide_eq_true_eq, tDrop, cMin2, cJoin, iList, tDNewK, tLc_eq, iStr, wipe])
      exact q p as zs H' x hp hz hpc ez
end
end Da
set_option Elab.async false
set_option linter.all false
set_option maxRecDepth 100000
set_option maxHeartbeats 4000000
namespace Da
open PySem PySem.Spec PyProof.Rows L2 Hd Xs Fx Mi Ms Md Mq ClX Xr
open TL (tl joinL)
/-! ### escaped -/
def kpL (kp : T) : T := (PLNT ++ kp).filter (· != 94)
def escG (kp : T) (n : Nat) : T := if (kpL kp).contains n = true then [n] else escT n
theorem escT_len {n : Nat} (h : n < 256) : (escT n).length = 3 := by rw [← escS_tl, ← TL.len_tl, escS_len h]
theorem escG_len {kp : T} {n : Nat} (h : n < 256) : (escG kp n).length ≤ 3 := by
  unfold escG
  split
  · exact (by decide : 1 ≤ 3)
  · rw [escT_len h]; omega
theorem flat_len {α : Type} {f : α → T} {m : Nat} : ∀ {ns : List α}, (∀ n ∈ ns, (f n).length ≤ m) → ((ns.map f).flatten).length ≤ m * ns.length
  | [], _ => Nat.zero_le _
  | n :: ns, h => by
    have h1 := h n (List.mem_cons_self ..)
    have h2 := flat_len (f := f) (m := m) (ns := ns) fun x hx => h x (List.mem_cons_of_mem _ hx)
    rw [List.map_cons, List.flatten_cons, List.length_append, List.length_cons, Nat.mul_succ]
    omega
theorem jl_nil : ∀ ps : List T, TL.joinL [] ps = ps.flatten
  | [] => rfl
  | [p] => by simp [TL.joinL]
  | p :: q :: r => by
    have := jl_nil (q :: r)
    simp only [TL.joinL, List.nil_append, List.flatten_cons] at this ⊢
    rw [this]
/-- the dict of signs -/
def sgD (l : T) : List (Key × V) := mergeK [] (l.map fun c => (.inl (c : Nat), .str ⟨#[c]⟩))
theorem sgD_fold (n : Nat) : ∀ (l : T) (acc : List (Key × V)), valV (mergeK acc (l.map fun c => ((.inl ((c : Nat) : Int) : Key), V.str ⟨#[c]⟩))) (.inl ((n : Nat) : Int)) = if l.contains n = true then some (.str ⟨#[n]⟩) else valV acc (.inl ((n : Nat) : Int))
  | [], acc => rfl
  | c :: l, acc => by
    have ih := sgD_fold n l (putK acc (.inl ((c : Nat) : Int)) (.str ⟨#[c]⟩))
    show valV (mergeK (putK acc (.inl ((c : Nat) : Int)) (.str ⟨#[c]⟩)) (l.map _)) _ = _
    rw [ih, valV_put]
    by_cases e : n = c
    · subst e
      simp
    · have e2 : ¬ (Sum.inl ((n : Nat) : Int) : Key) = .inl ((c : Nat) : Int) := fun z => e (by have := Sum.inl.inj z; omega)
      rw [if_neg e2]
      have e3 : (c :: l).contains n = l.contains n := by simp [e]
      rw [e3]
theorem sgD_val (n : Nat) (l : T) : valV (sgD l) (.inl ((n : Nat) : Int)) = if l.contains n = true then some (.str ⟨#[n]⟩) else none := sgD_fold n l []
theorem sgD_snoc (l : T) (c : Nat) : sgD (l ++ [c]) = putK (sgD l) (.inl ((c : Nat) : Int)) (.str ⟨#[c]⟩) := by
  unfold sgD mergeK
  rw [List.map_append, List.foldl_append]
  rfl
theorem sgD_len (l : T) : (sgD l).length ≤ l.length := by
  have := length_mergeK (l.map fun c => ((.inl ((c : Nat) : Int) : Key), V.str ⟨#[c]⟩)) []
  rw [List.length_map] at this
  simpa [sgD] using this
theorem dc_its {x : Str} {g : TG} {tt : TT} {tk tv : TE} {vs : List Nat} {σ : L2.St} {H1 : Hp} {D : Addr} {Qd : Hp → Prop} (Pv : Nat → Hp → Prop) (h0 : Pv 0 (upd H1 D (.dK [])))
    (hs : ∀ i c H, (tl x)[i]? = some c → Pv i H → g (.str ⟨#[c]⟩) (wipe σ vs) H fun σ2 H2 => wipe σ2 vs = wipe σ vs ∧ tt σ2 H2 fun b H3 =>
      if b = true then tk σ2 H3 fun y H4 => tv σ2 H4 fun z H5 => ∃ kvs k, y = kV k ∧ H5 D = some (.dK kvs) ∧ kvs.length < sizeLine ∧ Pv (i + 1) (upd H5 D (.dK (putK kvs k z))) else Pv (i + 1) H3) (hd : ∀ H, Pv (tl x).length H → Qd H) :
    ∃ W : Nat → Nat → Hp → Prop, (∃ m, W 0 m (upd H1 D (.dK []))) ∧ ∀ i m H, W i m H → ((Its x).stop i H ∧ Qd H) ∨ ((Its x).go i H ∧ ∃ Nx : Hp → Prop, (∀ H', Nx H' → ∃ m', m' < m ∧ W (i + 1) m' H') ∧ ∀ x' H', (Its x).yld i H x' H' → g x' (wipe σ vs) H' fun σ2 H2 => wipe σ2 vs = wipe σ vs ∧ tt σ2 H2 fun b H3 =>
      if b = true then tk σ2 H3 fun y H4 => tv σ2 H4 fun z H5 => ∃ kvs k, y = kV k ∧ H5 D = some (.dK kvs) ∧ kvs.length < sizeLine ∧ Nx (upd H5 D (.dK (putK kvs k z))) else Nx H3) := by
  have hl : (tl x).length = x.cps.size := by simp [TL.tl]
  refine ⟨fun i m H => m = x.cps.size - i ∧ i ≤ x.cps.size ∧ Pv i H, ⟨x.cps.size, by simp, Nat.zero_le _, h0⟩, ?_⟩
  rintro i m H ⟨rfl, hi, p⟩
  by_cases hlt : i < x.cps.size
  · refine .inr ⟨hlt, Pv (i + 1), fun H' p' => ⟨x.cps.size - (i + 1), by omega, rfl, hlt, p'⟩, fun v H' y => ?_⟩
    obtain ⟨e, c, hc, e2⟩ := y
    subst e e2
    exact hs i c _ (by rw [show (tl x)[i]? = x.cps.toList[i]? from rfl, Array.getElem?_toList]; exact hc) p
  · have e : i = x.cps.size := by omega
    subst e
    exact .inl ⟨Nat.le_refl _, hd H (by rw [hl]; exact p)⟩
def natV (n : Nat) : V := .int ((n : Nat) : Int)
end Da
set_option Elab.async false
set_option linter.all false
set_option maxRecDepth 100000
set_option maxHeartbeats 4000000
namespace Da
open PySem PySem.Spec PyProof.Rows L2 Hd Xs Fx Mi Ms Md Mq Mp ClX Xr
open TL (tl joinL)
/-! ### octets -/
def spEI (f : Str) (C : Addr) : Sp := fun vs H Q _ => match vs with
  | [.ref a, y] => H a = some (exo a C none) ∧ ∀ dx, H dx = none → dx ≠ a → Q .non (upd (upd H dx (exd dx [(f, y)])) a (exo a C (some dx)))
  | _ => False
theorem ei_ok {C : Addr} {f : Str} {y : V} {H : Hp} {Q E' : XK} (q : ∀ d H', Ext H H' → H' d = some (.xd [(f, y)]) → Q (.ref C) (some d) H') (a : Addr) (ha : H a = none) :
    spEI f C [.ref a, y] (upd H a (exo a C none)) (fun v H2 => v = .non ∧ ∃ (d : Addr) (fs : List (Str × V)), H2 a = some (exo a C (some d)) ∧ H2 d = some (exd d fs) ∧ H d = none ∧ Q (.ref C) (some d) (upd (del H2 a) d (.xd fs))) E' := by
  refine ⟨upd_self, fun dx hdx hne => ⟨rfl, dx, [(f, y)], upd_self, ?_, ?_, q dx _ ?_ upd_self⟩⟩
  · rw [upd_ne hne]; exact upd_self
  · rw [upd_ne hne] at hdx; exact hdx
  · intro p o hp
    rw [upd_ne hne] at hdx
    have n1 : p ≠ a := fun e => by subst e; rw [ha] at hp; cases hp
    have n2 : p ≠ dx := fun e => by subst e; rw [hdx] at hp; cases hp
    rw [upd_ne n2, del_ne n1, upd_ne n1, upd_ne n2, upd_ne n1]
    exact hp
/-- the first sign that begins no escape -/
def badP (ps : List T) : Option Nat := ps.findIdx? fun p => p == [94]
theorem badP_cons (p : T) (ps : List T) : badP (p :: ps) = if p = [94] then some 0 else (badP ps).map (· + 1) := by
  unfold badP
  rw [List.findIdx?_cons]
  by_cases h : p = [94] <;> simp [h]
theorem badP_here : ∀ {ps : List T} {j : Nat}, (∀ q ∈ ps.take j, q ≠ [94]) → ps[j]? = some [94] → badP ps = some j
  | [], j, _, h => by simp at h
  | p :: ps, 0, _, h => by
    have e : p = [94] := by simpa using h
    rw [badP_cons, if_pos e]
  | p :: ps, j + 1, ha, h => by
    have hp : p ≠ [94] := ha p (by simp)
    have ih := badP_here (ps := ps) (j := j) (fun w hw => ha w (by simp [hw])) (by simpa using h)
    rw [badP_cons, if_neg hp, ih]
    rfl
theorem badP_none {ps : List T} (h : ∀ p ∈ ps, p ≠ [94]) : badP ps = none := by
  unfold badP
  rw [List.findIdx?_eq_none_iff]
  intro p hp
  simp [h p hp]
def isStrB (v : V) : Bool := match v with
  | .str _ => true
  | _ => false
def spOcv (K : PySem.W.Frag) : Sp := fun vs H Q E => match vs with
  | [.str t] => t.length ≤ 50000 ∧ Sg t ∧ (match badP (pcs (tl t)) with
    | some i => ∀ d H', Ext H H' → H' d = some (.xd [("place", .int (posn (pcs (tl t)) i : Nat))]) → E (.ref (He.ga K "BadEscape")) (some d) H'
    | none => ∀ p H', Ext H H' → H p = none → H' p = some (.lst ((pcs (tl t)).map fun q => natV (octP q))) → Q (.ref p) H')
  | [v] => isStrB v = false ∧ (∃ n, Gd.tyNm v H = some n) ∧ ∀ d H', Ext H H' → H' d = some (.xd [("value", v)]) → E (.ref (He.ga K "NoText")) (some d) H'
  | _ => False
section
variable {P : Program} {w : World} {K : PySem.W.Frag} {mg : Str → Option Value} {base : Heap}
theorem ok_BadEscape___init__ (c : Ct w K mg) : OkF P w K mg base CX0 1 (He.ma K (He.ga K "BadEscape") "__init__") ["self", "place"] (spEI "place" (He.ga K "BadEscape")) := by
  obtain ⟨fd, F⟩ := F_BadEscape___init__ c
  refine ⟨fd, F.ok sc_BadEscape___init__ (fun vs H Q E h => ?_) (fun cdv A outer s H vs Q E hr h => ⟨_, PSs.nox (pss_one (ps_ost (cv 0) (cv 1))), ?_⟩), F.bindsN fun _ _ _ _ _ _ us hl => match us, hl with | [_, _], _ => rfl⟩
  · unfold spEI at h
    split at h
    · rfl
    · exact h.elim
  · unfold spEI at h
    split at h
    case h_2 => exact h.elim
    rename_i a y
    obtain ⟨ha, q⟩ := h
    unfold tOst
    (try simp only [tSeq, tNext, tIfS, tFor_eq, cBl, tOp, tC, cI, cIc, cAdd, cVar, hEq, hNe, hIn, hNotIn, hLen, hSl, tM1, tBM, cT1, cT1f, cFind3, cSplit, cPart, rNewStrs, hIsS, hTru, tAsg, gName, gSub, tRet, tRetN, tCons, tNil, tTup, tLst, tCB, tNot, tAnd, tNotV, tAndV, tOrV, tOr, V.bl.injEq, V.int.injEq, V.str.injEq, exists_eq_left', exists_eq_left, exists_eq', true_and, and_true, cIsN, L2.start, gTup, gCons, gNil, nox_K, cx_K, tCallF, tSl, tPart, tNoPart, iEnum, RZ.iZipA, iRng1, iRng2, cAbs, List.map_cons, List.map_nil, List.length_cons, List.length_nil, List.replicate, List.cons_append, List.nil_append, List.getElem?_cons_zero, List.getElem?_cons_succ, List.getElem?_nil, List.set_cons_zero, List.set_cons_succ, Nat.reduceAdd, Nat.reduceSub, Nat.zero_add, if_true, if_false, reduceIte, reduceCtorEq, Bool.false_eq_true, decide_eq_true_eq, tDrop, cMin2, cJoin, iList, tDNewK, tLc_eq, iStr, wipe])
    exact ⟨a, He.ga K "BadEscape", rfl, oex_BadEscape c, noat_BadEscape_place c, .inl ⟨ha, q⟩⟩
theorem ok_NoText___init__ (c : Ct w K mg) : OkF P w K mg base CX0 1 (He.ma K (He.ga K "NoText") "__init__") ["self", "value"] (spEI "value" (He.ga K "NoText")) := by
  obtain ⟨fd, F⟩ := F_NoText___init__ c
  refine ⟨fd, F.ok sc_NoText___init__ (fun vs H Q E h => ?_) (fun cdv A outer s H vs Q E hr h => ⟨_, PSs.nox (pss_one (ps_osa (cv 0) (cv 1))), ?_⟩), F.bindsN fun _ _ _ _ _ _ us hl => match us, hl with | [_, _], _ => rfl⟩
  · unfold spEI at h
    split at h
    · rfl
    · exact h.elim
  · unfold spEI at h
    split at h
    case h_2 => exact h.elim
    rename_i a y
    obtain ⟨ha, q⟩ := h
    unfold tOsa
    (try simp only [tSeq, tNext, tIfS, tFor_eq, cBl, tOp, tC, cI, cIc, cAdd, cVar, hEq, hNe, hIn, hNotIn, hLen, hSl, tM1, tBM, cT1, cT1f, cFind3, cSplit, cPart, rNewStrs, hIsS, hTru, tAsg, gName, gSub, tRet, tRetN, tCons, tNil, tTup, tLst, tCB, tNot, tAnd, tNotV, tAndV, tOrV, tOr, V.bl.injEq, V.int.injEq, V.str.injEq, exists_eq_left', exists_eq_left, exists_eq', true_and, and_true, cIsN, L2.start, gTup, gCons, gNil, nox_K, cx_K, tCallF, tSl, tPart, tNoPart, iEnum, RZ.iZipA, iRng1, iRng2, cAbs, List.map_cons, List.map_nil, List.length_cons, List.length_nil, List.replicate, List.cons_append, List.nil_append, List.getElem?_cons_zero, List.getElem?_cons_succ, List.getElem?_nil, List.set_cons_zero, List.set_cons_succ, Nat.reduceAdd, Nat.reduceSub, Nat.zero_add, if_true, if_false, reduceIte, reduceCtorEq, Bool.false_eq_true, decide_eq_true_eq, tDrop, cMin2, cJoin, iList, tDNewK, tLc_eq, iStr, wipe])
    exact ⟨a, He.ga K "NoText", rfl, oxa_NoText c, noat_NoText_value c, ha, q⟩
theorem ok_octets (c : Ct w K mg) : OkF P w K mg base (L2.CX P w) 3 (He.ga K "octets") ["text"] (spOcv K) := by
  obtain ⟨fd, F⟩ := F_octets c
  refine ⟨fd, F.ok sc_octets (fun vs H Q E h => ?_) (fun cdv A outer s H vs Q E hr h => ⟨_, ((pss_cons (ps_if (pt_not (ct (pe_callB hc_isS (by rfl) (b_isinstance c) (by decide +kernel) (pa_cons (cv 0) (pa_cons (pe_bltn (v := .ty "str") (by rfl) (b_str c) (by decide +kernel) rfl) pa_nil))))) (pss_one (ps_raise rfl (takes_of rfl rfl rfl rfl) (pmk_oexA (oxa_NoText c) (ini_NoText c).1 (ini_NoText c).2 (ok_NoText___init__ c).choose_spec.1 (hr.mono (by decide)) (ok_NoText___init__ c).choose_spec.2 .nil pass0 rfl (g_NoText c) (pa_cons (cv 0) pa_nil)))) pss_nil) (pss_cons (ps_set (i := 1) (sc_octets).nd rfl (Or.inl rfl) (pe_lst pa_nil)) (pss_cons (ps_for (passes_of rfl) rfl (pi_list (pf (ok_pieces_of c) (hr.mono (by decide)) (g_pieces_of c) (k_pieces_of c) pass0 (pa_cons (cv 0) pa_nil))) (pg_tup (n := 2) rfl (pgs_cons (pg_name (i := 2) (sc_octets).nd rfl (Or.inl rfl)) (pgs_cons (pg_name (i := 3) (sc_octets).nd rfl (Or.inl rfl)) pgs_nil))) (pss_cons (ps_if (ctc (ho_eq (hu64 hr)) (cv 3) pe_str (by rfl)) (pss_one (ps_raise rfl (takes_of rfl rfl rfl rfl) (pmk_oex (oex_BadEscape c) (ini_BadEscape c).1 (ini_BadEscape c).2 (ok_BadEscape___init__ c).choose_spec.1 (hr.mono (by decide)) (ok_BadEscape___init__ c).choose_spec.2 .nil pass0 rfl (g_BadEscape c) (pa_cons (cv 2) pa_nil)))) pss_nil) (pss_one (ps_expr (pe_bm PySem.F.plainAttrs_list PySem.F.slot_list_append PySem.F.type_list_append mt_append (cv 1) (pa_cons (pe_ifExp (ctc (ho_eq (hu64 hr)) (pe_callB hc_len (by rfl) (b_len c) (by decide +kernel) (pa_cons (cv 3) pa_nil)) (pe_glob rfl (c_ESCAPE_SIZE c).choose_spec.1 (c_ESCAPE_SIZE c).choose_spec.2) (by rfl)) (pe_callTy call_int_hex (by rfl) (b_int c) (by decide +kernel) (pa_cons (pe_slice hs_any (cv 3) (po_some pe_int) po_none) (pa_cons pe_int pa_nil))) (pe_callB call_ord (by rfl) (b_ord c) (by decide +kernel) (pa_cons (cv 3) pa_nil))) pa_nil)))))) (pss_one (ps_ret (cv 1))))))), ?_⟩), F.bindsN fun _ _ _ _ _ _ us hl => match us, hl with | [_], _ => rfl⟩
  · unfold spOcv at h
    split at h
    · rfl
    · rfl
    · exact h.elim
  · unfold spOcv at h
    have sl := sl
    split at h
    case h_3 => exact h.elim
    case h_2 v hns =>
      obtain ⟨hv, ⟨nm, hnm⟩, q⟩ := h
      have fin : tMkO (He.ga K "NoText") (spEI "value" (He.ga K "NoText")) [] (tCons (cVar 0) tNil) [some v, none, none, none] H fun cls d H' => E cls d H' := by
        unfold tMkO
        (try simp only [tNext, tFor_eq, cBl, tOp, tC, cI, cIc, cAdd, cVar, hEq, hNe, hIn, hNotIn, hLen, hSl, tM1, tBM, cT1, cT1f, cFind3, cSplit, cPart, rNewStrs, hIsS, hTru, tAsg, gName, gSub, tRet, tRetN, tCons, tNil, tTup, tLst, tCB, tNot, tAnd, tNotV, tAndV, tOrV, tOr, V.bl.injEq, V.int.injEq, V.str.injEq, exists_eq_left', exists_eq_left, exists_eq', true_and, and_true, cIsN, L2.start, gTup, gCons, gNil, nox_K, cx_K, tCallF, tSl, tPart, tNoPart, iEnum, RZ.iZipA, iRng1, iRng2, cAbs, List.map_cons, List.map_nil, List.length_cons, List.length_nil, List.replicate, List.cons_append, List.nil_append, List.getElem?_cons_zero, List.getElem?_cons_succ, List.getElem?_nil, List.set_cons_zero, List.set_cons_succ, Nat.reduceAdd, Nat.reduceSub, Nat.zero_add, if_true, if_false, reduceIte, reduceCtorEq, Bool.false_eq_true, decide_eq_true_eq, tDrop, cMin2, cJoin, iList, tDNewK, tLc_eq, iStr, wipe])
        exact ⟨by decide, ei_ok fun d H5 he5 hd5 => q d H5 he5 hd5⟩
      refine seqStep ?_
      unfold tIfS
      cases v with
      | str t => exact (hns t rfl).elim
      | ref p =>
        cases e : H p with
        | none => simp [Gd.tyNm, e] at hnm
        | some o =>
          cases o with
          | lst xs =>
            (try simp only [tNext, tFor_eq, cBl, tOp, tC, cI, cIc, cAdd, cVar, hEq, hNe, hIn, hNotIn, hLen, hSl, tM1, tBM, cT1, cT1f, cFind3, cSplit, cPart, rNewStrs, hIsS, hTru, tAsg, gName, gSub, tRet, tRetN, tCons, tNil, tTup, tLst, tCB, tNot, tAnd, tNotV, tAndV, tOrV, tOr, V.bl.injEq, V.int.injEq, V.str.injEq, exists_eq_left', exists_eq_left, exists_eq', true_and, and_true, cIsN, L2.start, gTup, gCons, gNil, nox_K, cx_K, tCallF, tSl, tPart, tNoPart, iEnum, RZ.iZipA, iRng1, iRng2, cAbs, List.map_cons, List.map_nil, List.length_cons, List.length_nil, List.replicate, List.cons_append, List.nil_append, List.getElem?_cons_zero, List.getElem?_cons_succ, List.getElem?_nil, List.set_cons_zero, List.set_cons_succ, Nat.reduceAdd, Nat.reduceSub, Nat.zero_add, if_true, if_false, reduceIte, reduceCtorEq, Bool.false_eq_true, decide_eq_true_eq, tDrop, cMin2, cJoin, iList, tDNewK, tLc_eq, iStr, wipe])
            simp only [e]
            rw [if_pos (show (!false) = true from rfl)]
            exact fin
          | tup xs =>
            (try simp only [tNext, tFor_eq, cBl, tOp, tC, cI, cIc, cAdd, cVar, hEq, hNe, hIn, hNotIn, hLen, hSl, tM1, tBM, cT1, cT1f, cFind3, cSplit, cPart, rNewStrs, hIsS, hTru, tAsg, gName, gSub, tRet, tRetN, tCons, tNil, tTup, tLst, tCB, tNot, tAnd, tNotV, tAndV, tOrV, tOr, V.bl.injEq, V.int.injEq, V.str.injEq, exists_eq_left', exists_eq_left, exists_eq', true_and, and_true, cIsN, L2.start, gTup, gCons, gNil, nox_K, cx_K, tCallF, tSl, tPart, tNoPart, iEnum, RZ.iZipA, iRng1, iRng2, cAbs, List.map_cons, List.map_nil, List.length_cons, List.length_nil, List.replicate, List.cons_append, List.nil_append, List.getElem?_cons_zero, List.getElem?_cons_succ, List.getElem?_nil, List.set_cons_zero, List.set_cons_succ, Nat.reduceAdd, Nat.reduceSub, Nat.zero_add, if_true, if_false, reduceIte, reduceCtorEq, Bool.false_eq_true, decide_eq_true_eq, tDrop, cMin2, cJoin, iList, tDNewK, tLc_eq, iStr, wipe])
            simp only [e]
            rw [if_pos (show (!false) = true from rfl)]
            exact fin
          | _ => simp [Gd.tyNm, e] at hnm
      | non =>
        (try simp only [tNext, tFor_eq, cBl, tOp, tC, cI, cIc, cAdd, cVar, hEq, hNe, hIn, hNotIn, hLen, hSl, tM1, tBM, cT1, cT1f, cFind3, cSplit, cPart, rNewStrs, hIsS, hTru, tAsg, gName, gSub, tRet, tRetN, tCons, tNil, tTup, tLst, tCB, tNot, tAnd, tNotV, tAndV, tOrV, tOr, V.bl.injEq, V.int.injEq, V.str.injEq, exists_eq_left', exists_eq_left, exists_eq', true_and, and_true, cIsN, L2.start, gTup, gCons, gNil, nox_K, cx_K, tCallF, tSl, tPart, tNoPart, iEnum, RZ.iZipA, iRng1, iRng2, cAbs, List.map_cons, List.map_nil, List.length_cons, List.length_nil, List.replicate, List.cons_append, List.nil_append, List.getElem?_cons_zero, List.getElem?_cons_succ, List.getElem?_nil, List.set_cons_zero, List.set_cons_succ, Nat.reduceAdd, Nat.reduceSub, Nat.zero_add, if_true, if_false, reduceIte, reduceCtorEq, Bool.false_eq_true, decide_eq_true_eq, tDrop, cMin2, cJoin, iList, tDNewK, tLc_eq, iStr, wipe])
        rw [if_pos (show (!false) = true from rfl)]
        exact fin
      | bl b =>
        (try simp only [tNext, tFor_eq, cBl, tOp, tC, cI, cIc, cAdd, cVar, hEq, hNe, hIn, hNotIn, hLen, hSl, tM1, tBM, cT1, cT1f, cFind3, cSplit, cPart, rNewStrs, hIsS, hTru, tAsg, gName, gSub, tRet, tRetN, tCons, tNil, tTup, tLst, tCB, tNot, tAnd, tNotV, tAndV, tOrV, tOr, V.bl.injEq, V.int.injEq, V.str.injEq, exists_eq_left', exists_eq_left, exists_eq', true_and, and_true, cIsN, L2.start, gTup, gCons, gNil, nox_K, cx_K, tCallF, tSl, tPart, tNoPart, iEnum, RZ.iZipA, iRng1, iRng2, cAbs, List.map_cons, List.map_nil, List.length_cons, List.length_nil, List.replicate, List.cons_append, List.nil_append, List.getElem?_cons_zero, List.getElem?_cons_succ, List.getElem?_nil, List.set_cons_zero, List.set_cons_succ, Nat.reduceAdd, Nat.reduceSub, Nat.zero_add, if_true, if_false, reduceIte, reduceCtorEq, Bool.false_eq_true, decide_eq_true_eq, tDrop, cMin2, cJoin, iList, tDNewK, tLc_eq, iStr, wipe])
        rw [if_pos (show (!false) = true from rfl)]
        exact fin
      | int b =>
        (try simp only [tNext, tFor_eq, cBl, tOp, tC, cI, cIc, cAdd, cVar, hEq, hNe, hIn, hNotIn, hLen, hSl, tM1, tBM, cT1, cT1f, cFind3, cSplit, cPart, rNewStrs, hIsS, hTru, tAsg, gName, gSub, tRet, tRetN, tCons, tNil, tTup, tLst, tCB, tNot, tAnd, tNotV, tAndV, tOrV, tOr, V.bl.injEq, V.int.injEq, V.str.injEq, exists_eq_left', exists_eq_left, exists_eq', true_and, and_true, cIsN, L2.start, gTup, gCons, gNil, nox_K, cx_K, tCallF, tSl, tPart, tNoPart, iEnum, RZ.iZipA, iRng1, iRng2, cAbs, List.map_cons, List.map_nil, List.length_cons, List.length_nil, List.replicate, List.cons_append, List.nil_append, List.getElem?_cons_zero, List.getElem?_cons_succ, List.getElem?_nil, List.set_cons_zero, List.set_cons_succ, Nat.reduceAdd, Nat.reduceSub, Nat.zero_add, if_true, if_false, reduceIte, reduceCtorEq, Bool.false_eq_true, decide_eq_true_eq, tDrop, cMin2, cJoin, iList, tDNewK, tLc_eq, iStr, wipe])
        rw [if_pos (show (!false) = true from rfl)]
        exact fin
      | _ => simp [Gd.tyNm] at hnm
    case h_1 t =>
      obtain ⟨ht, hsg, q⟩ := h
      refine seqStep ?_
      unfold tIfS
      (try simp only [tNext, tFor_eq, cBl, tOp, tC, cI, cIc, cAdd, cVar, hEq, hNe, hIn, hNotIn, hLen, hSl, tM1, tBM, cT1, cT1f, cFind3, cSplit, cPart, rNewStrs, hIsS, hTru, tAsg, gName, gSub, tRet, tRetN, tCons, tNil, tTup, tLst, tCB, tNot, tAnd, tNotV, tAndV, tOrV, tOr, V.bl.injEq, V.int.injEq, V.str.injEq, exists_eq_left', exists_eq_left, exists_eq', true_and, and_true, cIsN, L2.start, gTup, gCons, gNil, nox_K, cx_K, tCallF, tSl, tPart, tNoPart, iEnum, RZ.iZipA, iRng1, iRng2, cAbs, List.map_cons, List.map_nil, List.length_cons, List.length_nil, List.replicate, List.cons_append, List.nil_append, List.getElem?_cons_zero, List.getElem?_cons_succ, List.getElem?_nil, List.set_cons_zero, List.set_cons_succ, Nat.reduceAdd, Nat.reduceSub, Nat.zero_add, if_true, if_false, reduceIte, reduceCtorEq, Bool.false_eq_true, decide_eq_true_eq, tDrop, cMin2, cJoin, iList, tDNewK, tLc_eq, iStr, wipe])
      rw [if_neg (show ¬ (!true) = true by decide)]
      refine seqStep ?_
      (try simp only [tNext, tFor_eq, cBl, tOp, tC, cI, cIc, cAdd, cVar, hEq, hNe, hIn, hNotIn, hLen, hSl, tM1, tBM, cT1, cT1f, cFind3, cSplit, cPart, rNewStrs, hIsS, hTru, tAsg, gName, gSub, tRet, tRetN, tCons, tNil, tTup, tLst, tCB, tNot, tAnd, tNotV, tAndV, tOrV, tOr, V.bl.injEq, V.int.injEq, V.str.injEq, exists_eq_left', exists_eq_left, exists_eq', true_and, and_true, cIsN, L2.start, gTup, gCons, gNil, nox_K, cx_K, tCallF, tSl, tPart, tNoPart, iEnum, RZ.iZipA, iRng1, iRng2, cAbs, List.map_cons, List.map_nil, List.length_cons, List.length_nil, List.replicate, List.cons_append, List.nil_append, List.getElem?_cons_zero, List.getElem?_cons_succ, List.getElem?_nil, List.set_cons_zero, List.set_cons_succ, Nat.reduceAdd, Nat.reduceSub, Nat.zero_add, if_true, if_false, reduceIte, reduceCtorEq, Bool.false_eq_true, decide_eq_true_eq, tDrop, cMin2, cJoin, iList, tDNewK, tLc_eq, iStr, wipe])
      refine ⟨Nat.zero_le _, fun p1 hp1 => ?_⟩
      refine seqStep ?_
      (try simp only [tNext, tFor_eq, cBl, tOp, tC, cI, cIc, cAdd, cVar, hEq, hNe, hIn, hNotIn, hLen, hSl, tM1, tBM, cT1, cT1f, cFind3, cSplit, cPart, rNewStrs, hIsS, hTru, tAsg, gName, gSub, tRet, tRetN, tCons, tNil, tTup, tLst, tCB, tNot, tAnd, tNotV, tAndV, tOrV, tOr, V.bl.injEq, V.int.injEq, V.str.injEq, exists_eq_left', exists_eq_left, exists_eq', true_and, and_true, cIsN, L2.start, gTup, gCons, gNil, nox_K, cx_K, tCallF, tSl, tPart, tNoPart, iEnum, RZ.iZipA, iRng1, iRng2, cAbs, List.map_cons, List.map_nil, List.length_cons, List.length_nil, List.replicate, List.cons_append, List.nil_append, List.getElem?_cons_zero, List.getElem?_cons_succ, List.getElem?_nil, List.set_cons_zero, List.set_cons_succ, Nat.reduceAdd, Nat.reduceSub, Nat.zero_add, if_true, if_false, reduceIte, reduceCtorEq, Bool.false_eq_true, decide_eq_true_eq, tDrop, cMin2, cJoin, iList, tDNewK, tLc_eq, iStr, wipe])
      refine ⟨ht, fun p2 as zs H2 x2 hp2 hz hpc ez => ⟨p2, rfl, ⟨_, .inl (Rd.of hz)⟩, ?_⟩⟩
      have h1 := x2 _ _ (upd_self (H := H) (a := p1) (o := .lst []))
      have xH : Ext H H2 := (Ext.rf.fresh hp1).tr x2
      have na := hpc.1
      have nz : zs.length ≤ 50000 := by
        have := pcs_len (tl t)
        rw [← ez, List.length_map, ← TL.len_tl] at this
        omega
      refine lp_list (xs := as.map V.ref) (fun j σ H' => ∃ (u2 u3 : Option V), σ = [some (.str t), some (.ref p1), u2, u3] ∧ H' p1 = some (.lst ((((zs.map tl).take j).map fun q => natV (octP q)))) ∧ Ext H H' ∧ H' p2 = some (.lst (as.map V.ref)) ∧ PcAt H' as zs ∧ ∀ q ∈ (zs.map tl).take j, q ≠ [94]) ⟨_, _, rfl, h1, xH, hz, hpc, fun q hq => by simp at hq⟩ ?_ ?_ ?_
      · rintro j σ H' _ ⟨_, _, _, _, _, x, _⟩
        exact .inl (Rd.of x)
      · rintro j v σ H3 hv ⟨u2, u3, rfl, h13, x3, hz3, hpc3, hgood⟩
        obtain ⟨a0, ha0, rfl⟩ : ∃ a0, as[j]? = some a0 ∧ V.ref a0 = v := by
          rw [List.getElem?_map] at hv
          cases e : as[j]? with
          | none => rw [e] at hv; cases hv
          | some n => rw [e] at hv; exact ⟨n, rfl, Option.some.inj hv⟩
        have hjl := (List.getElem?_eq_some_iff.mp ha0).1
        obtain ⟨z, hzj⟩ : ∃ z, zs[j]? = some z := ⟨_, List.getElem?_eq_getElem (by omega)⟩
        have hat := hpc3.2 j a0 z ha0 hzj
        have hzt : (zs.map tl)[j]? = some (tl z) := by rw [List.getElem?_map, hzj]; rfl
        have hmem : tl z ∈ pcs (tl t) := by rw [← ez]; exact List.mem_of_getElem? hzt
        have hisp := pcs_is hmem
        have hlz : z.length ≤ 3 := by
          rw [TL.len_tl]
          rcases hisp with ⟨a, b, e, _, _⟩ | ⟨c, e⟩ <;> rw [e] <;> simp
        (try simp only [tSeq, tNext, tIfS, tFor_eq, cBl, tOp, tC, cI, cIc, cAdd, cVar, hEq, hNe, hIn, hNotIn, hLen, hSl, tM1, tBM, cT1, cT1f, cFind3, cSplit, cPart, rNewStrs, hIsS, hTru, tAsg, gName, gSub, tRet, tRetN, tCons, tNil, tTup, tLst, tCB, tNot, tAnd, tNotV, tAndV, tOrV, tOr, V.bl.injEq, V.int.injEq, V.str.injEq, exists_eq_left', exists_eq_left, exists_eq', true_and, and_true, cIsN, L2.start, gTup, gCons, gNil, nox_K, cx_K, tCallF, tSl, tPart, tNoPart, iEnum, RZ.iZipA, iRng1, iRng2, cAbs, List.map_cons, List.map_nil, List.length_cons, List.length_nil, List.replicate, List.cons_append, List.nil_append, List.getElem?_cons_zero, List.getElem?_cons_succ, List.getElem?_nil, List.set_cons_zero, List.set_cons_succ, Nat.reduceAdd, Nat.reduceSub, Nat.zero_add, if_true, if_false, reduceIte, reduceCtorEq, Bool.false_eq_true, decide_eq_true_eq, tDrop, cMin2, cJoin, iList, tDNewK, tLc_eq, iStr, wipe])
        refine ⟨a0, _, rfl, .inl (Rd.of hat), rfl, _, _, rfl, _, _, rfl, rfl, ?_⟩
        try (try simp only [tSeq, tNext, tIfS, tFor_eq, cBl, tOp, tC, cI, cIc, cAdd, cVar, hEq, hNe, hIn, hNotIn, hLen, hSl, tM1, tBM, cT1, cT1f, cFind3, cSplit, cPart, rNewStrs, hIsS, hTru, tAsg, gName, gSub, tRet, tRetN, tCons, tNil, tTup, tLst, tCB, tNot, tAnd, tNotV, tAndV, tOrV, tOr, V.bl.injEq, V.int.injEq, V.str.injEq, exists_eq_left', exists_eq_left, exists_eq', true_and, and_true, cIsN, L2.start, gTup, gCons, gNil, nox_K, cx_K, tCallF, tSl, tPart, tNoPart, iEnum, RZ.iZipA, iRng1, iRng2, cAbs, List.map_cons, List.map_nil, List.length_cons, List.length_nil, List.replicate, List.cons_append, List.nil_append, List.getElem?_cons_zero, List.getElem?_cons_succ, List.getElem?_nil, List.set_cons_zero, List.set_cons_succ, Nat.reduceAdd, Nat.reduceSub, Nat.zero_add, if_true, if_false, reduceIte, reduceCtorEq, Bool.false_eq_true, decide_eq_true_eq, tDrop, cMin2, cJoin, iList, tDNewK, tLc_eq, iStr, wipe])
        by_cases h94 : z = Str.ofString "^"
        · rw [if_pos h94]
          have e94 : tl z = [94] := by rw [h94]; decide +kernel
          rw [← ez, badP_here hgood (by rw [hzt, e94])] at q
          unfold tMkO
          (try simp only [tNext, tFor_eq, cBl, tOp, tC, cI, cIc, cAdd, cVar, hEq, hNe, hIn, hNotIn, hLen, hSl, tM1, tBM, cT1, cT1f, cFind3, cSplit, cPart, rNewStrs, hIsS, hTru, tAsg, gName, gSub, tRet, tRetN, tCons, tNil, tTup, tLst, tCB, tNot, tAnd, tNotV, tAndV, tOrV, tOr, V.bl.injEq, V.int.injEq, V.str.injEq, exists_eq_left', exists_eq_left, exists_eq', true_and, and_true, cIsN, L2.start, gTup, gCons, gNil, nox_K, cx_K, tCallF, tSl, tPart, tNoPart, iEnum, RZ.iZipA, iRng1, iRng2, cAbs, List.map_cons, List.map_nil, List.length_cons, List.length_nil, List.replicate, List.cons_append, List.nil_append, List.getElem?_cons_zero, List.getElem?_cons_succ, List.getElem?_nil, List.set_cons_zero, List.set_cons_succ, Nat.reduceAdd, Nat.reduceSub, Nat.zero_add, if_true, if_false, reduceIte, reduceCtorEq, Bool.false_eq_true, decide_eq_true_eq, tDrop, cMin2, cJoin, iList, tDNewK, tLc_eq, iStr, wipe])
          exact ⟨by decide, ei_ok fun d H5 he5 hd5 => q d H5 (x3.tr he5) hd5⟩
        · rw [if_neg h94]
          have n94 : tl z ≠ [94] := fun e => h94 (TL.ext_tl (e.trans (by decide +kernel)))
          refine ⟨tyL h13, ?_⟩
          refine cps (R := tIf _ _ _ _ _) (fun v H' => H3 = H' ∧ v = natV (octP (tl z))) ?_ ?_
          · rintro _ _ ⟨rfl, rfl⟩
            refine append_at h13 (by rw [List.length_map, List.length_take, List.length_map]; omega) ?_
            refine ⟨_, _, rfl, ?_, x3.new hp1, ?_, hpc3.updL h13, fun q hq => ?_⟩
            · rw [upd_self, take_snoc hzt, List.map_append]
              rfl
            · rw [upd_ne (fun e => by
                have h := hp2
                rw [e] at h
                have := h1
                rw [upd_self] at h
                cases h)]
              exact hz3
            · rw [take_snoc hzt] at hq
              rcases List.mem_append.mp hq with hq | hq
              · exact hgood q hq
              · rw [List.mem_singleton.mp hq]; exact n94
          · intro Q' hQ
            unfold tIf
            (try simp only [tSeq, tNext, tIfS, tFor_eq, cBl, tOp, tC, cI, cIc, cAdd, cVar, hEq, hNe, hIn, hNotIn, hLen, hSl, tM1, tBM, cT1, cT1f, cFind3, cSplit, cPart, rNewStrs, hIsS, hTru, tAsg, gName, gSub, tRet, tRetN, tCons, tNil, tTup, tLst, tCB, tNot, tAnd, tNotV, tAndV, tOrV, tOr, V.bl.injEq, V.int.injEq, V.str.injEq, exists_eq_left', exists_eq_left, exists_eq', true_and, and_true, cIsN, L2.start, gTup, gCons, gNil, nox_K, cx_K, tCallF, tSl, tPart, tNoPart, iEnum, RZ.iZipA, iRng1, iRng2, cAbs, List.map_cons, List.map_nil, List.length_cons, List.length_nil, List.replicate, List.cons_append, List.nil_append, List.getElem?_cons_zero, List.getElem?_cons_succ, List.getElem?_nil, List.set_cons_zero, List.set_cons_succ, Nat.reduceAdd, Nat.reduceSub, Nat.zero_add, if_true, if_false, reduceIte, reduceCtorEq, Bool.false_eq_true, decide_eq_true_eq, tDrop, cMin2, cJoin, iList, tDNewK, tLc_eq, iStr, wipe])
            refine ⟨by omega, ?_⟩
            rcases hisp with ⟨a, b, e, ha, hb⟩ | ⟨c, e⟩
            · have hl3 : z.length = 3 := by rw [TL.len_tl, e]; rfl
              rw [if_pos (by omega)]
              have e2 : cutS z (some (1 : Int)) none = SX.S [a, b] := TL.ext_tl (by
                rw [show (some (1 : Int)) = some ((1 : Nat) : Int) from rfl, sl_from, e]
                rfl)
              refine ⟨by omega, [a, b], by rw [e2], by simp, by simp, fun c hc => ?_, ?_⟩
              · rcases List.mem_cons.mp hc with rfl | hc
                · exact isHex_of ha
                · rw [List.mem_singleton.mp hc]; exact isHex_of hb
              · refine hQ _ _ ⟨rfl, ?_⟩
                rw [e]
                rfl
            · have hl1 : z.length = 1 := by rw [TL.len_tl, e]; rfl
              rw [if_neg (by omega)]
              refine ⟨_, rfl, hl1, ?_⟩
              have ez2 : z = ⟨#[c]⟩ := TL.ext_tl e
              refine hQ _ _ ⟨rfl, ?_⟩
              rw [e, ez2]
              rfl
      · rintro σ H3 ⟨u2, u3, rfl, h13, x3, hz3, hpc3, hgood⟩
        (try simp only [tSeq, tNext, tIfS, tFor_eq, cBl, tOp, tC, cI, cIc, cAdd, cVar, hEq, hNe, hIn, hNotIn, hLen, hSl, tM1, tBM, cT1, cT1f, cFind3, cSplit, cPart, rNewStrs, hIsS, hTru, tAsg, gName, gSub, tRet, tRetN, tCons, tNil, tTup, tLst, tCB, tNot, tAnd, tNotV, tAndV, tOrV, tOr, V.bl.injEq, V.int.injEq, V.str.injEq, exists_eq_left', exists_eq_left, exists_eq', true_and, and_true, cIsN, L2.start, gTup, gCons, gNil, nox_K, cx_K, tCallF, tSl, tPart, tNoPart, iEnum, RZ.iZipA, iRng1, iRng2, cAbs, List.map_cons, List.map_nil, List.length_cons, List.length_nil, List.replicate, List.cons_append, List.nil_append, List.getElem?_cons_zero, List.getElem?_cons_succ, List.getElem?_nil, List.set_cons_zero, List.set_cons_succ, Nat.reduceAdd, Nat.reduceSub, Nat.zero_add, if_true, if_false, reduceIte, reduceCtorEq, Bool.false_eq_true, decide_eq_true_eq, tDrop, cMin2, cJoin, iList, tDNewK, tLc_eq, iStr, wipe])
        rw [List.length_map, na, show zs.length = (zs.map tl).length from (List.length_map _).symm, List.take_length, ez] at h13 hgood
        rw [badP_none hgood] at q
        exact q p1 H3 x3 hp1 h13
end
end Da
set_option Elab.async false
set_option linter.all false
set_option maxRecDepth 100000
set_option maxHeartbeats 4000000
namespace Da
open PySem PySem.Spec PyProof.Rows L2 Hd Xs Fx Mi Ms Md Mq Mp Mr ClX Xr
open TL (tl joinL)
theorem hu1 {A : Around} {k : Nat} (h : Room k A) : A.units + 1 < cLine := by have := h.un; omega
/-! ### queries read -/
abbrev Pr := Str × Option Str
def ovS : Option Str → V
  | none => .non
  | some t => .str t
def rowPr (p : Pr) : List V := [.str p.1, ovS p.2]
def prT (p : Pr) : T × Option T := (tl p.1, p.2.map tl)
def isSg (k : Nat) : Bool := decide (32 ≤ k) && (decide (k ≤ 126) && decide (k ≠ 37))
/-- no wrong escape -/
def sgP (p : T) : Bool := if p.length = 3 then isSg (octP p) else true
def wrongQ (l : T) : Option Nat := (pcs l).findIdx? fun p => !sgP p
/-- signs of queries; each "^" begins an escape -/
def QOk (l : T) : Prop := (∀ c ∈ l, isSg c = true) ∧ ∀ p ∈ pcs l, p ≠ [94]
/-- all escapes denote signs -/
def ROk (l : T) : Prop := QOk l ∧ ∀ p ∈ pcs l, sgP p = true
def spRead : Sp := fun vs H Q _ => match vs with
  | [.str t, .ref D] => t.length ≤ 20000 ∧ ROk (tl t) ∧ H D = some (.dK (sgD (tl SGS))) ∧ ∀ z H', Ext H H' → tl z = bareT (tl t) → Q (.str z) H'
  | _ => False
def spPair : Sp := fun vs H Q _ => match vs with
  | [.str t, .ref D] => t.length ≤ 20000 ∧ ROk (tl t) ∧ H D = some (.dK (sgD (tl SGS))) ∧ ∀ a p H', Ext H H' → H a = none → H' a = some (.tup (rowPr p)) → prT p = itmT (tl t) → Q (.ref a) H'
  | _ => False
def spPairs (K : PySem.W.Frag) : Sp := fun vs H Q E => match vs with
  | [.str t] => t.length ≤ 20000 ∧ QOk (tl t) ∧ (match wrongQ (tl t) with
    | some i => ∀ d H', Ext H H' → H' d = some (.xd [("place", .int (posn (pcs (tl t)) i : Nat))]) → E (.ref (He.ga K "BadQuery")) (some d) H'
    | none => ∀ (p : Addr) (as : List Addr) (ps : List Pr) H', Ext H H' → H p = none → H' p = some (.lst (as.map V.ref)) → Gd.TAt H' as (ps.map rowPr) → ps.map prT = prsT (tl t) → Q (.ref p) H')
  | _ => False
theorem sg_mem : ∀ n < 256, isSg n = true → (tl SGS).contains n = true := by decide +kernel
theorem isSg_lt {n : Nat} (h : isSg n = true) : n < 127 := by
  unfold isSg at h
  simp only [Bool.and_eq_true, decide_eq_true_eq] at h
  omega
theorem rok_oct {l p : T} (h : ROk l) (hp : p ∈ pcs l) : isSg (octP p) = true := by
  have h1 := h.2 p hp
  unfold sgP at h1
  split at h1
  · exact h1
  · rename_i hl
    rcases pcs_is hp with ⟨a, b, rfl, _, _⟩ | ⟨c, rfl⟩
    · exact absurd rfl hl
    · exact h.1.1 c (pcs_sub hp c (List.mem_singleton.mpr rfl))
theorem sgs_val {n : Nat} (h : isSg n = true) : valV (sgD (tl SGS)) (.inl ((n : Nat) : Int)) = some (.str ⟨#[n]⟩) := by
  rw [sgD_val, sg_mem n (by have := isSg_lt h; omega) h]
  rfl
theorem QOk.sg {t : Str} (h : QOk (tl t)) : Sg t := fun c hc => by have := isSg_lt (h.1 c hc); omega
theorem qok_sub {l m : T} (h : QOk l) (h1 : ∀ c ∈ m, c ∈ l) (h2 : ∀ p ∈ pcs m, p ∈ pcs l) : QOk m := ⟨fun c hc => h.1 c (h1 c hc), fun p hp => h.2 p (h2 p hp)⟩
theorem rok_sub {l m : T} (h : ROk l) (h1 : ∀ c ∈ m, c ∈ l) (h2 : ∀ p ∈ pcs m, p ∈ pcs l) : ROk m := ⟨qok_sub h.1 h1 h2, fun p hp => h.2 p (h2 p hp)⟩
theorem rok_nil : ROk [] := ⟨⟨(fun c hc => by cases hc), (fun p hp => by cases hp)⟩, (fun p hp => by cases hp)⟩
theorem sgs_in : ∀ n < 256, (tl SGS).contains n = isSg n := by decide +kernel
theorem sgs_none {n : Nat} (hn : n < 256) (h : isSg n = false) : valV (sgD (tl SGS)) (.inl ((n : Nat) : Int)) = none := by
  rw [sgD_val, sgs_in n hn, h]
  rfl
theorem bef_mem2 {c : Nat} {l : T} : ∀ d ∈ bef c l, d ∈ l := fun d hd => (List.takeWhile_sublist _).subset hd
theorem aft_mem2 {c : Nat} {l : T} : ∀ d ∈ aft c l, d ∈ l := fun d hd => (List.dropWhile_sublist _).subset (List.mem_of_mem_drop hd)
theorem rok_bef {l : T} (h : ROk l) : ROk (bef 61 l) := rok_sub h bef_mem2 (pcs_bef no61 l).1
theorem rok_aft {l : T} (h : ROk l) (hc : l.contains 61 = true) : ROk (aft 61 l) := rok_sub h aft_mem2 ((pcs_bef no61 l).2 hc)
theorem ext_none {H H' : Hp} {p : Addr} (x : Ext H H') (h : H' p = none) : H p = none := by
  cases z : H p with
  | none => rfl
  | some o => rw [x _ _ z] at h; cases h
theorem wt_mem {ps : List T} {p : T} (h : p ∈ ps) : p.length + 1 ≤ wt ps := by
  induction ps with
  | nil => cases h
  | cons a r ih =>
    rw [wt_cons]
    rcases List.mem_cons.mp h with rfl | h
    · omega
    · have := ih h
      omega
theorem cut_len (c : Nat) (l : T) : (cut c l).length ≤ l.length + 1 := by rw [← wt_cut c l]; exact wt_len _
theorem cut_mlen {c : Nat} {l p : T} (h : p ∈ cut c l) : p.length ≤ l.length := by
  have := wt_mem h
  rw [wt_cut] at this
  omega
theorem flat_one (ns : List Nat) : (ns.map fun n => [n]).flatten = ns := by
  induction ns with
  | nil => rfl
  | cons n ns ih => rw [List.map_cons, List.flatten_cons, ih]; rfl
theorem bare_len (l : T) : (bareT l).length ≤ l.length := by
  unfold bareT
  rw [List.length_map]
  exact pcs_len l
theorem wrongQ_here {l : T} {j : Nat} {p : T} (ha : ∀ q ∈ (pcs l).take j, sgP q = true) (h : (pcs l)[j]? = some p) (hp : sgP p = false) : wrongQ l = some j := by
  unfold wrongQ
  have : ∀ (ps : List T) (j : Nat), (∀ q ∈ ps.take j, sgP q = true) → ps[j]? = some p → (ps.findIdx? fun p => !sgP p) = some j := by
    intro ps
    induction ps with
    | nil => intro j _ h; simp at h
    | cons x ps ih =>
      intro j ha h
      rw [List.findIdx?_cons]
      cases j with
      | zero =>
        have e : x = p := by simpa using h
        rw [e, hp]
        rfl
      | succ j =>
        have hx := ha x (by simp)
        rw [hx]
        rw [ih j (fun q hq => ha q (by simp [hq])) (by simpa using h)]
        rfl
  exact this _ _ ha h
theorem wrongQ_none {l : T} (h : ∀ p ∈ pcs l, sgP p = true) : wrongQ l = none := by
  unfold wrongQ
  rw [List.findIdx?_eq_none_iff]
  intro p hp
  rw [h p hp]
  rfl
section
variable {P : Program} {w : World} {K : PySem.W.Frag} {mg : Str → Option Value} {base : Heap}
theorem ok_BadQuery___init__ (c : Ct w K mg) : OkF P w K mg base CX0 1 (He.ma K (He.ga K "BadQuery") "__init__") ["self", "place"] (spEI "place" (He.ga K "BadQuery")) := by
  obtain ⟨fd, F⟩ := F_BadQuery___init__ c
  refine ⟨fd, F.ok sc_BadQuery___init__ (fun vs H Q E h => ?_) (fun cdv A outer s H vs Q E hr h => ⟨_, PSs.nox (pss_one (ps_ost (cv 0) (cv 1))), ?_⟩), F.bindsN fun _ _ _ _ _ _ us hl => match us, hl with | [_, _], _ => rfl⟩
  · unfold spEI at h
    split at h
    · rfl
    · exact h.elim
  · unfold spEI at h
    split at h
    case h_2 => exact h.elim
    rename_i a y
    obtain ⟨ha, q⟩ := h
    unfold tOst
    (try simp only [tSeq, tNext, tIfS, tFor_eq, cBl, tOp, tC, cI, cIc, cAdd, cVar, hEq, hNe, hIn, hNotIn, hLen, hSl, tM1, tBM, cT1, cT1f, cFind3, cSplit, cPart, rNewStrs, hIsS, hTru, tAsg, gName, gSub, tRet, tRetN, tCons, tNil, tTup, tLst, tCB, tNot, tAnd, tNotV, tAndV, tOrV, tOr, V.bl.injEq, V.int.injEq, V.str.injEq, exists_eq_left', exists_eq_left, exists_eq', true_and, and_true, cIsN, L2.start, gTup, gCons, gNil, nox_K, cx_K, tCallF, tSl, tPart, tNoPart, iEnum, RZ.iZipA, iRng1, iRng2, cAbs, List.map_cons, List.map_nil, List.length_cons, List.length_nil, List.replicate, List.cons_append, List.nil_append, List.getElem?_cons_zero, List.getElem?_cons_succ, List.getElem?_nil, List.set_cons_zero, List.set_cons_succ, Nat.reduceAdd, Nat.reduceSub, Nat.zero_add, if_true, if_false, reduceIte, reduceCtorEq, Bool.false_eq_true, decide_eq_true_eq, tDrop, cMin2, cJoin, iList, tDNewK, tLc_eq, iStr, wipe])
    exact ⟨a, He.ga K "BadQuery", rfl, oex_BadQuery c, noat_BadQuery_place c, .inl ⟨ha, q⟩⟩
theorem ok__read (c : Ct w K mg) : OkF P w K mg base CX0 4 (He.ga K "_read") ["text", "signs"] (spRead) := by
  obtain ⟨fd, F⟩ := F__read c
  refine ⟨fd, F.ok sc__read (fun vs H Q E h => ?_) (fun cdv A outer s H vs Q E hr h => ⟨_, PSs.nox ((pss_one (ps_ret (pe_m1 PySem.F.slot_str_join PySem.F.type_str_join hm_join pe_str (pe_lc rfl (sc__read).nd (pi_list (pf (E := E0) (ok_octets c) (hr.mono (by decide)) (g_octets c) (k_octets c) (passes_call takes0 (fun _ _ _ _ z => z)) (pa_cons (cv 0) pa_nil))) (blkOk_by (own := [("number", 2)]) (by rfl)) (fun _ _ _ _ _ => pg_name (i := 2) (sc__read).nd rfl (Or.inl rfl)) (fun _ _ _ _ _ => pts_nil) (fun _ _ _ _ _ => (pe_dget (hu1 hr) (cv 1) (cv 2) (fun _ _ => rfl)))))))), ?_⟩), F.bindsN fun _ _ _ _ _ _ us hl => match us, hl with | [_, _], _ => rfl⟩
  · unfold spRead at h
    split at h
    · rfl
    · exact h.elim
  · unfold spRead at h
    split at h
    case h_2 => exact h.elim
    rename_i t D
    obtain ⟨ht, hro, hD, q⟩ := h
    have sl := sl
    (try simp only [tSeq, tNext, tIfS, tFor_eq, cBl, tOp, tC, cI, cIc, cAdd, cVar, hEq, hNe, hIn, hNotIn, hLen, hSl, tM1, tBM, cT1, cT1f, cFind3, cSplit, cPart, rNewStrs, hIsS, hTru, tAsg, gName, gSub, tRet, tRetN, tCons, tNil, tTup, tLst, tCB, tNot, tAnd, tNotV, tAndV, tOrV, tOr, V.bl.injEq, V.int.injEq, V.str.injEq, exists_eq_left', exists_eq_left, exists_eq', true_and, and_true, cIsN, L2.start, gTup, gCons, gNil, nox_K, cx_K, tCallF, tSl, tPart, tNoPart, iEnum, RZ.iZipA, iRng1, iRng2, cAbs, List.map_cons, List.map_nil, List.length_cons, List.length_nil, List.replicate, List.cons_append, List.nil_append, List.getElem?_cons_zero, List.getElem?_cons_succ, List.getElem?_nil, List.set_cons_zero, List.set_cons_succ, Nat.reduceAdd, Nat.reduceSub, Nat.zero_add, if_true, if_false, reduceIte, reduceCtorEq, Bool.false_eq_true, decide_eq_true_eq, tDrop, cMin2, cJoin, iList, tDNewK, tLc_eq, iStr, wipe])
    refine ⟨by omega, hro.1.sg, ?_⟩
    rw [badP_none hro.1.2]
    dsimp only
    intro p H1 x1 hp0 hp
    have hD1 := x1 _ _ hD
    refine ⟨p, rfl, ⟨_, .inl (Rd.of hp)⟩, fun E0 hE => ?_⟩
    have npc := pcs_len (tl t)
    rw [← TL.len_tl] at npc
    refine lcp_list (xs := (pcs (tl t)).map fun q => natV (octP q)) (fun i H' => ∃ us : List Str, H' E0 = some (.lst (us.map V.str)) ∧ us.length = i ∧ us.map tl = (((pcs (tl t)).take i).map octP).map (fun n => [n]) ∧ Ext H1 H') ⟨[], upd_self, rfl, rfl, Ext.rf.fresh hE⟩ ?_ ?_ ?_
    · rintro i H' _ ⟨_, _, _, _, x⟩
      exact .inl (Rd.of (x _ _ hp))
    · rintro i v H' hv ⟨us, hu, nu, eu, x⟩
      rw [List.getElem?_map] at hv
      obtain ⟨pc, hpc, rfl⟩ : ∃ pc, (pcs (tl t))[i]? = some pc ∧ natV (octP pc) = v := by
        cases e : (pcs (tl t))[i]? with
        | none => rw [e] at hv; cases hv
        | some n => rw [e] at hv; exact ⟨n, rfl, Option.some.inj hv⟩
      have hil := (List.getElem?_eq_some_iff.mp hpc).1
      have hsg := rok_oct hro (List.mem_of_getElem? hpc)
      have dg := DGet.k (k := .inl ((octP pc : Nat) : Int)) (x _ _ hD1)
      rw [sgs_val hsg] at dg
      unfold tDGet
      (try simp only [tSeq, tNext, tIfS, tFor_eq, cBl, tOp, tC, cI, cIc, cAdd, cVar, hEq, hNe, hIn, hNotIn, hLen, hSl, tM1, tBM, cT1, cT1f, cFind3, cSplit, cPart, rNewStrs, hIsS, hTru, tAsg, gName, gSub, tRet, tRetN, tCons, tNil, tTup, tLst, tCB, tNot, tAnd, tNotV, tAndV, tOrV, tOr, V.bl.injEq, V.int.injEq, V.str.injEq, exists_eq_left', exists_eq_left, exists_eq', true_and, and_true, cIsN, L2.start, gTup, gCons, gNil, nox_K, cx_K, tCallF, tSl, tPart, tNoPart, iEnum, RZ.iZipA, iRng1, iRng2, cAbs, List.map_cons, List.map_nil, List.length_cons, List.length_nil, List.replicate, List.cons_append, List.nil_append, List.getElem?_cons_zero, List.getElem?_cons_succ, List.getElem?_nil, List.set_cons_zero, List.set_cons_succ, Nat.reduceAdd, Nat.reduceSub, Nat.zero_add, if_true, if_false, reduceIte, reduceCtorEq, Bool.false_eq_true, decide_eq_true_eq, tDrop, cMin2, cJoin, iList, tDNewK, tLc_eq, iStr, wipe])
      simp only [tYes, if_true]
      refine ⟨D, _, rfl, dg, _, hu, by rw [List.length_map]; omega, us ++ [⟨#[octP pc]⟩], by rw [List.map_append]; exact upd_self, by rw [List.length_append, nu]; rfl, ?_, x.new hE⟩
      rw [List.map_append, eu, take_snoc hpc, List.map_append, List.map_append]
      rfl
    · rintro H' ⟨us, hu, nu, eu, x⟩
      rw [List.length_map] at nu
      rw [List.length_map, List.take_length] at eu
      have e0' : (Str.ofString "").length = 0 := rfl
      have hs : (us.map fun x => x.length).sum ≤ us.length * 1 := sum_len fun z hz => by
        have hm : tl z ∈ us.map tl := List.mem_map_of_mem hz
        rw [eu] at hm
        obtain ⟨n, _, e⟩ := List.mem_map.mp hm
        rw [TL.len_tl, ← e]
        exact Nat.le_refl _
      refine ⟨us, .inl (.inl (Rd.of hu)), by rw [e0']; omega, q _ _ (x1.tr x) ?_⟩
      rw [TL.join_eq, TL.tl_join, eu]
      exact (jl_nil _).trans (flat_one _)
theorem ok__pair (c : Ct w K mg) : OkF P w K mg base CX0 5 (He.ga K "_pair") ["item", "signs"] (spPair) := by
  obtain ⟨fd, F⟩ := F__pair c
  refine ⟨fd, F.ok sc__pair (fun vs H Q E h => ?_) (fun cdv A outer s H vs Q E hr h => ⟨_, PSs.nox ((pss_cons (ps_asg (pe_m1 PySem.F.slot_str_partition PySem.F.type_str_partition cm_partition (cv 0) pe_str) (pg_tup (n := 3) rfl (pgs_cons (pg_name (i := 2) (sc__pair).nd rfl (Or.inl rfl)) (pgs_cons (pg_name (i := 3) (sc__pair).nd rfl (Or.inl rfl)) (pgs_cons (pg_name (i := 4) (sc__pair).nd rfl (Or.inl rfl)) pgs_nil))))) (pss_one (ps_ret (pe_tup (pa_cons (pf (ok__read c) (hr.mono (by decide)) (g__read c) (k__read c) pass0 (pa_cons (cv 2) (pa_cons (cv 1) pa_nil))) (pa_cons (pe_ifExp (hTr (cv 3)) (pf (ok__read c) (hr.mono (by decide)) (g__read c) (k__read c) pass0 (pa_cons (cv 4) (pa_cons (cv 1) pa_nil))) pe_non) pa_nil))))))), ?_⟩), F.bindsN fun _ _ _ _ _ _ us hl => match us, hl with | [_, _], _ => rfl⟩
  · unfold spPair at h
    split at h
    · rfl
    · exact h.elim
  · unfold spPair at h
    split at h
    case h_2 => exact h.elim
    rename_i t D
    obtain ⟨ht, hro, hD, q⟩ := h
    have sl := sl
    have eq_ : Str.ofString "=" = ⟨#[61]⟩ := TL.ext_tl (by decide +kernel)
    obtain ⟨c1, c2, c3⟩ := part_cut t 61
    rw [← eq_] at c1 c2 c3
    have lt := TL.len_tl t
    have l1 := bef_le 61 (tl t)
    have l3 := aft_le 61 (tl t)
    refine seqStep ?_
    (try simp only [tNext, tFor_eq, cBl, tOp, tC, cI, cIc, cAdd, cVar, hEq, hNe, hIn, hNotIn, hLen, hSl, tM1, tBM, cT1, cT1f, cFind3, cSplit, cPart, rNewStrs, hIsS, hTru, tAsg, gName, gSub, tRet, tRetN, tCons, tNil, tTup, tLst, tCB, tNot, tAnd, tNotV, tAndV, tOrV, tOr, V.bl.injEq, V.int.injEq, V.str.injEq, exists_eq_left', exists_eq_left, exists_eq', true_and, and_true, cIsN, L2.start, gTup, gCons, gNil, nox_K, cx_K, tCallF, tSl, tPart, tNoPart, iEnum, RZ.iZipA, iRng1, iRng2, cAbs, List.map_cons, List.map_nil, List.length_cons, List.length_nil, List.replicate, List.cons_append, List.nil_append, List.getElem?_cons_zero, List.getElem?_cons_succ, List.getElem?_nil, List.set_cons_zero, List.set_cons_succ, Nat.reduceAdd, Nat.reduceSub, Nat.zero_add, if_true, if_false, reduceIte, reduceCtorEq, Bool.false_eq_true, decide_eq_true_eq, tDrop, cMin2, cJoin, iList, tDNewK, tLc_eq, iStr, wipe])
    refine ⟨rfl, by omega, fun p hp => ⟨p, _, rfl, .inl (Rd.of upd_self), rfl, _, _, rfl, _, _, rfl, _, _, rfl, rfl, ?_⟩⟩
    have hD1 := upd_old (o := .tup [V.str (Txt.partition t (Str.ofString "=")).fst, V.str (Txt.partition t (Str.ofString "=")).snd.fst, V.str (Txt.partition t (Str.ofString "=")).snd.snd]) hD hp
    have xH : Ext H (upd H p (.tup [V.str (Txt.partition t (Str.ofString "=")).fst, V.str (Txt.partition t (Str.ofString "=")).snd.fst, V.str (Txt.partition t (Str.ofString "=")).snd.snd])) := Ext.rf.fresh hp
    generalize (upd H p (.tup [V.str (Txt.partition t (Str.ofString "=")).fst, V.str (Txt.partition t (Str.ofString "=")).snd.fst, V.str (Txt.partition t (Str.ofString "=")).snd.snd])) = H1 at *
    generalize (Txt.partition t (Str.ofString "=")).1 = k1 at *
    generalize (Txt.partition t (Str.ofString "=")).2.2 = k3 at *
    generalize (Txt.partition t (Str.ofString "=")).2.1 = k2 at *
    refine ⟨by rw [TL.len_tl, c1]; omega, by rw [c1]; exact rok_bef hro, hD1, fun z1 H2 x2 e1 => ?_⟩
    rw [c1] at e1
    unfold tIf
    (try simp only [tSeq, tNext, tIfS, tFor_eq, cBl, tOp, tC, cI, cIc, cAdd, cVar, hEq, hNe, hIn, hNotIn, hLen, hSl, tM1, tBM, cT1, cT1f, cFind3, cSplit, cPart, rNewStrs, hIsS, hTru, tAsg, gName, gSub, tRet, tRetN, tCons, tNil, tTup, tLst, tCB, tNot, tAnd, tNotV, tAndV, tOrV, tOr, V.bl.injEq, V.int.injEq, V.str.injEq, exists_eq_left', exists_eq_left, exists_eq', true_and, and_true, cIsN, L2.start, gTup, gCons, gNil, nox_K, cx_K, tCallF, tSl, tPart, tNoPart, iEnum, RZ.iZipA, iRng1, iRng2, cAbs, List.map_cons, List.map_nil, List.length_cons, List.length_nil, List.replicate, List.cons_append, List.nil_append, List.getElem?_cons_zero, List.getElem?_cons_succ, List.getElem?_nil, List.set_cons_zero, List.set_cons_succ, Nat.reduceAdd, Nat.reduceSub, Nat.zero_add, if_true, if_false, reduceIte, reduceCtorEq, Bool.false_eq_true, decide_eq_true_eq, tDrop, cMin2, cJoin, iList, tDNewK, tLc_eq, iStr, wipe])
    cases hc : (tl t).contains 61 with
    | false =>
      rw [hc, if_neg Bool.false_ne_true] at c2
      subst c2
      refine ⟨Nat.zero_le _, ?_⟩
      rw [if_neg (by decide)]
      refine ⟨by omega, fun a ha => q a (z1, none) _ (xH.tr (x2.fresh ha)) (ext_none (xH.tr x2) ha) upd_self ?_⟩
      unfold prT itmT
      rw [e1, hc]
      rfl
    | true =>
      rw [hc, if_pos rfl] at c2 c3
      subst c2
      refine ⟨by rw [show (Str.ofString "=").length = 1 from rfl]; omega, ?_⟩
      rw [if_pos (by decide)]
      refine ⟨by rw [TL.len_tl, c3]; omega, by rw [c3]; exact rok_aft hro hc, x2 _ _ hD1, fun z2 H3 x3 e2 => ?_⟩
      rw [c3] at e2
      refine ⟨by omega, fun a ha => q a (z1, some z2) _ (xH.tr ((x2.tr x3).fresh ha)) (ext_none (xH.tr (x2.tr x3)) ha) upd_self ?_⟩
      unfold prT itmT
      rw [hc]
      dsimp only
      rw [e1]
      show (_, some (tl z2)) = _
      rw [e2]
      rfl
theorem ok_pairs (c : Ct w K mg) : OkF P w K mg base (L2.CX P w) 6 (He.ga K "pairs") ["query"] (spPairs K) := by
  obtain ⟨fd, F⟩ := F_pairs c
  refine ⟨fd, F.ok sc_pairs (fun vs H Q E h => ?_) (fun cdv A outer s H vs Q E hr h => ⟨_, ((pss_cons (ps_if (ctc (ho_eq (hu64 hr)) (cv 0) pe_str (by rfl)) (pss_one (ps_ret (pe_lst pa_nil))) pss_nil) (pss_cons (ps_set (i := 2) (sc_pairs).nd rfl (Or.inr rfl) (pe_dc rfl (sc_pairs).nd (pi_str (pe_glob rfl (c_SIGNS c).choose_spec.1 (c_SIGNS c).choose_spec.2)) (blkOk_by (own := [("sign", 1)]) (by rfl)) (fun _ _ _ _ _ => pg_name (i := 1) (sc_pairs).nd rfl (Or.inl rfl)) (fun _ _ _ _ _ => pts_nil) (fun _ _ _ _ _ => (pe_callB call_ord (by rfl) (b_ord c) (by decide +kernel) (pa_cons (cv 1) pa_nil))) (fun _ _ _ _ _ => (cv 1)))) (pss_cons (ps_for (passes_of rfl) rfl (pi_list (pf (ok_pieces_of c) (hr.mono (by decide)) (g_pieces_of c) (k_pieces_of c) pass0 (pa_cons (cv 0) pa_nil))) (pg_tup (n := 2) rfl (pgs_cons (pg_name (i := 3) (sc_pairs).nd rfl (Or.inl rfl)) (pgs_cons (pg_name (i := 4) (sc_pairs).nd rfl (Or.inl rfl)) pgs_nil))) (pss_one (ps_if (PW.pt (pw_and (ctc (ho_eq (hu64 hr)) (pe_callB hc_len (by rfl) (b_len c) (by decide +kernel) (pa_cons (cv 4) pa_nil)) (pe_glob rfl (c_ESCAPE_SIZE c).choose_spec.1 (c_ESCAPE_SIZE c).choose_spec.2) (by rfl)) (pw_and1 (pt_cmp (pc_dnotin (hu1 hr) (pe_callTy call_int_hex (by rfl) (b_int c) (by decide +kernel) (pa_cons (pe_slice hs_any (cv 4) (po_some pe_int) po_none) (pa_cons pe_int pa_nil))) (cv 2)))))) (pss_one (ps_raise rfl (takes_of rfl rfl rfl rfl) (pmk_oex (oex_BadQuery c) (ini_BadQuery c).1 (ini_BadQuery c).2 (ok_BadQuery___init__ c).choose_spec.1 (hr.mono (by decide)) (ok_BadQuery___init__ c).choose_spec.2 .nil pass0 rfl (g_BadQuery c) (pa_cons (cv 3) pa_nil)))) pss_nil))) (pss_one (ps_ret (pe_lc rfl (sc_pairs).nd (pi_list (pe_m1 PySem.F.slot_str_split PySem.F.type_str_split cm_split (cv 0) pe_str)) (blkOk_by (own := [("item", 5)]) (by rfl)) (fun _ _ _ _ _ => pg_name (i := 5) (sc_pairs).nd rfl (Or.inl rfl)) (fun _ _ _ _ _ => pts_nil) (fun _ _ _ _ _ => (pf (ok__pair c) (hr.mono (by decide)) (g__pair c) (k__pair c) pass0 (pa_cons (cv 5) (pa_cons (cv 2) pa_nil))))))))))), ?_⟩), F.bindsN fun _ _ _ _ _ _ us hl => match us, hl with | [_], _ => rfl⟩
  · unfold spPairs at h
    split at h
    · rfl
    · exact h.elim
  · unfold spPairs at h
    have sl := sl
    split at h
    case h_2 => exact h.elim
    case h_1 t =>
      obtain ⟨ht, hq, q⟩ := h
      refine seqStep ?_
      unfold tIfS
      (try simp only [tNext, tFor_eq, cBl, tOp, tC, cI, cIc, cAdd, cVar, hEq, hNe, hIn, hNotIn, hLen, hSl, tM1, tBM, cT1, cT1f, cFind3, cSplit, cPart, rNewStrs, hIsS, hTru, tAsg, gName, gSub, tRet, tRetN, tCons, tNil, tTup, tLst, tCB, tNot, tAnd, tNotV, tAndV, tOrV, tOr, V.bl.injEq, V.int.injEq, V.str.injEq, exists_eq_left', exists_eq_left, exists_eq', true_and, and_true, cIsN, L2.start, gTup, gCons, gNil, nox_K, cx_K, tCallF, tSl, tPart, tNoPart, iEnum, RZ.iZipA, iRng1, iRng2, cAbs, List.map_cons, List.map_nil, List.length_cons, List.length_nil, List.replicate, List.cons_append, List.nil_append, List.getElem?_cons_zero, List.getElem?_cons_succ, List.getElem?_nil, List.set_cons_zero, List.set_cons_succ, Nat.reduceAdd, Nat.reduceSub, Nat.zero_add, if_true, if_false, reduceIte, reduceCtorEq, Bool.false_eq_true, decide_eq_true_eq, tDrop, cMin2, cJoin, iList, tDNewK, tLc_eq, iStr, wipe])
      have lt := TL.len_tl t
      by_cases h0 : t = Str.ofString ""
      · rw [if_pos h0]
        subst h0
        rw [show wrongQ (tl (Str.ofString "")) = none from rfl] at q
        exact ⟨Nat.zero_le _, fun p hp => q p [] [] _ (Ext.rf.fresh hp) hp upd_self Gd.TAt.nil rfl⟩
      rw [if_neg h0]
      have hne : tl t ≠ [] := fun e => h0 (TL.ext_tl e)
      refine seqStep ?_
      unfold tAsg
      have key : ∀ (Q' : VK), (∀ D H1, Ext H H1 → H D = none → H1 D = some (.dK (sgD (tl SGS))) → Q' (.ref D) H1) → tDc (iStr (tC (V.str SGS))) (gName 1) tYes (tCB (fun xs H Q => ∃ x : Str, xs = [V.str x] ∧ x.length = 1 ∧ Q (V.int (x.cps.getD 0 0 : Nat)) H) (tCons (cVar 1) tNil)) (cVar 1) [1] [some (V.str t), none, none, none, none, none] H Q' := by
        intro Q' hQ
        refine ⟨_, rfl, fun D hD => ?_⟩
        refine dc_its (fun i H' => H' D = some (.dK (sgD ((tl SGS).take i))) ∧ Ext H H') ⟨upd_self, Ext.rf.fresh hD⟩ ?_ ?_
        · rintro i c H' hi ⟨hd, hx⟩
          (try simp only [tSeq, tNext, tIfS, tFor_eq, cBl, tOp, tC, cI, cIc, cAdd, cVar, hEq, hNe, hIn, hNotIn, hLen, hSl, tM1, tBM, cT1, cT1f, cFind3, cSplit, cPart, rNewStrs, hIsS, hTru, tAsg, gName, gSub, tRet, tRetN, tCons, tNil, tTup, tLst, tCB, tNot, tAnd, tNotV, tAndV, tOrV, tOr, V.bl.injEq, V.int.injEq, V.str.injEq, exists_eq_left', exists_eq_left, exists_eq', true_and, and_true, cIsN, L2.start, gTup, gCons, gNil, nox_K, cx_K, tCallF, tSl, tPart, tNoPart, iEnum, RZ.iZipA, iRng1, iRng2, cAbs, List.map_cons, List.map_nil, List.length_cons, List.length_nil, List.replicate, List.cons_append, List.nil_append, List.getElem?_cons_zero, List.getElem?_cons_succ, List.getElem?_nil, List.set_cons_zero, List.set_cons_succ, Nat.reduceAdd, Nat.reduceSub, Nat.zero_add, if_true, if_false, reduceIte, reduceCtorEq, Bool.false_eq_true, decide_eq_true_eq, tDrop, cMin2, cJoin, iList, tDNewK, tLc_eq, iStr, wipe])
          simp only [tYes, if_true]
          have hlk := sgD_len ((tl SGS).take i)
          have hl94 : (tl SGS).length = 94 := by decide +kernel
          rw [List.length_take] at hlk
          refine ⟨_, rfl, rfl, sgD ((tl SGS).take i), .inl ((c : Nat) : Int), rfl, hd, by omega, ?_, hx.new hD⟩
          rw [take_snoc hi, sgD_snoc]
          exact upd_self
        · rintro H' ⟨hd, hx⟩
          rw [List.take_length] at hd
          exact hQ D H' hx hD hd
      refine key _ fun D H1 x1 hD0 hD => ?_
      clear key
      (try simp only [tNext, tFor_eq, cBl, tOp, tC, cI, cIc, cAdd, cVar, hEq, hNe, hIn, hNotIn, hLen, hSl, tM1, tBM, cT1, cT1f, cFind3, cSplit, cPart, rNewStrs, hIsS, hTru, tAsg, gName, gSub, tRet, tRetN, tCons, tNil, tTup, tLst, tCB, tNot, tAnd, tNotV, tAndV, tOrV, tOr, V.bl.injEq, V.int.injEq, V.str.injEq, exists_eq_left', exists_eq_left, exists_eq', true_and, and_true, cIsN, L2.start, gTup, gCons, gNil, nox_K, cx_K, tCallF, tSl, tPart, tNoPart, iEnum, RZ.iZipA, iRng1, iRng2, cAbs, List.map_cons, List.map_nil, List.length_cons, List.length_nil, List.replicate, List.cons_append, List.nil_append, List.getElem?_cons_zero, List.getElem?_cons_succ, List.getElem?_nil, List.set_cons_zero, List.set_cons_succ, Nat.reduceAdd, Nat.reduceSub, Nat.zero_add, if_true, if_false, reduceIte, reduceCtorEq, Bool.false_eq_true, decide_eq_true_eq, tDrop, cMin2, cJoin, iList, tDNewK, tLc_eq, iStr, wipe])
      refine seqCps (fun σ H' => ∃ u1 u3 u4 u5, σ = [some (V.str t), u1, some (V.ref D), u3, u4, u5] ∧ Ext H1 H' ∧ ∀ p ∈ pcs (tl t), sgP p = true) (fun Nx hN => ?_) ?_
      · (try simp only [tNext, tFor_eq, cBl, tOp, tC, cI, cIc, cAdd, cVar, hEq, hNe, hIn, hNotIn, hLen, hSl, tM1, tBM, cT1, cT1f, cFind3, cSplit, cPart, rNewStrs, hIsS, hTru, tAsg, gName, gSub, tRet, tRetN, tCons, tNil, tTup, tLst, tCB, tNot, tAnd, tNotV, tAndV, tOrV, tOr, V.bl.injEq, V.int.injEq, V.str.injEq, exists_eq_left', exists_eq_left, exists_eq', true_and, and_true, cIsN, L2.start, gTup, gCons, gNil, nox_K, cx_K, tCallF, tSl, tPart, tNoPart, iEnum, RZ.iZipA, iRng1, iRng2, cAbs, List.map_cons, List.map_nil, List.length_cons, List.length_nil, List.replicate, List.cons_append, List.nil_append, List.getElem?_cons_zero, List.getElem?_cons_succ, List.getElem?_nil, List.set_cons_zero, List.set_cons_succ, Nat.reduceAdd, Nat.reduceSub, Nat.zero_add, if_true, if_false, reduceIte, reduceCtorEq, Bool.false_eq_true, decide_eq_true_eq, tDrop, cMin2, cJoin, iList, tDNewK, tLc_eq, iStr, wipe])
        refine ⟨by omega, fun p2 as zs H2 x2 hp2 hz hpc ez => ⟨p2, rfl, ⟨_, .inl (Rd.of hz)⟩, ?_⟩⟩
        have na := hpc.1
        refine lp_list (xs := as.map V.ref) (fun j σ H' => ∃ u1 u3 u4 u5, σ = [some (V.str t), u1, some (V.ref D), u3, u4, u5] ∧ H' p2 = some (.lst (as.map V.ref)) ∧ PcAt H' as zs ∧ Ext H1 H' ∧ ∀ q ∈ (pcs (tl t)).take j, sgP q = true) ⟨_, _, _, _, rfl, hz, hpc, x2, fun q hq => by simp at hq⟩ ?_ ?_ ?_
        · rintro j σ H' _ ⟨_, _, _, _, _, x, _⟩
          exact .inl (Rd.of x)
        · rintro j v σ H3 hv ⟨u1, u3, u4, u5, rfl, hz3, hpc3, x3, hgood⟩
          obtain ⟨a0, ha0, rfl⟩ := Gd.of_ref hv
          have hjl := (List.getElem?_eq_some_iff.mp ha0).1
          obtain ⟨z, hzj⟩ : ∃ z, zs[j]? = some z := ⟨_, List.getElem?_eq_getElem (by omega)⟩
          have hat := hpc3.2 j a0 z ha0 hzj
          have hzt : (pcs (tl t))[j]? = some (tl z) := by rw [← ez, List.getElem?_map, hzj]; rfl
          have hisp := pcs_is (List.mem_of_getElem? hzt)
          have hlz : z.length ≤ 3 := by
            rw [TL.len_tl]
            rcases hisp with ⟨a, b, e, _, _⟩ | ⟨c, e⟩ <;> rw [e] <;> simp
          have hD3 := x3 _ _ hD
          have next : ∀ b b5 : Option V, sgP (tl z) = true → (∃ u1 u3 u4 u5, [some (V.str t), b, some (V.ref D), some (V.int (posn (zs.map tl) j : Nat)), some (V.str z), b5] = [some (V.str t), u1, some (V.ref D), u3, u4, u5] ∧ H3 p2 = some (.lst (as.map V.ref)) ∧ PcAt H3 as zs ∧ Ext H1 H3 ∧ ∀ q ∈ (pcs (tl t)).take (j + 1), sgP q = true) := fun b b5 hs => by
            refine ⟨_, _, _, _, rfl, hz3, hpc3, x3, fun q hq => ?_⟩
            rw [take_snoc hzt] at hq
            rcases List.mem_append.mp hq with hq | hq
            · exact hgood q hq
            · rw [List.mem_singleton.mp hq]; exact hs
          (try simp only [tNext, tFor_eq, cBl, tOp, tC, cI, cIc, cAdd, cVar, hEq, hNe, hIn, hNotIn, hLen, hSl, tM1, tBM, cT1, cT1f, cFind3, cSplit, cPart, rNewStrs, hIsS, hTru, tAsg, gName, gSub, tRet, tRetN, tCons, tNil, tTup, tLst, tCB, tNot, tAnd, tNotV, tAndV, tOrV, tOr, V.bl.injEq, V.int.injEq, V.str.injEq, exists_eq_left', exists_eq_left, exists_eq', true_and, and_true, cIsN, L2.start, gTup, gCons, gNil, nox_K, cx_K, tCallF, tSl, tPart, tNoPart, iEnum, RZ.iZipA, iRng1, iRng2, cAbs, List.map_cons, List.map_nil, List.length_cons, List.length_nil, List.replicate, List.cons_append, List.nil_append, List.getElem?_cons_zero, List.getElem?_cons_succ, List.getElem?_nil, List.set_cons_zero, List.set_cons_succ, Nat.reduceAdd, Nat.reduceSub, Nat.zero_add, if_true, if_false, reduceIte, reduceCtorEq, Bool.false_eq_true, decide_eq_true_eq, tDrop, cMin2, cJoin, iList, tDNewK, tLc_eq, iStr, wipe])
          refine ⟨a0, _, rfl, .inl (Rd.of hat), rfl, _, _, rfl, _, _, rfl, rfl, ?_⟩
          refine ⟨by omega, ?_⟩
          rcases hisp with ⟨a, b, e, ha, hb⟩ | ⟨c, e⟩
          · have hl3 : z.length = 3 := by rw [TL.len_tl, e]; rfl
            rw [if_pos (by omega)]
            have e2 : cutS z (some (1 : Int)) none = SX.S [a, b] := TL.ext_tl (by
              rw [show (some (1 : Int)) = some ((1 : Nat) : Int) from rfl, sl_from, e]
              rfl)
            unfold tB tDNotIn
            (try simp only [tNext, tFor_eq, cBl, tOp, tC, cI, cIc, cAdd, cVar, hEq, hNe, hIn, hNotIn, hLen, hSl, tM1, tBM, cT1, cT1f, cFind3, cSplit, cPart, rNewStrs, hIsS, hTru, tAsg, gName, gSub, tRet, tRetN, tCons, tNil, tTup, tLst, tCB, tNot, tAnd, tNotV, tAndV, tOrV, tOr, V.bl.injEq, V.int.injEq, V.str.injEq, exists_eq_left', exists_eq_left, exists_eq', true_and, and_true, cIsN, L2.start, gTup, gCons, gNil, nox_K, cx_K, tCallF, tSl, tPart, tNoPart, iEnum, RZ.iZipA, iRng1, iRng2, cAbs, List.map_cons, List.map_nil, List.length_cons, List.length_nil, List.replicate, List.cons_append, List.nil_append, List.getElem?_cons_zero, List.getElem?_cons_succ, List.getElem?_nil, List.set_cons_zero, List.set_cons_succ, Nat.reduceAdd, Nat.reduceSub, Nat.zero_add, if_true, if_false, reduceIte, reduceCtorEq, Bool.false_eq_true, decide_eq_true_eq, tDrop, cMin2, cJoin, iList, tDNewK, tLc_eq, iStr, wipe])
            refine ⟨by omega, [a, b], by rw [e2], by simp, by simp, fun c hc => ?_, ?_⟩
            · rcases List.mem_cons.mp hc with rfl | hc
              · exact isHex_of ha
              · rw [List.mem_singleton.mp hc]; exact isHex_of hb
            have hoc : octP (tl z) = Hx.hexNum [a, b] := by unfold octP; rw [e]; rfl
            have hlt : octP (tl z) < 256 := octP_lt (pcs_is (List.mem_of_getElem? hzt)) fun c hc => by
              have := isSg_lt (hq.1 c (pcs_sub (List.mem_of_getElem? hzt) c hc))
              omega
            have hsp : sgP (tl z) = isSg (octP (tl z)) := by unfold sgP; rw [if_pos (by rw [← TL.len_tl]; exact hl3)]
            have dg := DGet.k (k := .inl ((octP (tl z) : Nat) : Int)) hD3
            cases hs : isSg (octP (tl z)) with
            | true =>
              rw [sgs_val hs, hoc] at dg
              refine ⟨D, _, rfl, dg, ?_⟩
              rw [if_neg (by simp)]
              exact next _ _ (by rw [hsp, hs])
            | false =>
              rw [sgs_none hlt hs, hoc] at dg
              refine ⟨D, _, rfl, dg, ?_⟩
              rw [if_pos (by rfl)]
              rw [wrongQ_here hgood hzt (by rw [hsp, hs])] at q
              rw [ez]
              unfold tMkO
              (try simp only [tNext, tFor_eq, cBl, tOp, tC, cI, cIc, cAdd, cVar, hEq, hNe, hIn, hNotIn, hLen, hSl, tM1, tBM, cT1, cT1f, cFind3, cSplit, cPart, rNewStrs, hIsS, hTru, tAsg, gName, gSub, tRet, tRetN, tCons, tNil, tTup, tLst, tCB, tNot, tAnd, tNotV, tAndV, tOrV, tOr, V.bl.injEq, V.int.injEq, V.str.injEq, exists_eq_left', exists_eq_left, exists_eq', true_and, and_true, cIsN, L2.start, gTup, gCons, gNil, nox_K, cx_K, tCallF, tSl, tPart, tNoPart, iEnum, RZ.iZipA, iRng1, iRng2, cAbs, List.map_cons, List.map_nil, List.length_cons, List.length_nil, List.replicate, List.cons_append, List.nil_append, List.getElem?_cons_zero, List.getElem?_cons_succ, List.getElem?_nil, List.set_cons_zero, List.set_cons_succ, Nat.reduceAdd, Nat.reduceSub, Nat.zero_add, if_true, if_false, reduceIte, reduceCtorEq, Bool.false_eq_true, decide_eq_true_eq, tDrop, cMin2, cJoin, iList, tDNewK, tLc_eq, iStr, wipe])
              exact ⟨by decide, ei_ok fun d H5 he5 hd5 => q d H5 ((x1.tr x3).tr he5) hd5⟩
          · have hl1 : z.length = 1 := by rw [TL.len_tl, e]; rfl
            rw [if_neg (by omega)]
            exact next _ _ (by unfold sgP; rw [e]; rfl)
        · rintro σ H3 ⟨u1, u3, u4, u5, rfl, hz3, hpc3, x3, hgood⟩
          rw [List.length_map, na, show zs.length = (pcs (tl t)).length from by rw [← ez, List.length_map], List.take_length] at hgood
          exact hN _ _ ⟨_, _, _, _, rfl, x3, hgood⟩
      · rintro σ H3 ⟨u1, u3, u4, u5, rfl, x3, hgood⟩
        (try simp only [tSeq, tNext, tIfS, tFor_eq, cBl, tOp, tC, cI, cIc, cAdd, cVar, hEq, hNe, hIn, hNotIn, hLen, hSl, tM1, tBM, cT1, cT1f, cFind3, cSplit, cPart, rNewStrs, hIsS, hTru, tAsg, gName, gSub, tRet, tRetN, tCons, tNil, tTup, tLst, tCB, tNot, tAnd, tNotV, tAndV, tOrV, tOr, V.bl.injEq, V.int.injEq, V.str.injEq, exists_eq_left', exists_eq_left, exists_eq', true_and, and_true, cIsN, L2.start, gTup, gCons, gNil, nox_K, cx_K, tCallF, tSl, tPart, tNoPart, iEnum, RZ.iZipA, iRng1, iRng2, cAbs, List.map_cons, List.map_nil, List.length_cons, List.length_nil, List.replicate, List.cons_append, List.nil_append, List.getElem?_cons_zero, List.getElem?_cons_succ, List.getElem?_nil, List.set_cons_zero, List.set_cons_succ, Nat.reduceAdd, Nat.reduceSub, Nat.zero_add, if_true, if_false, reduceIte, reduceCtorEq, Bool.false_eq_true, decide_eq_true_eq, tDrop, cMin2, cJoin, iList, tDNewK, tLc_eq, iStr, wipe])
        have hro : ROk (tl t) := ⟨hq, hgood⟩
        rw [wrongQ_none hgood] at q
        have eamp : Str.ofString "&" = ⟨#[38]⟩ := TL.ext_tl (by decide +kernel)
        have hsc : (Txt.split t (Str.ofString "&")).map tl = cut 38 (tl t) := by rw [eamp]; exact split_cut t 38 (by omega)
        have hD3 := x3 _ _ hD
        have hcl := cut_len 38 (tl t)
        refine ⟨by decide, by omega, fun p4 hp4 => ⟨p4, rfl, ⟨_, .inl (Rd.of upd_self)⟩, fun E0 hE => ?_⟩⟩
        have hD4 := upd_old (o := .lst ((Txt.split t (Str.ofString "&")).map V.str)) hD3 hp4
        have hl4 : (upd H3 p4 (.lst ((Txt.split t (Str.ofString "&")).map V.str))) p4 = some (.lst ((Txt.split t (Str.ofString "&")).map V.str)) := upd_self
        have x4 : Ext H (upd H3 p4 (.lst ((Txt.split t (Str.ofString "&")).map V.str))) := (x1.tr x3).tr (Ext.rf.fresh hp4)
        generalize (upd H3 p4 (.lst ((Txt.split t (Str.ofString "&")).map V.str))) = H4 at *
        generalize Txt.split t (Str.ofString "&") = zs at *
        have nzs : zs.length = (cut 38 (tl t)).length := by rw [← hsc, List.length_map]
        refine lcp_list (xs := zs.map V.str) (fun i H' => ∃ (as : List Addr) (ps : List Pr), H' E0 = some (.lst (as.map V.ref)) ∧ as.length = i ∧ Gd.TAt H' as (ps.map rowPr) ∧ ps.map prT = ((cut 38 (tl t)).take i).map itmT ∧ Ext H4 H') ⟨[], [], upd_self, rfl, Gd.TAt.nil, rfl, Ext.rf.fresh hE⟩ ?_ ?_ ?_
        · rintro i H' _ ⟨_, _, _, _, _, _, x⟩
          exact .inl (Rd.of (x _ _ hl4))
        · rintro i v H' hv ⟨as, ps, hu, nu, hta, eu, x⟩
          obtain ⟨z, hz, rfl⟩ := Gd.of_strs hv
          have hzt : (cut 38 (tl t))[i]? = some (tl z) := by rw [← hsc, List.getElem?_map, hz]; rfl
          have hm := List.mem_of_getElem? hzt
          have hil := (List.getElem?_eq_some_iff.mp hz).1
          have hzl := cut_mlen hm
          have lz := TL.len_tl z
          unfold gName
          (try simp only [tSeq, tNext, tIfS, tFor_eq, cBl, tOp, tC, cI, cIc, cAdd, cVar, hEq, hNe, hIn, hNotIn, hLen, hSl, tM1, tBM, cT1, cT1f, cFind3, cSplit, cPart, rNewStrs, hIsS, hTru, tAsg, gName, gSub, tRet, tRetN, tCons, tNil, tTup, tLst, tCB, tNot, tAnd, tNotV, tAndV, tOrV, tOr, V.bl.injEq, V.int.injEq, V.str.injEq, exists_eq_left', exists_eq_left, exists_eq', true_and, and_true, cIsN, L2.start, gTup, gCons, gNil, nox_K, cx_K, tCallF, tSl, tPart, tNoPart, iEnum, RZ.iZipA, iRng1, iRng2, cAbs, List.map_cons, List.map_nil, List.length_cons, List.length_nil, List.replicate, List.cons_append, List.nil_append, List.getElem?_cons_zero, List.getElem?_cons_succ, List.getElem?_nil, List.set_cons_zero, List.set_cons_succ, Nat.reduceAdd, Nat.reduceSub, Nat.zero_add, if_true, if_false, reduceIte, reduceCtorEq, Bool.false_eq_true, decide_eq_true_eq, tDrop, cMin2, cJoin, iList, tDNewK, tLc_eq, iStr, wipe])
          simp only [tYes, if_true]
          refine ⟨by omega, rok_sub hro (cut_mem 38 _ _ hm) (pcs_cut no38 _ _ (Nat.le_refl _) _ hm), x _ _ hD4, fun a r H5 x5 ha0 ha er => ?_⟩
          refine ⟨_, x5 _ _ hu, by rw [List.length_map]; omega, as ++ [a], ps ++ [r], by rw [List.map_append]; exact upd_self, by rw [List.length_append, nu]; rfl, ?_, ?_, (x.tr x5).new hE⟩
          · rw [List.map_append]
            exact ((hta.ext x5).at' ha).updL (x5 _ _ hu)
          · rw [List.map_append, eu, take_snoc hzt, List.map_append]
            show _ ++ [prT r] = _
            rw [er]
            rfl
        · rintro H' ⟨as, ps, hu, nu, hta, eu, x⟩
          refine q E0 as ps H' (x4.tr x) (ext_none x4 hE) hu hta ?_
          rw [eu]
          rw [List.length_map, nzs, List.take_length] at *
          unfold prsT
          rw [if_neg hne]
end
end Da
set_option Elab.async false
set_option linter.all false
set_option maxRecDepth 100000
set_option maxHeartbeats 4000000
namespace Da
open PySem PySem.Spec PyProof.Rows L2 Hd Xs Fx Mi Ms Md Mq Mp Mr ClX Xr
open TL (tl joinL)
/-! ### values of a key -/
theorem prT_inj : ∀ {ps qs : List Pr}, ps.map prT = qs.map prT → ps = qs
  | [], [], _ => rfl
  | [], _ :: _, h => nomatch h
  | _ :: _, [], h => nomatch h
  | p :: ps, q :: qs, h => by
    rw [List.map_cons, List.map_cons] at h
    injection h with h1 h2
    rw [prT_inj h2]
    congr 1
    obtain ⟨a, b⟩ := p
    obtain ⟨a2, b2⟩ := q
    unfold prT at h1
    injection h1 with h1 h3
    have e1 : a = a2 := TL.ext_tl h1
    have e2 : b = b2 := by
      cases b with
      | none => cases b2 with
        | none => rfl
        | some _ => cases h3
      | some x => cases b2 with
        | none => cases h3
        | some y => rw [TL.ext_tl (Option.some.inj h3)]
    rw [e1, e2]
def vfs (ps : List Pr) (key : Str) : List (Option Str) := (ps.filter fun p => decide (p.1 = key)).map (·.2)
theorem vfs_snoc {ps : List Pr} {p : Pr} {key : Str} : vfs (ps ++ [p]) key = if p.1 = key then vfs ps key ++ [p.2] else vfs ps key := by
  unfold vfs
  rw [List.filter_append, List.map_append]
  by_cases h : p.1 = key
  · rw [if_pos h, List.filter_cons_of_pos (by simpa using h)]
    rfl
  · rw [if_neg h, List.filter_cons_of_neg (by simpa using h)]
    simp
theorem vfs_len (ps : List Pr) (key : Str) : (vfs ps key).length ≤ ps.length := by
  unfold vfs
  rw [List.length_map]
  exact List.length_filter_le ..
def spVals (K : PySem.W.Frag) : Sp := fun vs H Q E => match vs with
  | [.str t, .str key, d] => t.length ≤ 20000 ∧ key.length ≤ 20000 ∧ QOk (tl t) ∧ (match wrongQ (tl t) with
    | some i => ∀ d H', Ext H H' → H' d = some (.xd [("place", .int (posn (pcs (tl t)) i : Nat))]) → E (.ref (He.ga K "BadQuery")) (some d) H'
    | none => ∃ ps : List Pr, ps.map prT = prsT (tl t) ∧ (∀ p ∈ ps, p.1.length ≤ 20000) ∧ (∀ p H', vfs ps key ≠ [] → Ext H H' → H' p = some (.tup ((vfs ps key).map ovS)) → Q (.ref p) H') ∧ ∀ H', vfs ps key = [] → Ext H H' → Q d H')
  | _ => False
section
variable {P : Program} {w : World} {K : PySem.W.Frag} {mg : Str → Option Value} {base : Heap}
theorem ok_values_of (c : Ct w K mg) : OkK P w K mg base (L2.CX P w) 7 (He.ga K "values_of") 2 ["query", "key", "default"] ["default"] [.ref (kwAt "values_of" "default" K)] (spVals K) := by
  obtain ⟨fd, F⟩ := F_values_of c
  refine ⟨fd, F.ok sc_values_of (fun vs H Q E h => ?_) (fun cdv A outer s H vs Q E hr h => ⟨_, ((pss_cons (ps_setLc (i := 5) rfl (sc_values_of).nd rfl rfl (sw_true rfl rfl (by rfl) (by rfl)) (pi_list (pf (E := E) (ok_pairs c) (hr.mono (by decide)) (g_pairs c) (k_pairs c) (passes_call (takes_of rfl rfl rfl rfl) (fun _ _ _ _ z => z)) (pa_cons (cv 0) pa_nil))) (blkOk_by (own := [("name", 3), ("value", 4)]) (by rfl)) (fun _ _ _ _ _ => pg_tupB (n := 2) rfl (pgs_cons (pg_name (i := 3) (sc_values_of).nd rfl (Or.inl rfl)) (pgs_cons (pg_name (i := 4) (sc_values_of).nd rfl (Or.inl rfl)) pgs_nil))) (fun _ _ _ _ _ => (pts_one (ctc (r := hEq K) (ho_eq (hu64 hr)) (cv 3) (cv 1) (by rfl)))) (fun _ _ _ _ _ => (cv 4))) (pss_one (ps_ret (pe_ifExp (ctc co_gt (pe_callB hc_len (by rfl) (b_len c) (by decide +kernel) (pa_cons (cv 5) pa_nil)) pe_int (by rfl)) (pe_callTy call_tuple_of (by rfl) (b_tuple c) (by decide +kernel) (pa_cons (cv 5) pa_nil)) (cv 2)))))), ?_⟩), ?_, ?_⟩
  · unfold spVals at h
    split at h
    · rfl
    · exact h.elim
  · unfold spVals at h
    split at h
    case h_2 => exact h.elim
    rename_i t key d
    obtain ⟨ht, hk, hqo, q0⟩ := h
    have sl := sl
    refine seqStep ?_
    (try simp only [tNext, tFor_eq, cBl, tOp, tC, cI, cIc, cAdd, cVar, hEq, hNe, hIn, hNotIn, hLen, hSl, tM1, tBM, cT1, cT1f, cFind3, cSplit, cPart, rNewStrs, hIsS, hTru, tAsg, gName, gSub, tRet, tRetN, tCons, tNil, tTup, tLst, tCB, tNot, tAnd, tNotV, tAndV, tOrV, tOr, V.bl.injEq, V.int.injEq, V.str.injEq, exists_eq_left', exists_eq_left, exists_eq', true_and, and_true, cIsN, L2.start, gTup, gCons, gNil, nox_K, cx_K, tCallF, tSl, tPart, tNoPart, iEnum, RZ.iZipA, iRng1, iRng2, cAbs, List.map_cons, List.map_nil, List.length_cons, List.length_nil, List.replicate, List.cons_append, List.nil_append, List.getElem?_cons_zero, List.getElem?_cons_succ, List.getElem?_nil, List.set_cons_zero, List.set_cons_succ, Nat.reduceAdd, Nat.reduceSub, Nat.zero_add, if_true, if_false, reduceIte, reduceCtorEq, Bool.false_eq_true, decide_eq_true_eq, tDrop, cMin2, cJoin, iList, tDNewK, tLc_eq, iStr, wipe])
    refine ⟨ht, hqo, ?_⟩
    cases hw : wrongQ (tl t) with
    | some i => rw [hw] at q0; exact q0
    | none =>
    rw [hw] at q0
    obtain ⟨ps, eps, hpl, q1, q2⟩ := q0
    dsimp only
    intro p as ps2 H1 x1 hp0 hp hta e2
    obtain rfl : ps2 = ps := prT_inj (e2.trans eps.symm)
    refine ⟨p, rfl, ⟨_, .inl (Rd.of hp)⟩, fun E0 hE => ?_⟩
    have nps : ps2.length ≤ 30000 := by
      have := congrArg List.length eps
      unfold prsT at this
      have h2 := cut_len 38 (tl t)
      rw [← TL.len_tl] at h2
      split at this <;> simp only [List.length_map, List.length_nil] at this <;> omega
    have nas : as.length = ps2.length := by rw [hta.1, List.length_map]
    have hvl := vfs_len ps2 key
    refine lcp_list (xs := as.map V.ref) (fun i H' => H' E0 = some (.lst ((vfs (ps2.take i) key).map ovS)) ∧ Ext H1 H') ⟨upd_self, Ext.rf.fresh hE⟩ ?_ ?_ ?_
    · rintro i H' _ ⟨_, x⟩
      exact .inl (Rd.of (x _ _ hp))
    · rintro i v H' hv ⟨hu, x⟩
      obtain ⟨a0, ha0, rfl⟩ := Gd.of_ref hv
      obtain ⟨r, hr0, ht0⟩ := hta.get ha0
      rw [List.getElem?_map] at hr0
      obtain ⟨pp, hpp, rfl⟩ : ∃ pp, ps2[i]? = some pp ∧ rowPr pp = r := by
        cases e : ps2[i]? with
        | none => rw [e] at hr0; cases hr0
        | some n => rw [e] at hr0; exact ⟨n, rfl, Option.some.inj hr0⟩
      have hpm := hpl _ (List.mem_of_getElem? hpp)
      have hil := (List.getElem?_eq_some_iff.mp hpp).1
      have ht1 := x _ _ ht0
      unfold rowPr at ht1
      have hvi := vfs_len (ps2.take i) key
      rw [List.length_take] at hvi
      refine ⟨a0, _, rfl, .inl (Rd.of ht1), rfl, _, _, rfl, _, _, rfl, ?_⟩
      (try simp only [tNext, tFor_eq, cBl, tOp, tC, cI, cIc, cAdd, cVar, hEq, hNe, hIn, hNotIn, hLen, hSl, tM1, tBM, cT1, cT1f, cFind3, cSplit, cPart, rNewStrs, hIsS, hTru, tAsg, gName, gSub, tRet, tRetN, tCons, tNil, tTup, tLst, tCB, tNot, tAnd, tNotV, tAndV, tOrV, tOr, V.bl.injEq, V.int.injEq, V.str.injEq, exists_eq_left', exists_eq_left, exists_eq', true_and, and_true, cIsN, L2.start, gTup, gCons, gNil, nox_K, cx_K, tCallF, tSl, tPart, tNoPart, iEnum, RZ.iZipA, iRng1, iRng2, cAbs, List.map_cons, List.map_nil, List.length_cons, List.length_nil, List.replicate, List.cons_append, List.nil_append, List.getElem?_cons_zero, List.getElem?_cons_succ, List.getElem?_nil, List.set_cons_zero, List.set_cons_succ, Nat.reduceAdd, Nat.reduceSub, Nat.zero_add, if_true, if_false, reduceIte, reduceCtorEq, Bool.false_eq_true, decide_eq_true_eq, tDrop, cMin2, cJoin, iList, tDNewK, tLc_eq, iStr, wipe])
      rw [take_snoc hpp, vfs_snoc]
      by_cases hk2 : pp.1 = key
      · rw [if_pos hk2, if_pos hk2, List.map_append]
        exact ⟨_, hu, by rw [List.length_map]; omega, upd_self, x.new hE⟩
      · rw [if_neg hk2, if_neg hk2]
        exact ⟨hu, x⟩
    · rintro H' ⟨hu, x⟩
      rw [List.length_map, nas, List.take_length] at hu
      unfold tIf
      (try simp only [tNext, tFor_eq, cBl, tOp, tC, cI, cIc, cAdd, cVar, hEq, hNe, hIn, hNotIn, hLen, hSl, tM1, tBM, cT1, cT1f, cFind3, cSplit, cPart, rNewStrs, hIsS, hTru, tAsg, gName, gSub, tRet, tRetN, tCons, tNil, tTup, tLst, tCB, tNot, tAnd, tNotV, tAndV, tOrV, tOr, V.bl.injEq, V.int.injEq, V.str.injEq, exists_eq_left', exists_eq_left, exists_eq', true_and, and_true, cIsN, L2.start, gTup, gCons, gNil, nox_K, cx_K, tCallF, tSl, tPart, tNoPart, iEnum, RZ.iZipA, iRng1, iRng2, cAbs, List.map_cons, List.map_nil, List.length_cons, List.length_nil, List.replicate, List.cons_append, List.nil_append, List.getElem?_cons_zero, List.getElem?_cons_succ, List.getElem?_nil, List.set_cons_zero, List.set_cons_succ, Nat.reduceAdd, Nat.reduceSub, Nat.zero_add, if_true, if_false, reduceIte, reduceCtorEq, Bool.false_eq_true, decide_eq_true_eq, tDrop, cMin2, cJoin, iList, tDNewK, tLc_eq, iStr, wipe])
      rw [hu]
      simp only
      rw [List.length_map]
      by_cases h0 : vfs ps2 key = []
      · rw [h0, if_neg (by decide)]
        exact q2 _ h0 (x1.tr x)
      · have hp0 : 0 < (vfs ps2 key).length := List.length_pos_iff.mpr h0
        rw [if_pos (by omega)]
        exact ⟨_, _, rfl, .inl ⟨.inl (Rd.of hu), fun l hl => q1 l _ h0 ((x1.tr x).fresh hl) upd_self⟩⟩
  · exact FunD.binds0 (kws := [("default", V.ref (kwAt "values_of" "default" K))]) F 2 (List.cons_ne_nil _ _) rfl fun D doc pm an cdv ct us ks h1 h2 => match us, ks, h1, h2 with
      | [u, u2], [k], _, _ => ⟨_, _, _, _, _, _, rfl, rfl, rfl⟩
  · obtain ⟨mv, b⟩ := FunD.kbinds0 (kws := [("default", V.ref (kwAt "values_of" "default" K))]) (ps := ["query", "key", "default"]) F 2 ["default"] [] (fun vs _ zs => vs ++ zs) (List.cons_ne_nil _ _) (fun _ h => nomatch h) (fun r1 _ r3 => r1.append r3)
      fun D doc pm an cdv ct us mv ws h1 h2 h3 => match us, mv, ws, h1, h2, h3 with
        | [u, u2], [], [k], _, _, _ => rfl
    exact ⟨_, b⟩
end
end Da
set_option Elab.async false
set_option linter.all false
set_option maxRecDepth 100000
set_option maxHeartbeats 4000000
namespace Da
open PySem PySem.Spec PyProof.Rows L2 Hd Xs Fx Mi Ms Md Mq Mp Mr ClX Xr
open TL (tl joinL)
/-! ### drawn queries -/
def sgnS (k : Nat) : Str := if isSg k = true then ⟨#[k]⟩ else Str.ofString ""
theorem sgs_at : ∀ k < 256, isSg k = true → atI SGS.cps.toList (((k : Nat) : Int) - 32 - (if decide ((37 : Int) < ((k : Nat) : Int)) = true then 1 else 0)) = some k := by decide +kernel
def spSign : Sp := fun vs H Q _ => match vs with
  | [.int n] => ∃ k : Nat, n = (k : Nat) ∧ k < 256 ∧ Q (.str (sgnS k)) H
  | _ => False
/-- a sign, or an escape of a sign -/
def GP (p : T) : Prop := (∃ a b, p = [94, a, b] ∧ HEXT.contains a = true ∧ HEXT.contains b = true ∧ isSg (octP p) = true) ∨ ∃ c, c ≠ 94 ∧ isSg c = true ∧ p = [c]
def GdT (l : T) : Prop := ∃ ps : List T, l = ps.flatten ∧ ∀ p ∈ ps, GP p
theorem pcs_flatten : ∀ {ps : List T}, (∀ p ∈ ps, (∃ a b, p = [94, a, b] ∧ HEXT.contains a = true ∧ HEXT.contains b = true) ∨ ∃ c, c ≠ 94 ∧ p = [c]) → pcs ps.flatten = ps
  | [], _ => rfl
  | p :: ps, h => by
    have ih := pcs_flatten (ps := ps) fun q hq => h q (List.mem_cons_of_mem _ hq)
    rw [List.flatten_cons]
    rcases h p (List.mem_cons_self ..) with ⟨a, b, rfl, ha, hb⟩ | ⟨c, hc, rfl⟩
    · have he : escAt ([94, a, b] ++ ps.flatten) = true := by
        show (94 == 94 && (HEXT.contains a && HEXT.contains b)) = true
        rw [ha, hb]
        rfl
      have hs : sz ([94, a, b] ++ ps.flatten) = 3 := by unfold sz; rw [he]; rfl
      rw [pcs_step (by simp), hs]
      show [94, a, b] :: pcs ps.flatten = _
      rw [ih]
    · have he : escAt ([c] ++ ps.flatten) = false := by
        show (c == 94 && Mi.hex2 ps.flatten) = false
        have : (c == 94) = false := by simpa using hc
        rw [this, Bool.false_and]
      have hs : sz ([c] ++ ps.flatten) = 1 := by unfold sz; rw [he]; rfl
      rw [pcs_step (by simp), hs]
      show [c] :: pcs ps.flatten = _
      rw [ih]
theorem gp_pc {p : T} (h : GP p) : (∃ a b, p = [94, a, b] ∧ HEXT.contains a = true ∧ HEXT.contains b = true) ∨ ∃ c, c ≠ 94 ∧ p = [c] :=
  h.imp (fun ⟨a, b, e, ha, hb, _⟩ => ⟨a, b, e, ha, hb⟩) (fun ⟨c, h1, _, h3⟩ => ⟨c, h1, h3⟩)
theorem hext_sg : ∀ c ∈ HEXT, isSg c = true := by decide +kernel
theorem gd_ok {l : T} (h : GdT l) : ROk l := by
  obtain ⟨ps, rfl, hp⟩ := h
  have e := pcs_flatten fun p h => gp_pc (hp p h)
  refine ⟨⟨fun c hc => ?_, fun p h => ?_⟩, fun p h => ?_⟩
  · obtain ⟨p, h1, h2⟩ := List.mem_flatten.mp hc
    rcases hp p h1 with ⟨a, b, rfl, ha, hb, _⟩ | ⟨d, _, hd, rfl⟩
    · rcases List.mem_cons.mp h2 with rfl | h2
      · decide
      rcases List.mem_cons.mp h2 with rfl | h2
      · exact hext_sg _ (List.contains_iff_mem.mp ha)
      · rw [List.mem_singleton.mp h2]; exact hext_sg _ (List.contains_iff_mem.mp hb)
    · rw [List.mem_singleton.mp h2]; exact hd
  · rw [e] at h
    rcases hp p h with ⟨a, b, rfl, _⟩ | ⟨d, hd, _, rfl⟩
    · simp
    · intro z
      exact hd (by simpa using z)
  · rw [e] at h
    unfold sgP
    rcases hp p h with ⟨a, b, rfl, _, _, hs⟩ | ⟨d, hd, _, rfl⟩
    · exact hs
    · rfl
theorem gd_nil : GdT [] := ⟨[], rfl, (fun p hp => by cases hp)⟩
theorem gd_app {a b : T} (ha : GdT a) (hb : GdT b) : GdT (a ++ b) := by
  obtain ⟨ps, rfl, h1⟩ := ha
  obtain ⟨qs, rfl, h2⟩ := hb
  exact ⟨ps ++ qs, by rw [List.flatten_append], fun p hp => (List.mem_append.mp hp).elim (h1 p) (h2 p)⟩
theorem gd_gp {p : T} (h : GP p) : GdT p := ⟨[p], by simp, fun q hq => by rw [List.mem_singleton.mp hq]; exact h⟩
theorem gd_one {c : Nat} (h : c ≠ 94) (hs : isSg c = true) : GdT [c] := gd_gp (.inr ⟨c, h, hs, rfl⟩)
theorem gd_join {c : Nat} (h : c ≠ 94) (hs : isSg c = true) : ∀ {ls : List T}, (∀ l ∈ ls, GdT l) → GdT (joinL [c] ls)
  | [], _ => gd_nil
  | [l], hl => hl l (List.mem_cons_self ..)
  | l :: m :: ls, hl => by
    have ih := gd_join h hs (ls := m :: ls) fun q hq => hl q (List.mem_cons_of_mem _ hq)
    show GdT (l ++ ([c] ++ joinL [c] (m :: ls)))
    exact gd_app (hl l (List.mem_cons_self ..)) (gd_app (gd_one h hs) ih)
/-- the signs that a drawn query is made of -/
def QSG : Str := PLS ++ Str.ofString "!$'()*+,;:@/?="
theorem qsg_ok : ∀ c ∈ tl QSG, c ≠ 94 ∧ isSg c = true := by decide +kernel
theorem drt_pcs {l : T} {m : Nat} (h : DrT (tl QSG) m l) : ∀ p ∈ pcs l, (∃ a b, p = [94, a, b] ∧ HEXT.contains a = true ∧ HEXT.contains b = true) ∨ ∃ c, c ≠ 94 ∧ isSg c = true ∧ p = [c] := by
  obtain ⟨ps, rfl, _, hp⟩ := h
  have h2 : ∀ p ∈ ps, (∃ a b, p = [94, a, b] ∧ HEXT.contains a = true ∧ HEXT.contains b = true) ∨ ∃ c, c ≠ 94 ∧ isSg c = true ∧ p = [c] := fun p h => (hp p h).imp id fun ⟨c, hc, e⟩ => ⟨c, (qsg_ok c hc).1, (qsg_ok c hc).2, e⟩
  rw [pcs_flatten fun p h => (h2 p h).imp id fun ⟨c, h1, _, h3⟩ => ⟨c, h1, h3⟩]
  exact h2
theorem drt_num {l : T} {m : Nat} (h : DrT (tl QSG) m l) : (pcs l).length ≤ m ∧ l.length ≤ 3 * m := by
  obtain ⟨ps, rfl, hm, hp⟩ := h
  have h2 : ∀ p ∈ ps, (∃ a b, p = [94, a, b] ∧ HEXT.contains a = true ∧ HEXT.contains b = true) ∨ ∃ c, c ≠ 94 ∧ p = [c] := fun p h => (hp p h).imp id fun ⟨c, hc, e⟩ => ⟨c, (qsg_ok c hc).1, e⟩
  rw [pcs_flatten h2]
  refine ⟨hm, ?_⟩
  rw [List.length_flatten]
  have : ∀ qs : List T, (∀ p ∈ qs, p.length ≤ 3) → (qs.map List.length).sum ≤ 3 * qs.length := fun qs => by
    induction qs with
    | nil => intro _; simp
    | cons q qs ih =>
      intro h
      have h1 := h q (List.mem_cons_self ..)
      have := ih fun p hp => h p (List.mem_cons_of_mem _ hp)
      rw [List.map_cons, List.sum_cons, List.length_cons]
      omega
  have := this ps fun p h => by rcases h2 p h with ⟨a, b, rfl, _⟩ | ⟨c, _, rfl⟩ <;> simp
  omega
def spQry : Sp := fun vs H Q _ => match vs with
  | [.ref b, .int m] => Bg H b ∧ m = 6 ∧ ∀ z H', z.length ≤ 300 → GdT (tl z) → Bg H' b → Kp b H H' → Q (.str z) H'
  | _ => False
def spBare : Sp := fun vs H Q _ => match vs with
  | [.str t] => t.length ≤ 20000 ∧ ROk (tl t) ∧ ∀ z H', Ext H H' → tl z = bareT (tl t) → Q (.str z) H'
  | _ => False
def spLps : Sp := fun vs H Q _ => match vs with
  | [.str t] => t.length ≤ 20000 ∧ ROk (tl t) ∧ ∀ (p : Addr) (as : List Addr) (ps : List Pr) H', Ext H H' → H p = none → H' p = some (.lst (as.map V.ref)) → Gd.TAt H' as (ps.map rowPr) → ps.map prT = prsT (tl t) → Q (.ref p) H'
  | _ => False
section
variable {P : Program} {w : World} {K : PySem.W.Frag} {mg : Str → Option Value} {base : Heap}
theorem ok__law_sign (c : Ct w K mg) : OkF P w K mg base CX0 2 (He.ga K "_law_sign") ["code"] (spSign) := by
  obtain ⟨fd, F⟩ := F__law_sign c
  refine ⟨fd, F.ok sc__law_sign (fun vs H Q E h => ?_) (fun cdv A outer s H vs Q E hr h => ⟨_, PSs.nox ((pss_cons (ps_if (PW.pt (pw_or (pt_not (pt_chain co_le co_le pe_int (cv 0) pe_int)) (pw_or1 (ctc (ho_eq (hu64 hr)) (cv 0) pe_int (by rfl))))) (pss_one (ps_ret pe_str)) pss_nil) (pss_one (ps_ret (hix (pf0 (ok__law_signs c) (hr.mono (by decide)) (g__law_signs c) (k__law_signs c) pass0) (pe_op co_sub (pe_op co_sub (cv 0) pe_int) (pe_callTy hc_int1 (by rfl) (b_int c) (by decide +kernel) (pa_cons (pe_cmpR co_gt (cv 0) pe_int (by rfl)) pa_nil)))))))), ?_⟩), F.bindsN fun _ _ _ _ _ _ us hl => match us, hl with | [_], _ => rfl⟩
  · unfold spSign at h
    split at h
    · rfl
    · exact h.elim
  · unfold spSign at h
    split at h
    case h_2 => exact h.elim
    rename_i n
    obtain ⟨k, rfl, hk, q⟩ := h
    (try simp only [tSeq, tNext, tIfS, tFor_eq, cBl, tOp, tC, cI, cIc, cAdd, cVar, hEq, hNe, hIn, hNotIn, hLen, hSl, tM1, tBM, cT1, cT1f, cFind3, cSplit, cPart, rNewStrs, hIsS, hTru, tAsg, gName, gSub, tRet, tRetN, tCons, tNil, tTup, tLst, tCB, tNot, tAnd, tNotV, tAndV, tOrV, tOr, V.bl.injEq, V.int.injEq, V.str.injEq, exists_eq_left', exists_eq_left, exists_eq', true_and, and_true, cIsN, L2.start, gTup, gCons, gNil, nox_K, cx_K, tCallF, tSl, tPart, tNoPart, iEnum, RZ.iZipA, iRng1, iRng2, cAbs, List.map_cons, List.map_nil, List.length_cons, List.length_nil, List.replicate, List.cons_append, List.nil_append, List.getElem?_cons_zero, List.getElem?_cons_succ, List.getElem?_nil, List.set_cons_zero, List.set_cons_succ, Nat.reduceAdd, Nat.reduceSub, Nat.zero_add, if_true, if_false, reduceIte, reduceCtorEq, Bool.false_eq_true, decide_eq_true_eq, tDrop, cMin2, cJoin, iList, tDNewK, tLc_eq, iStr, wipe])
    unfold tTest
    simp only [tChain]
    (try simp only [tSeq, tNext, tIfS, tFor_eq, cBl, tOp, tC, cI, cIc, cAdd, cVar, hEq, hNe, hIn, hNotIn, hLen, hSl, tM1, tBM, cT1, cT1f, cFind3, cSplit, cPart, rNewStrs, hIsS, hTru, tAsg, gName, gSub, tRet, tRetN, tCons, tNil, tTup, tLst, tCB, tNot, tAnd, tNotV, tAndV, tOrV, tOr, V.bl.injEq, V.int.injEq, V.str.injEq, exists_eq_left', exists_eq_left, exists_eq', true_and, and_true, cIsN, L2.start, gTup, gCons, gNil, nox_K, cx_K, tCallF, tSl, tPart, tNoPart, iEnum, RZ.iZipA, iRng1, iRng2, cAbs, List.map_cons, List.map_nil, List.length_cons, List.length_nil, List.replicate, List.cons_append, List.nil_append, List.getElem?_cons_zero, List.getElem?_cons_succ, List.getElem?_nil, List.set_cons_zero, List.set_cons_succ, Nat.reduceAdd, Nat.reduceSub, Nat.zero_add, if_true, if_false, reduceIte, reduceCtorEq, Bool.false_eq_true, decide_eq_true_eq, tDrop, cMin2, cJoin, iList, tDNewK, tLc_eq, iStr, wipe])
    have fin : isSg k = false → Q (V.str (Str.ofString "")) H := fun e => by
      unfold sgnS at q
      rw [e, if_neg (by decide)] at q
      exact q
    by_cases h1 : (32 : Int) ≤ ((k : Nat) : Int)
    · rw [if_pos h1]
      by_cases h2 : ((k : Nat) : Int) ≤ 126
      · rw [if_neg (by rw [decide_eq_true h2]; decide)]
        by_cases h3 : ((k : Nat) : Int) = 37
        · rw [if_pos h3]
          refine fin ?_
          unfold isSg
          rw [decide_eq_false (show ¬ k ≠ 37 by omega), Bool.and_false, Bool.and_false]
        · rw [if_neg h3]
          have hs : isSg k = true := by
            unfold isSg
            rw [decide_eq_true (show 32 ≤ k by omega), decide_eq_true (show k ≤ 126 by omega), decide_eq_true (show k ≠ 37 by omega)]
            rfl
          have hat := sgs_at k hk hs
          unfold sgnS at q
          rw [hs, if_pos rfl] at q
          exact hIx_str (K := K) (by decide) hat q
      · rw [if_pos (by rw [decide_eq_false h2]; rfl)]
        refine fin ?_
        unfold isSg
        rw [decide_eq_false (show ¬ k ≤ 126 by omega), Bool.false_and, Bool.and_false]
    · rw [if_neg h1, if_pos (show (!false) = true from rfl)]
      refine fin ?_
      unfold isSg
      rw [decide_eq_false (show ¬ 32 ≤ k by omega), Bool.false_and]
theorem ok__law_bare (c : Ct w K mg) : OkF P w K mg base CX0 4 (He.ga K "_law_bare") ["text"] (spBare) := by
  obtain ⟨fd, F⟩ := F__law_bare c
  refine ⟨fd, F.ok sc__law_bare (fun vs H Q E h => ?_) (fun cdv A outer s H vs Q E hr h => ⟨_, PSs.nox ((pss_cons (ps_set (i := 1) (sc__law_bare).nd rfl (Or.inl rfl) pe_str) (pss_cons (ps_for PassesOwn.never rfl (pi_list (pf (ok__law_pieces c) (hr.mono (by decide)) (g__law_pieces c) (k__law_pieces c) pass0 (pa_cons (cv 0) pa_nil))) (pg_name (i := 2) (sc__law_bare).nd rfl (Or.inl rfl)) (pss_one (ps_set (i := 1) (sc__law_bare).nd rfl (Or.inl rfl) (pe_op co_add (cv 1) (pe_ifExp (ctc (ho_eq (hu64 hr)) (pe_callB hc_len (by rfl) (b_len c) (by decide +kernel) (pa_cons (cv 2) pa_nil)) pe_int (by rfl)) (pf (ok__law_sign c) (hr.mono (by decide)) (g__law_sign c) (k__law_sign c) pass0 (pa_cons (pf (ok__law_octet c) (hr.mono (by decide)) (g__law_octet c) (k__law_octet c) pass0 (pa_cons (cv 2) (pa_cons pe_int pa_nil))) pa_nil)) (cv 2)))))) (pss_one (ps_ret (cv 1)))))), ?_⟩), F.bindsN fun _ _ _ _ _ _ us hl => match us, hl with | [_], _ => rfl⟩
  · unfold spBare at h
    split at h
    · rfl
    · exact h.elim
  · unfold spBare at h
    split at h
    case h_2 => exact h.elim
    rename_i t
    obtain ⟨ht, hro, q⟩ := h
    have sl := sl
    refine seqStep ?_
    (try simp only [tNext, tFor_eq, cBl, tOp, tC, cI, cIc, cAdd, cVar, hEq, hNe, hIn, hNotIn, hLen, hSl, tM1, tBM, cT1, cT1f, cFind3, cSplit, cPart, rNewStrs, hIsS, hTru, tAsg, gName, gSub, tRet, tRetN, tCons, tNil, tTup, tLst, tCB, tNot, tAnd, tNotV, tAndV, tOrV, tOr, V.bl.injEq, V.int.injEq, V.str.injEq, exists_eq_left', exists_eq_left, exists_eq', true_and, and_true, cIsN, L2.start, gTup, gCons, gNil, nox_K, cx_K, tCallF, tSl, tPart, tNoPart, iEnum, RZ.iZipA, iRng1, iRng2, cAbs, List.map_cons, List.map_nil, List.length_cons, List.length_nil, List.replicate, List.cons_append, List.nil_append, List.getElem?_cons_zero, List.getElem?_cons_succ, List.getElem?_nil, List.set_cons_zero, List.set_cons_succ, Nat.reduceAdd, Nat.reduceSub, Nat.zero_add, if_true, if_false, reduceIte, reduceCtorEq, Bool.false_eq_true, decide_eq_true_eq, tDrop, cMin2, cJoin, iList, tDNewK, tLc_eq, iStr, wipe])
    refine seqStep ?_
    (try simp only [tNext, tFor_eq, cBl, tOp, tC, cI, cIc, cAdd, cVar, hEq, hNe, hIn, hNotIn, hLen, hSl, tM1, tBM, cT1, cT1f, cFind3, cSplit, cPart, rNewStrs, hIsS, hTru, tAsg, gName, gSub, tRet, tRetN, tCons, tNil, tTup, tLst, tCB, tNot, tAnd, tNotV, tAndV, tOrV, tOr, V.bl.injEq, V.int.injEq, V.str.injEq, exists_eq_left', exists_eq_left, exists_eq', true_and, and_true, cIsN, L2.start, gTup, gCons, gNil, nox_K, cx_K, tCallF, tSl, tPart, tNoPart, iEnum, RZ.iZipA, iRng1, iRng2, cAbs, List.map_cons, List.map_nil, List.length_cons, List.length_nil, List.replicate, List.cons_append, List.nil_append, List.getElem?_cons_zero, List.getElem?_cons_succ, List.getElem?_nil, List.set_cons_zero, List.set_cons_succ, Nat.reduceAdd, Nat.reduceSub, Nat.zero_add, if_true, if_false, reduceIte, reduceCtorEq, Bool.false_eq_true, decide_eq_true_eq, tDrop, cMin2, cJoin, iList, tDNewK, tLc_eq, iStr, wipe])
    refine ⟨by omega, fun p zs H2 x2 hp0 hp ez => ⟨p, rfl, ⟨_, .inl (Rd.of hp)⟩, ?_⟩⟩
    have lt := TL.len_tl t
    have npc := pcs_len (tl t)
    have nz : zs.length = (pcs (tl t)).length := by rw [← ez, List.length_map]
    refine lp_list (xs := zs.map V.str) (fun j σ H' => ∃ (f : Str) (u2 : Option V), σ = [some (.str t), some (.str f), u2] ∧ Ext H2 H' ∧ tl f = ((pcs (tl t)).take j).map octP) ⟨_, _, rfl, Ext.rf, rfl⟩ ?_ ?_ ?_
    · rintro j σ H' _ ⟨_, _, _, x, _⟩
      exact .inl (Rd.of (x _ _ hp))
    · rintro j v σ H3 hv ⟨f, u2, rfl, x3, ef⟩
      obtain ⟨z, hz, rfl⟩ := Gd.of_strs hv
      have hzt : (pcs (tl t))[j]? = some (tl z) := by rw [← ez, List.getElem?_map, hz]; rfl
      have hm := List.mem_of_getElem? hzt
      have hisp := pcs_is hm
      have hlf : f.length ≤ 20000 := by
        rw [TL.len_tl, ef, List.length_map, List.length_take]
        omega
      have hlz : z.length ≤ 3 := by
        rw [TL.len_tl]
        rcases hisp with ⟨a, b, e, _, _⟩ | ⟨c, e⟩ <;> rw [e] <;> simp
      have fin : ∀ y : Str, tl y = [octP (tl z)] → ∃ (f2 : Str) (u2 : Option V), [some (V.str t), some (.str (f ++ y)), some (V.str z)] = [some (.str t), some (.str f2), u2] ∧ Ext H2 H3 ∧ tl f2 = ((pcs (tl t)).take (j + 1)).map octP := fun y ey => by
        refine ⟨_, _, rfl, x3, ?_⟩
        rw [TL.tl_append, ef, ey, take_snoc hzt, List.map_append]
        rfl
      (try simp only [tNext, tFor_eq, cBl, tOp, tC, cI, cIc, cAdd, cVar, hEq, hNe, hIn, hNotIn, hLen, hSl, tM1, tBM, cT1, cT1f, cFind3, cSplit, cPart, rNewStrs, hIsS, hTru, tAsg, gName, gSub, tRet, tRetN, tCons, tNil, tTup, tLst, tCB, tNot, tAnd, tNotV, tAndV, tOrV, tOr, V.bl.injEq, V.int.injEq, V.str.injEq, exists_eq_left', exists_eq_left, exists_eq', true_and, and_true, cIsN, L2.start, gTup, gCons, gNil, nox_K, cx_K, tCallF, tSl, tPart, tNoPart, iEnum, RZ.iZipA, iRng1, iRng2, cAbs, List.map_cons, List.map_nil, List.length_cons, List.length_nil, List.replicate, List.cons_append, List.nil_append, List.getElem?_cons_zero, List.getElem?_cons_succ, List.getElem?_nil, List.set_cons_zero, List.set_cons_succ, Nat.reduceAdd, Nat.reduceSub, Nat.zero_add, if_true, if_false, reduceIte, reduceCtorEq, Bool.false_eq_true, decide_eq_true_eq, tDrop, cMin2, cJoin, iList, tDNewK, tLc_eq, iStr, wipe])
      refine cps (R := tIf _ _ _ _ _) (fun v H' => ∃ y, v = .str y ∧ H' = H3 ∧ tl y = [octP (tl z)]) ?_ ?_
      · rintro _ _ ⟨y, rfl, rfl, ey⟩
        have : y.length = 1 := by rw [TL.len_tl, ey]; rfl
        exact ⟨by omega, fin y ey⟩
      · intro Q' hQ
        unfold tIf
        (try simp only [tNext, tFor_eq, cBl, tOp, tC, cI, cIc, cAdd, cVar, hEq, hNe, hIn, hNotIn, hLen, hSl, tM1, tBM, cT1, cT1f, cFind3, cSplit, cPart, rNewStrs, hIsS, hTru, tAsg, gName, gSub, tRet, tRetN, tCons, tNil, tTup, tLst, tCB, tNot, tAnd, tNotV, tAndV, tOrV, tOr, V.bl.injEq, V.int.injEq, V.str.injEq, exists_eq_left', exists_eq_left, exists_eq', true_and, and_true, cIsN, L2.start, gTup, gCons, gNil, nox_K, cx_K, tCallF, tSl, tPart, tNoPart, iEnum, RZ.iZipA, iRng1, iRng2, cAbs, List.map_cons, List.map_nil, List.length_cons, List.length_nil, List.replicate, List.cons_append, List.nil_append, List.getElem?_cons_zero, List.getElem?_cons_succ, List.getElem?_nil, List.set_cons_zero, List.set_cons_succ, Nat.reduceAdd, Nat.reduceSub, Nat.zero_add, if_true, if_false, reduceIte, reduceCtorEq, Bool.false_eq_true, decide_eq_true_eq, tDrop, cMin2, cJoin, iList, tDNewK, tLc_eq, iStr, wipe])
        refine ⟨by omega, ?_⟩
        rcases hisp with ⟨a, b, e, ha, hb⟩ | ⟨c, e⟩
        · have hl3 : z.length = 3 := by rw [TL.len_tl, e]; rfl
          have hsg := rok_oct hro hm
          rw [if_pos (by omega)]
          refine ⟨0, rfl, by omega, by omega, ?_, octP (tl z), ?_, by have := isSg_lt hsg; omega, hQ _ _ ⟨_, rfl, rfl, ?_⟩⟩
          · rw [List.drop_zero, e]
            show (94 == 94 && (HEXT.contains a && HEXT.contains b)) = true
            rw [ha, hb]
            rfl
          · rw [List.drop_zero, e]
            rfl
          · unfold sgnS
            rw [hsg, if_pos rfl]
        · have hl1 : z.length = 1 := by rw [TL.len_tl, e]; rfl
          rw [if_neg (by omega)]
          exact hQ _ _ ⟨_, rfl, rfl, by rw [e]; rfl⟩
    · rintro σ H3 ⟨f, u2, rfl, x3, ef⟩
      rw [List.length_map, nz, List.take_length] at ef
      (try simp only [tNext, tFor_eq, cBl, tOp, tC, cI, cIc, cAdd, cVar, hEq, hNe, hIn, hNotIn, hLen, hSl, tM1, tBM, cT1, cT1f, cFind3, cSplit, cPart, rNewStrs, hIsS, hTru, tAsg, gName, gSub, tRet, tRetN, tCons, tNil, tTup, tLst, tCB, tNot, tAnd, tNotV, tAndV, tOrV, tOr, V.bl.injEq, V.int.injEq, V.str.injEq, exists_eq_left', exists_eq_left, exists_eq', true_and, and_true, cIsN, L2.start, gTup, gCons, gNil, nox_K, cx_K, tCallF, tSl, tPart, tNoPart, iEnum, RZ.iZipA, iRng1, iRng2, cAbs, List.map_cons, List.map_nil, List.length_cons, List.length_nil, List.replicate, List.cons_append, List.nil_append, List.getElem?_cons_zero, List.getElem?_cons_succ, List.getElem?_nil, List.set_cons_zero, List.set_cons_succ, Nat.reduceAdd, Nat.reduceSub, Nat.zero_add, if_true, if_false, reduceIte, reduceCtorEq, Bool.false_eq_true, decide_eq_true_eq, tDrop, cMin2, cJoin, iList, tDNewK, tLc_eq, iStr, wipe])
      exact q _ _ (x2.tr x3) ef
theorem ok__law_pairs (c : Ct w K mg) : OkF P w K mg base CX0 5 (He.ga K "_law_pairs") ["text"] (spLps) := by
  obtain ⟨fd, F⟩ := F__law_pairs c
  refine ⟨fd, F.ok sc__law_pairs (fun vs H Q E h => ?_) (fun cdv A outer s H vs Q E hr h => ⟨_, PSs.nox ((pss_cons (ps_set (i := 1) (sc__law_pairs).nd rfl (Or.inl rfl) (pe_lst pa_nil)) (pss_cons (ps_for PassesOwn.never rfl (pi_list (pe_ifExp (ctc (ho_ne (hu64 hr)) (cv 0) pe_str (by rfl)) (pe_m1 PySem.F.slot_str_split PySem.F.type_str_split cm_split (cv 0) pe_str) (pe_lst pa_nil))) (pg_name (i := 2) (sc__law_pairs).nd rfl (Or.inl rfl)) (pss_cons (ps_asg (pe_m1 PySem.F.slot_str_partition PySem.F.type_str_partition cm_partition (cv 2) pe_str) (pg_tup (n := 3) rfl (pgs_cons (pg_name (i := 3) (sc__law_pairs).nd rfl (Or.inl rfl)) (pgs_cons (pg_name (i := 4) (sc__law_pairs).nd rfl (Or.inl rfl)) (pgs_cons (pg_name (i := 5) (sc__law_pairs).nd rfl (Or.inl rfl)) pgs_nil))))) (pss_one (ps_expr (pe_bm PySem.F.plainAttrs_list PySem.F.slot_list_append PySem.F.type_list_append mt_append (cv 1) (pa_cons (pe_tup (pa_cons (pf (ok__law_bare c) (hr.mono (by decide)) (g__law_bare c) (k__law_bare c) pass0 (pa_cons (cv 3) pa_nil)) (pa_cons (pe_ifExp (ctc (ho_eq (hu64 hr)) (cv 4) pe_str (by rfl)) (pf (ok__law_bare c) (hr.mono (by decide)) (g__law_bare c) (k__law_bare c) pass0 (pa_cons (cv 5) pa_nil)) pe_non) pa_nil))) pa_nil)))))) (pss_one (ps_ret (cv 1)))))), ?_⟩), F.bindsN fun _ _ _ _ _ _ us hl => match us, hl with | [_], _ => rfl⟩
  · unfold spLps at h
    split at h
    · rfl
    · exact h.elim
  · unfold spLps at h
    split at h
    case h_2 => exact h.elim
    rename_i t
    obtain ⟨ht, hro, q⟩ := h
    have sl := sl
    have lt := TL.len_tl t
    have eamp : Str.ofString "&" = ⟨#[38]⟩ := TL.ext_tl (by decide +kernel)
    have hcl := cut_len 38 (tl t)
    refine seqStep ?_
    (try simp only [tNext, tFor_eq, cBl, tOp, tC, cI, cIc, cAdd, cVar, hEq, hNe, hIn, hNotIn, hLen, hSl, tM1, tBM, cT1, cT1f, cFind3, cSplit, cPart, rNewStrs, hIsS, hTru, tAsg, gName, gSub, tRet, tRetN, tCons, tNil, tTup, tLst, tCB, tNot, tAnd, tNotV, tAndV, tOrV, tOr, V.bl.injEq, V.int.injEq, V.str.injEq, exists_eq_left', exists_eq_left, exists_eq', true_and, and_true, cIsN, L2.start, gTup, gCons, gNil, nox_K, cx_K, tCallF, tSl, tPart, tNoPart, iEnum, RZ.iZipA, iRng1, iRng2, cAbs, List.map_cons, List.map_nil, List.length_cons, List.length_nil, List.replicate, List.cons_append, List.nil_append, List.getElem?_cons_zero, List.getElem?_cons_succ, List.getElem?_nil, List.set_cons_zero, List.set_cons_succ, Nat.reduceAdd, Nat.reduceSub, Nat.zero_add, if_true, if_false, reduceIte, reduceCtorEq, Bool.false_eq_true, decide_eq_true_eq, tDrop, cMin2, cJoin, iList, tDNewK, tLc_eq, iStr, wipe])
    refine ⟨Nat.zero_le _, fun p1 hp1 => ?_⟩
    refine seqStep ?_
    (try simp only [tNext, tFor_eq, cBl, tOp, tC, cI, cIc, cAdd, cVar, hEq, hNe, hIn, hNotIn, hLen, hSl, tM1, tBM, cT1, cT1f, cFind3, cSplit, cPart, rNewStrs, hIsS, hTru, tAsg, gName, gSub, tRet, tRetN, tCons, tNil, tTup, tLst, tCB, tNot, tAnd, tNotV, tAndV, tOrV, tOr, V.bl.injEq, V.int.injEq, V.str.injEq, exists_eq_left', exists_eq_left, exists_eq', true_and, and_true, cIsN, L2.start, gTup, gCons, gNil, nox_K, cx_K, tCallF, tSl, tPart, tNoPart, iEnum, RZ.iZipA, iRng1, iRng2, cAbs, List.map_cons, List.map_nil, List.length_cons, List.length_nil, List.replicate, List.cons_append, List.nil_append, List.getElem?_cons_zero, List.getElem?_cons_succ, List.getElem?_nil, List.set_cons_zero, List.set_cons_succ, Nat.reduceAdd, Nat.reduceSub, Nat.zero_add, if_true, if_false, reduceIte, reduceCtorEq, Bool.false_eq_true, decide_eq_true_eq, tDrop, cMin2, cJoin, iList, tDNewK, tLc_eq, iStr, wipe])
    refine cps (R := tIf _ _ _ _ _) (fun v H' => ∃ (p2 : Addr) (zs : List Str), v = .ref p2 ∧ Ext (upd H p1 (.lst [])) H' ∧ (upd H p1 (.lst [])) p2 = none ∧ H' p2 = some (.lst (zs.map V.str)) ∧ zs.map tl = (if tl t = [] then [] else cut 38 (tl t))) ?_ ?_
    · rintro _ H2 ⟨p2, zs, rfl, x2, hp20, hp2, ez⟩
      have h1 := x2 _ _ (upd_self (H := H) (a := p1) (o := .lst []))
      have xH : Ext H H2 := (Ext.rf.fresh hp1).tr x2
      have n12 : p1 ≠ p2 := fun e => by rw [← e, upd_self] at hp20; cases hp20
      have nz : zs.length ≤ 20001 := by
        have := congrArg List.length ez
        rw [List.length_map] at this
        split at this
        · rw [this]; exact Nat.zero_le _
        · omega
      have ez2 : (zs.map tl).map itmT = prsT (tl t) := by
        rw [ez]
        unfold prsT
        split <;> rfl
      refine ⟨p2, rfl, ⟨_, .inl (Rd.of hp2)⟩, ?_⟩
      refine lp_list (xs := zs.map V.str) (fun j σ H' => ∃ (as : List Addr) (ps : List Pr) (u2 u3 u4 u5 : Option V), σ = [some (.str t), some (.ref p1), u2, u3, u4, u5] ∧ H' p1 = some (.lst (as.map V.ref)) ∧ Gd.TAt H' as (ps.map rowPr) ∧ ps.map prT = (((zs.map tl).take j).map itmT) ∧ as.length = j ∧ Ext H H' ∧ H' p2 = some (.lst (zs.map V.str))) ⟨[], [], _, _, _, _, rfl, h1, Gd.TAt.nil, rfl, rfl, xH, hp2⟩ ?_ ?_ ?_
      · rintro j σ H' _ ⟨_, _, _, _, _, _, _, _, _, _, _, _, x⟩
        exact .inl (Rd.of x)
      · rintro j v σ H3 hv ⟨as, ps, u2, u3, u4, u5, rfl, h13, ta, eps, na, x3, hp3⟩
        obtain ⟨z, hz, rfl⟩ := Gd.of_strs hv
        have hil := (List.getElem?_eq_some_iff.mp hz).1
        have hzt : (zs.map tl)[j]? = some (tl z) := by rw [List.getElem?_map, hz]; rfl
        have hm : tl z ∈ cut 38 (tl t) := by
          have := List.mem_of_getElem? hzt
          rw [ez] at this
          split at this
          · cases this
          · exact this
        have hzl := cut_mlen hm
        have lz := TL.len_tl z
        have hrz : ROk (tl z) := rok_sub hro (cut_mem 38 _ _ hm) (pcs_cut no38 _ _ (Nat.le_refl _) _ hm)
        have eq_ : Str.ofString "=" = ⟨#[61]⟩ := TL.ext_tl (by decide +kernel)
        obtain ⟨c1, c2, c3⟩ := part_cut z 61
        rw [← eq_] at c1 c2 c3
        have l1 := bef_le 61 (tl z)
        have l3 := aft_le 61 (tl z)
        have naj : as.length ≤ 20001 := by omega
        refine seqStep ?_
        (try simp only [tNext, tFor_eq, cBl, tOp, tC, cI, cIc, cAdd, cVar, hEq, hNe, hIn, hNotIn, hLen, hSl, tM1, tBM, cT1, cT1f, cFind3, cSplit, cPart, rNewStrs, hIsS, hTru, tAsg, gName, gSub, tRet, tRetN, tCons, tNil, tTup, tLst, tCB, tNot, tAnd, tNotV, tAndV, tOrV, tOr, V.bl.injEq, V.int.injEq, V.str.injEq, exists_eq_left', exists_eq_left, exists_eq', true_and, and_true, cIsN, L2.start, gTup, gCons, gNil, nox_K, cx_K, tCallF, tSl, tPart, tNoPart, iEnum, RZ.iZipA, iRng1, iRng2, cAbs, List.map_cons, List.map_nil, List.length_cons, List.length_nil, List.replicate, List.cons_append, List.nil_append, List.getElem?_cons_zero, List.getElem?_cons_succ, List.getElem?_nil, List.set_cons_zero, List.set_cons_succ, Nat.reduceAdd, Nat.reduceSub, Nat.zero_add, if_true, if_false, reduceIte, reduceCtorEq, Bool.false_eq_true, decide_eq_true_eq, tDrop, cMin2, cJoin, iList, tDNewK, tLc_eq, iStr, wipe])
        refine ⟨rfl, by omega, fun p hp => ⟨p, _, rfl, .inl (Rd.of upd_self), rfl, _, _, rfl, _, _, rfl, _, _, rfl, rfl, ?_⟩⟩
        have h13' := upd_old (o := .tup [V.str (Txt.partition z (Str.ofString "=")).fst, V.str (Txt.partition z (Str.ofString "=")).snd.fst, V.str (Txt.partition z (Str.ofString "=")).snd.snd]) h13 hp
        have xH2 : Ext H3 (upd H3 p (.tup [V.str (Txt.partition z (Str.ofString "=")).fst, V.str (Txt.partition z (Str.ofString "=")).snd.fst, V.str (Txt.partition z (Str.ofString "=")).snd.snd])) := Ext.rf.fresh hp
        generalize (upd H3 p (.tup [V.str (Txt.partition z (Str.ofString "=")).fst, V.str (Txt.partition z (Str.ofString "=")).snd.fst, V.str (Txt.partition z (Str.ofString "=")).snd.snd])) = H4 at *
        generalize (Txt.partition z (Str.ofString "=")).1 = k1 at *
        generalize (Txt.partition z (Str.ofString "=")).2.2 = k3 at *
        generalize (Txt.partition z (Str.ofString "=")).2.1 = k2 at *
        refine ⟨tyL h13', by rw [TL.len_tl, c1]; omega, by rw [c1]; exact rok_bef hrz, fun z1 H5 x5 e1 => ?_⟩
        rw [c1] at e1
        refine cps (R := tIf _ _ _ _ _) (fun v H' => ∃ o, v = ovS o ∧ Ext H5 H' ∧ o.map tl = (itmT (tl z)).2) ?_ ?_
        · rintro _ H6 ⟨o, rfl, x6, eo⟩
          refine ⟨by omega, fun T0 hT => ?_⟩
          have xx : Ext H3 (upd H6 T0 (.tup [V.str z1, ovS o])) := (xH2.tr (x5.tr x6)).fresh hT
          refine append_at (xx _ _ h13) (by rw [List.length_map]; omega) ?_
          refine ⟨as ++ [T0], ps ++ [(z1, o)], _, _, _, _, rfl, by rw [List.map_append]; exact upd_self, ?_, ?_, by rw [List.length_append, na]; rfl, (x3.tr xx).new hp1, ?_⟩
          · rw [List.map_append]
            exact ((ta.ext xx).at' (r := rowPr (z1, o)) upd_self).updL (xx _ _ h13)
          · rw [take_snoc hzt, List.map_append, List.map_append, eps]
            show _ ++ [prT (z1, o)] = _
            unfold prT
            dsimp only
            rw [e1, eo]
            rfl
          · rw [upd_ne (Ne.symm n12)]
            exact xx _ _ hp3
        · intro Q' hQ
          unfold tIf
          (try simp only [tNext, tFor_eq, cBl, tOp, tC, cI, cIc, cAdd, cVar, hEq, hNe, hIn, hNotIn, hLen, hSl, tM1, tBM, cT1, cT1f, cFind3, cSplit, cPart, rNewStrs, hIsS, hTru, tAsg, gName, gSub, tRet, tRetN, tCons, tNil, tTup, tLst, tCB, tNot, tAnd, tNotV, tAndV, tOrV, tOr, V.bl.injEq, V.int.injEq, V.str.injEq, exists_eq_left', exists_eq_left, exists_eq', true_and, and_true, cIsN, L2.start, gTup, gCons, gNil, nox_K, cx_K, tCallF, tSl, tPart, tNoPart, iEnum, RZ.iZipA, iRng1, iRng2, cAbs, List.map_cons, List.map_nil, List.length_cons, List.length_nil, List.replicate, List.cons_append, List.nil_append, List.getElem?_cons_zero, List.getElem?_cons_succ, List.getElem?_nil, List.set_cons_zero, List.set_cons_succ, Nat.reduceAdd, Nat.reduceSub, Nat.zero_add, if_true, if_false, reduceIte, reduceCtorEq, Bool.false_eq_true, decide_eq_true_eq, tDrop, cMin2, cJoin, iList, tDNewK, tLc_eq, iStr, wipe])
          cases hc : (tl z).contains 61 with
          | false =>
            rw [hc, if_neg Bool.false_ne_true] at c2
            subst c2
            rw [if_neg (by decide)]
            refine hQ _ _ ⟨none, rfl, Ext.rf, ?_⟩
            unfold itmT
            rw [hc]
            rfl
          | true =>
            rw [hc, if_pos rfl] at c2 c3
            rw [if_pos c2]
            refine ⟨by rw [TL.len_tl, c3]; omega, by rw [c3]; exact rok_aft hrz hc, fun z2 H6 x6 e2 => hQ _ _ ⟨some z2, rfl, x6, ?_⟩⟩
            rw [c3] at e2
            unfold itmT
            rw [hc, if_pos rfl, ← e2]
            rfl
      · rintro σ H3 ⟨as, ps, u2, u3, u4, u5, rfl, h13, ta, eps, na, x3, hp3⟩
        rw [List.length_map, show zs.length = (zs.map tl).length from (List.length_map _).symm, List.take_length, ez2] at eps
        (try simp only [tNext, tFor_eq, cBl, tOp, tC, cI, cIc, cAdd, cVar, hEq, hNe, hIn, hNotIn, hLen, hSl, tM1, tBM, cT1, cT1f, cFind3, cSplit, cPart, rNewStrs, hIsS, hTru, tAsg, gName, gSub, tRet, tRetN, tCons, tNil, tTup, tLst, tCB, tNot, tAnd, tNotV, tAndV, tOrV, tOr, V.bl.injEq, V.int.injEq, V.str.injEq, exists_eq_left', exists_eq_left, exists_eq', true_and, and_true, cIsN, L2.start, gTup, gCons, gNil, nox_K, cx_K, tCallF, tSl, tPart, tNoPart, iEnum, RZ.iZipA, iRng1, iRng2, cAbs, List.map_cons, List.map_nil, List.length_cons, List.length_nil, List.replicate, List.cons_append, List.nil_append, List.getElem?_cons_zero, List.getElem?_cons_succ, List.getElem?_nil, List.set_cons_zero, List.set_cons_succ, Nat.reduceAdd, Nat.reduceSub, Nat.zero_add, if_true, if_false, reduceIte, reduceCtorEq, Bool.false_eq_true, decide_eq_true_eq, tDrop, cMin2, cJoin, iList, tDNewK, tLc_eq, iStr, wipe])
        exact q p1 as ps H3 x3 hp1 h13 ta eps
    · intro Q' hQ
      unfold tIf
      (try simp only [tNext, tFor_eq, cBl, tOp, tC, cI, cIc, cAdd, cVar, hEq, hNe, hIn, hNotIn, hLen, hSl, tM1, tBM, cT1, cT1f, cFind3, cSplit, cPart, rNewStrs, hIsS, hTru, tAsg, gName, gSub, tRet, tRetN, tCons, tNil, tTup, tLst, tCB, tNot, tAnd, tNotV, tAndV, tOrV, tOr, V.bl.injEq, V.int.injEq, V.str.injEq, exists_eq_left', exists_eq_left, exists_eq', true_and, and_true, cIsN, L2.start, gTup, gCons, gNil, nox_K, cx_K, tCallF, tSl, tPart, tNoPart, iEnum, RZ.iZipA, iRng1, iRng2, cAbs, List.map_cons, List.map_nil, List.length_cons, List.length_nil, List.replicate, List.cons_append, List.nil_append, List.getElem?_cons_zero, List.getElem?_cons_succ, List.getElem?_nil, List.set_cons_zero, List.set_cons_succ, Nat.reduceAdd, Nat.reduceSub, Nat.zero_add, if_true, if_false, reduceIte, reduceCtorEq, Bool.false_eq_true, decide_eq_true_eq, tDrop, cMin2, cJoin, iList, tDNewK, tLc_eq, iStr, wipe])
      by_cases h0 : t = Str.ofString ""
      · subst h0
        rw [if_neg (by simp)]
        refine ⟨Nat.zero_le _, fun p2 hp2 => hQ _ _ ⟨p2, [], rfl, Ext.rf.fresh hp2, hp2, upd_self, rfl⟩⟩
      · rw [if_pos (by simpa using h0)]
        have hne : tl t ≠ [] := fun e => h0 (TL.ext_tl e)
        refine ⟨by decide, by omega, fun p2 hp2 => hQ _ _ ⟨p2, _, rfl, Ext.rf.fresh hp2, hp2, upd_self, ?_⟩⟩
        rw [if_neg hne, eamp]
        exact split_cut t 38 (by omega)
end
end Da
set_option Elab.async false
set_option linter.all false
set_option maxRecDepth 100000
set_option maxHeartbeats 4000000
namespace Da
open PySem PySem.Spec PyProof.Rows L2 Hd Xs Fx Mi Ms Md Mq Mp Mr ClX Xr
open TL (tl joinL)
/-- the list of a drawn query's items -/
structure FrQ (H0 : Hp) (b p1 : Addr) (xs : List Str) (H : Hp) : Prop where
  fd : H p1 = some (.lst (xs.map V.str))
  bg : Bg H b
  kp : Kp b H0 H
theorem FrQ.step {H0 H H' : Hp} {b p1 : Addr} {xs : List Str} (h : FrQ H0 b p1 xs H) (hn : p1 ≠ b) (hb : Bg H' b) (k : Kp b H H') : FrQ H0 b p1 xs H' := ⟨k _ _ hn h.fd, hb, h.kp.trans k⟩
theorem ext_kp {H H' : Hp} {b : Addr} (x : Ext H H') : Kp b H H' := fun p o _ e => x p o e
theorem bg_ext {H H' : Hp} {b : Addr} (x : Ext H H') (h : Bg H b) : Bg H' b := by
  obtain ⟨y, z, e, r⟩ := h
  exact ⟨y, z, x _ _ e, r⟩
theorem sgn_empty : ∀ k < 256, (sgnS k = Str.ofString "") ↔ isSg k = false := by
  intro k _
  unfold sgnS
  cases h : isSg k with
  | true =>
    rw [if_pos rfl]
    refine ⟨fun e => ?_, fun e => by cases e⟩
    have := congrArg Str.length e
    cases this
  | false => exact ⟨fun _ => rfl, fun _ => rfl⟩
theorem Bg.updq {H : Hp} {a p : Addr} {o : HO} (h : Bg H a) (hp : p ≠ a) : Bg (upd H p o) a := by
  obtain ⟨x, y, e, r⟩ := h
  exact ⟨x, y, by rw [upd_ne (Ne.symm hp)]; exact e, r⟩
def gdI (x : Str) : Prop := GdT (tl x) ∧ x.length ≤ 40
section
variable {P : Program} {w : World} {K : PySem.W.Frag} {mg : Str → Option Value} {base : Heap}
theorem ok__law_query (c : Ct w K mg) : OkF P w K mg base CX0 6 (He.ga K "_law_query") ["bag", "most"] (spQry) := by
  obtain ⟨fd, F⟩ := F__law_query c
  refine ⟨fd, F.ok sc__law_query (fun vs H Q E h => ?_) (fun cdv A outer s H vs Q E hr h => ⟨_, PSs.nox ((pss_cons (ps_set (i := 2) (sc__law_query).nd rfl (Or.inl rfl) (pe_op co_add (pf0 (ok__law_plain c) (hr.mono (by decide)) (g__law_plain c) (k__law_plain c) pass0) pe_str)) (pss_cons (ps_set (i := 3) (sc__law_query).nd rfl (Or.inl rfl) (pe_lst pa_nil)) (pss_cons (ps_for PassesOwn.never rfl (pi_range1 rfl (b_range c) (pa_cons (pf (ok__law_take c) (hr.mono (by decide)) (g__law_take c) (k__law_take c) pass0 (pa_cons (cv 0) (pa_cons (pe_op co_add (cv 1) pe_int) pa_nil))) pa_nil)) (pg_name (i := 4) (sc__law_query).nd rfl (Or.inl rfl)) (pss_cons (ps_set (i := 5) (sc__law_query).nd rfl (Or.inl rfl) pe_str) (pss_cons (ps_for PassesOwn.never rfl (pi_list (pf (ok__law_pieces c) (hr.mono (by decide)) (g__law_pieces c) (k__law_pieces c) pass0 (pa_cons (pf (ok__law_drawn_text c) (hr.mono (by decide)) (g__law_drawn_text c) (k__law_drawn_text c) pass0 (pa_cons (cv 0) (pa_cons (cv 2) (pa_cons pe_int pa_nil)))) pa_nil))) (pg_name (i := 6) (sc__law_query).nd rfl (Or.inl rfl)) (pss_cons (ps_set (i := 7) (sc__law_query).nd rfl (Or.inl rfl) (pe_and (pe_cmpR (ho_eq (hu64 hr)) (pe_callB hc_len (by rfl) (b_len c) (by decide +kernel) (pa_cons (cv 6) pa_nil)) pe_int (by rfl)) (pe_one (pe_cmpR (ho_eq (hu64 hr)) (pf (ok__law_sign c) (hr.mono (by decide)) (g__law_sign c) (k__law_sign c) pass0 (pa_cons (pf (ok__law_octet c) (hr.mono (by decide)) (g__law_octet c) (k__law_octet c) pass0 (pa_cons (cv 6) (pa_cons pe_int pa_nil))) pa_nil)) pe_str (by rfl))))) (pss_one (ps_set (i := 5) (sc__law_query).nd rfl (Or.inl rfl) (pe_op co_add (cv 5) (pe_ifExp (hTr (cv 7)) pe_str (cv 6))))))) (pss_one (ps_expr (pe_bm PySem.F.plainAttrs_list PySem.F.slot_list_append PySem.F.type_list_append mt_append (cv 3) (pa_cons (hix (pe_lst (pa_cons pe_str (pa_cons pe_str (pa_cons (cv 5) (pa_cons (cv 5) (pa_cons (pe_op co_add (cv 5) pe_str) (pa_cons (pe_op co_add pe_str (cv 5)) (pa_cons (pe_op co_add (pe_op co_add (cv 5) pe_str) (cv 5)) pa_nil)))))))) (pf (ok__law_take c) (hr.mono (by decide)) (g__law_take c) (k__law_take c) pass0 (pa_cons (cv 0) (pa_cons pe_int pa_nil)))) pa_nil))))))) (pss_one (ps_ret (pe_m1 PySem.F.slot_str_join PySem.F.type_str_join hm_join pe_str (cv 3)))))))), ?_⟩), F.bindsN fun _ _ _ _ _ _ us hl => match us, hl with | [_, _], _ => rfl⟩
  · unfold spQry at h
    split at h
    · rfl
    · exact h.elim
  · unfold spQry at h
    split at h
    case h_2 => exact h.elim
    rename_i b m
    obtain ⟨hb, rfl, q⟩ := h
    have sl := sl
    have hPl : PLS.length = 66 := by decide +kernel
    have hQl : (Str.ofString "!$'()*+,;:@/?=").length = 14 := by decide +kernel
    have hQS : QSG.length = 80 := by decide +kernel
    refine seqStep ?_
    (try simp only [tNext, tFor_eq, cBl, tOp, tC, cI, cIc, cAdd, cVar, hEq, hNe, hIn, hNotIn, hLen, hSl, tM1, tBM, cT1, cT1f, cFind3, cSplit, cPart, rNewStrs, hIsS, hTru, tAsg, gName, gSub, tRet, tRetN, tCons, tNil, tTup, tLst, tCB, tNot, tAnd, tNotV, tAndV, tOrV, tOr, V.bl.injEq, V.int.injEq, V.str.injEq, exists_eq_left', exists_eq_left, exists_eq', true_and, and_true, cIsN, L2.start, gTup, gCons, gNil, nox_K, cx_K, tCallF, tSl, tPart, tNoPart, iEnum, RZ.iZipA, iRng1, iRng2, cAbs, List.map_cons, List.map_nil, List.length_cons, List.length_nil, List.replicate, List.cons_append, List.nil_append, List.getElem?_cons_zero, List.getElem?_cons_succ, List.getElem?_nil, List.set_cons_zero, List.set_cons_succ, Nat.reduceAdd, Nat.reduceSub, Nat.zero_add, if_true, if_false, reduceIte, reduceCtorEq, Bool.false_eq_true, decide_eq_true_eq, tDrop, cMin2, cJoin, iList, tDNewK, tLc_eq, iStr, wipe])
    show spS PLS [] H _ _
    unfold spS
    (try simp only [tNext, tFor_eq, cBl, tOp, tC, cI, cIc, cAdd, cVar, hEq, hNe, hIn, hNotIn, hLen, hSl, tM1, tBM, cT1, cT1f, cFind3, cSplit, cPart, rNewStrs, hIsS, hTru, tAsg, gName, gSub, tRet, tRetN, tCons, tNil, tTup, tLst, tCB, tNot, tAnd, tNotV, tAndV, tOrV, tOr, V.bl.injEq, V.int.injEq, V.str.injEq, exists_eq_left', exists_eq_left, exists_eq', true_and, and_true, cIsN, L2.start, gTup, gCons, gNil, nox_K, cx_K, tCallF, tSl, tPart, tNoPart, iEnum, RZ.iZipA, iRng1, iRng2, cAbs, List.map_cons, List.map_nil, List.length_cons, List.length_nil, List.replicate, List.cons_append, List.nil_append, List.getElem?_cons_zero, List.getElem?_cons_succ, List.getElem?_nil, List.set_cons_zero, List.set_cons_succ, Nat.reduceAdd, Nat.reduceSub, Nat.zero_add, if_true, if_false, reduceIte, reduceCtorEq, Bool.false_eq_true, decide_eq_true_eq, tDrop, cMin2, cJoin, iList, tDNewK, tLc_eq, iStr, wipe])
    refine ⟨by omega, ?_⟩
    rw [show PLS ++ Str.ofString "!$'()*+,;:@/?=" = QSG from rfl]
    refine seqStep ?_
    (try simp only [tNext, tFor_eq, cBl, tOp, tC, cI, cIc, cAdd, cVar, hEq, hNe, hIn, hNotIn, hLen, hSl, tM1, tBM, cT1, cT1f, cFind3, cSplit, cPart, rNewStrs, hIsS, hTru, tAsg, gName, gSub, tRet, tRetN, tCons, tNil, tTup, tLst, tCB, tNot, tAnd, tNotV, tAndV, tOrV, tOr, V.bl.injEq, V.int.injEq, V.str.injEq, exists_eq_left', exists_eq_left, exists_eq', true_and, and_true, cIsN, L2.start, gTup, gCons, gNil, nox_K, cx_K, tCallF, tSl, tPart, tNoPart, iEnum, RZ.iZipA, iRng1, iRng2, cAbs, List.map_cons, List.map_nil, List.length_cons, List.length_nil, List.replicate, List.cons_append, List.nil_append, List.getElem?_cons_zero, List.getElem?_cons_succ, List.getElem?_nil, List.set_cons_zero, List.set_cons_succ, Nat.reduceAdd, Nat.reduceSub, Nat.zero_add, if_true, if_false, reduceIte, reduceCtorEq, Bool.false_eq_true, decide_eq_true_eq, tDrop, cMin2, cJoin, iList, tDNewK, tLc_eq, iStr, wipe])
    refine ⟨Nat.zero_le _, fun p1 hp1 => ?_⟩
    have h1b : p1 ≠ b := hb.ne hp1
    have F0 : FrQ H b p1 [] (upd H p1 (.lst [])) := ⟨upd_self, hb.fresh hp1, Kp.refl.fresh hp1⟩
    refine seqCps (fun σ H' => ∃ (xs : List Str) (u4 u5 u6 u7 : Option V), σ = [some (.ref b), some (.int 6), some (.str QSG), some (.ref p1), u4, u5, u6, u7] ∧ FrQ H b p1 xs H' ∧ xs.length ≤ 7 ∧ ∀ x ∈ xs, gdI x) (fun Nx hN => ?_) ?_
    · (try simp only [tNext, tFor_eq, cBl, tOp, tC, cI, cIc, cAdd, cVar, hEq, hNe, hIn, hNotIn, hLen, hSl, tM1, tBM, cT1, cT1f, cFind3, cSplit, cPart, rNewStrs, hIsS, hTru, tAsg, gName, gSub, tRet, tRetN, tCons, tNil, tTup, tLst, tCB, tNot, tAnd, tNotV, tAndV, tOrV, tOr, V.bl.injEq, V.int.injEq, V.str.injEq, exists_eq_left', exists_eq_left, exists_eq', true_and, and_true, cIsN, L2.start, gTup, gCons, gNil, nox_K, cx_K, tCallF, tSl, tPart, tNoPart, iEnum, RZ.iZipA, iRng1, iRng2, cAbs, List.map_cons, List.map_nil, List.length_cons, List.length_nil, List.replicate, List.cons_append, List.nil_append, List.getElem?_cons_zero, List.getElem?_cons_succ, List.getElem?_nil, List.set_cons_zero, List.set_cons_succ, Nat.reduceAdd, Nat.reduceSub, Nat.zero_add, if_true, if_false, reduceIte, reduceCtorEq, Bool.false_eq_true, decide_eq_true_eq, tDrop, cMin2, cJoin, iList, tDNewK, tLc_eq, iStr, wipe])
      refine take_ok F0.bg (by omega) (by omega) fun d H2 d0 d1 hb2 k2 => ?_
      have F1 := F0.step h1b hb2 k2
      refine ⟨d, rfl, by omega, by omega, ?_⟩
      refine lp_range (fun j σ H' => ∃ (xs : List Str) (u4 u5 u6 u7 : Option V), σ = [some (.ref b), some (.int 6), some (.str QSG), some (.ref p1), u4, u5, u6, u7] ∧ FrQ H b p1 xs H' ∧ xs.length = j ∧ ∀ x ∈ xs, gdI x) ⟨[], _, _, _, _, rfl, F1, rfl, (fun x hx => by cases hx)⟩ ?_ ?_
      · rintro j σ H3 hj ⟨xs, u4, u5, u6, u7, rfl, F3, nx, gx⟩
        refine seqStep ?_
        (try simp only [tNext, tFor_eq, cBl, tOp, tC, cI, cIc, cAdd, cVar, hEq, hNe, hIn, hNotIn, hLen, hSl, tM1, tBM, cT1, cT1f, cFind3, cSplit, cPart, rNewStrs, hIsS, hTru, tAsg, gName, gSub, tRet, tRetN, tCons, tNil, tTup, tLst, tCB, tNot, tAnd, tNotV, tAndV, tOrV, tOr, V.bl.injEq, V.int.injEq, V.str.injEq, exists_eq_left', exists_eq_left, exists_eq', true_and, and_true, cIsN, L2.start, gTup, gCons, gNil, nox_K, cx_K, tCallF, tSl, tPart, tNoPart, iEnum, RZ.iZipA, iRng1, iRng2, cAbs, List.map_cons, List.map_nil, List.length_cons, List.length_nil, List.replicate, List.cons_append, List.nil_append, List.getElem?_cons_zero, List.getElem?_cons_succ, List.getElem?_nil, List.set_cons_zero, List.set_cons_succ, Nat.reduceAdd, Nat.reduceSub, Nat.zero_add, if_true, if_false, reduceIte, reduceCtorEq, Bool.false_eq_true, decide_eq_true_eq, tDrop, cMin2, cJoin, iList, tDNewK, tLc_eq, iStr, wipe])
        refine seqCps (fun σ H' => ∃ (f : Str) (u6 u7 : Option V), σ = [some (.ref b), some (.int 6), some (.str QSG), some (.ref p1), some (.int (0 + (j : Nat))), some (.str f), u6, u7] ∧ FrQ H b p1 xs H' ∧ GdT (tl f) ∧ f.length ≤ 15) (fun Nx2 hN2 => ?_) ?_
        · (try simp only [tNext, tFor_eq, cBl, tOp, tC, cI, cIc, cAdd, cVar, hEq, hNe, hIn, hNotIn, hLen, hSl, tM1, tBM, cT1, cT1f, cFind3, cSplit, cPart, rNewStrs, hIsS, hTru, tAsg, gName, gSub, tRet, tRetN, tCons, tNil, tTup, tLst, tCB, tNot, tAnd, tNotV, tAndV, tOrV, tOr, V.bl.injEq, V.int.injEq, V.str.injEq, exists_eq_left', exists_eq_left, exists_eq', true_and, and_true, cIsN, L2.start, gTup, gCons, gNil, nox_K, cx_K, tCallF, tSl, tPart, tNoPart, iEnum, RZ.iZipA, iRng1, iRng2, cAbs, List.map_cons, List.map_nil, List.length_cons, List.length_nil, List.replicate, List.cons_append, List.nil_append, List.getElem?_cons_zero, List.getElem?_cons_succ, List.getElem?_nil, List.set_cons_zero, List.set_cons_succ, Nat.reduceAdd, Nat.reduceSub, Nat.zero_add, if_true, if_false, reduceIte, reduceCtorEq, Bool.false_eq_true, decide_eq_true_eq, tDrop, cMin2, cJoin, iList, tDNewK, tLc_eq, iStr, wipe])
          refine ⟨F3.bg, by omega, by omega, by omega, by omega, by decide +kernel, fun z H4 hd hb4 k4 => ?_⟩
          have F4 := F3.step h1b hb4 k4
          obtain ⟨hnp, hlz⟩ := drt_num hd
          have hpc := drt_pcs hd
          refine ⟨by rw [TL.len_tl]; exact Nat.le_trans hlz (by decide), fun p2 zs H5 x5 hp20 hp2 ez => ⟨p2, rfl, ⟨_, .inl (Rd.of hp2)⟩, ?_⟩⟩
          have F5 := F4.step h1b (bg_ext x5 F4.bg) (ext_kp x5)
          have nz : zs.length ≤ 5 := by
            have := congrArg List.length ez
            rw [List.length_map] at this
            have h5 : ((5 : Int)).toNat = 5 := rfl
            omega
          refine lp_list (xs := zs.map V.str) (fun i σ H' => ∃ (f : Str) (u6 u7 : Option V), σ = [some (.ref b), some (.int 6), some (.str QSG), some (.ref p1), some (.int (0 + (j : Nat))), some (.str f), u6, u7] ∧ H' = H5 ∧ GdT (tl f) ∧ f.length ≤ 3 * i) ⟨Str.ofString "", _, _, rfl, rfl, gd_nil, Nat.zero_le _⟩ ?_ ?_ ?_
          · rintro i σ H' _ ⟨_, _, _, _, rfl, _⟩
            exact .inl (Rd.of hp2)
          · rintro i v σ H' hv ⟨f, v6, v7, rfl, rfl, gf, lf⟩
            obtain ⟨y, hy, rfl⟩ := Gd.of_strs hv
            have hm : tl y ∈ pcs (tl z) := by rw [← ez]; exact List.mem_map_of_mem (List.mem_of_getElem? hy)
            have hil := (List.getElem?_eq_some_iff.mp hy).1
            have hisp := hpc _ hm
            have hly : y.length ≤ 3 := by
              rw [TL.len_tl]
              rcases hisp with ⟨a, b, e, _, _⟩ | ⟨c, _, _, e⟩ <;> rw [e] <;> simp
            refine seqCps (fun σ H2 => H2 = H' ∧ ∃ o : Bool, σ = [some (.ref b), some (.int 6), some (.str QSG), some (.ref p1), some (.int (0 + (j : Nat))), some (.str f), some (.str y), some (.bl o)] ∧ ((o = true) ∨ (o = false ∧ GP (tl y)))) (fun Nx3 hN3 => ?_) ?_
            · unfold tAsg tAndV
              (try simp only [tNext, tFor_eq, cBl, tOp, tC, cI, cIc, cAdd, cVar, hEq, hNe, hIn, hNotIn, hLen, hSl, tM1, tBM, cT1, cT1f, cFind3, cSplit, cPart, rNewStrs, hIsS, hTru, tAsg, gName, gSub, tRet, tRetN, tCons, tNil, tTup, tLst, tCB, tNot, tAnd, tNotV, tAndV, tOrV, tOr, V.bl.injEq, V.int.injEq, V.str.injEq, exists_eq_left', exists_eq_left, exists_eq', true_and, and_true, cIsN, L2.start, gTup, gCons, gNil, nox_K, cx_K, tCallF, tSl, tPart, tNoPart, iEnum, RZ.iZipA, iRng1, iRng2, cAbs, List.map_cons, List.map_nil, List.length_cons, List.length_nil, List.replicate, List.cons_append, List.nil_append, List.getElem?_cons_zero, List.getElem?_cons_succ, List.getElem?_nil, List.set_cons_zero, List.set_cons_succ, Nat.reduceAdd, Nat.reduceSub, Nat.zero_add, if_true, if_false, reduceIte, reduceCtorEq, Bool.false_eq_true, decide_eq_true_eq, tDrop, cMin2, cJoin, iList, tDNewK, tLc_eq, iStr, wipe])
              refine ⟨by omega, ?_⟩
              rcases hisp with ⟨a, a2, e, ha, ha2⟩ | ⟨c, hc, hcs, e⟩
              · have hl3 : y.length = 3 := by rw [TL.len_tl, e]; rfl
                have hlt : octP (tl y) < 256 := octP_lt (.inl ⟨a, a2, e, ha, ha2⟩) fun c hc => by
                  rw [e] at hc
                  rcases List.mem_cons.mp hc with rfl | hc
                  · decide
                  rcases List.mem_cons.mp hc with rfl | hc
                  · have := isSg_lt (hext_sg _ (List.contains_iff_mem.mp ha)); omega
                  · rw [List.mem_singleton.mp hc]; have := isSg_lt (hext_sg _ (List.contains_iff_mem.mp ha2)); omega
                rw [if_pos (by omega)]
                refine ⟨0, rfl, by omega, by omega, ?_, octP (tl y), ?_, hlt, ?_⟩
                · rw [List.drop_zero, e]
                  show (94 == 94 && (HEXT.contains a && HEXT.contains a2)) = true
                  rw [ha, ha2]
                  rfl
                · rw [List.drop_zero, e]
                  rfl
                · refine hN3 _ _ ⟨rfl, _, rfl, ?_⟩
                  cases hs : isSg (octP (tl y)) with
                  | false => exact .inl (decide_eq_true ((sgn_empty _ hlt).mpr hs))
                  | true =>
                    refine .inr ⟨decide_eq_false fun z => ?_, .inl ⟨a, a2, e, ha, ha2, hs⟩⟩
                    rw [(sgn_empty _ hlt).mp z] at hs
                    cases hs
              · have hl1 : y.length = 1 := by rw [TL.len_tl, e]; rfl
                rw [if_neg (by omega)]
                exact hN3 _ _ ⟨rfl, _, rfl, .inr ⟨rfl, .inr ⟨c, hc, hcs, e⟩⟩⟩
            · rintro σ H2 ⟨rfl, o, rfl, ho⟩
              have h26 : (Str.ofString "^26").length = 3 := rfl
              (try simp only [tNext, tFor_eq, cBl, tOp, tC, cI, cIc, cAdd, cVar, hEq, hNe, hIn, hNotIn, hLen, hSl, tM1, tBM, cT1, cT1f, cFind3, cSplit, cPart, rNewStrs, hIsS, hTru, tAsg, gName, gSub, tRet, tRetN, tCons, tNil, tTup, tLst, tCB, tNot, tAnd, tNotV, tAndV, tOrV, tOr, V.bl.injEq, V.int.injEq, V.str.injEq, exists_eq_left', exists_eq_left, exists_eq', true_and, and_true, cIsN, L2.start, gTup, gCons, gNil, nox_K, cx_K, tCallF, tSl, tPart, tNoPart, iEnum, RZ.iZipA, iRng1, iRng2, cAbs, List.map_cons, List.map_nil, List.length_cons, List.length_nil, List.replicate, List.cons_append, List.nil_append, List.getElem?_cons_zero, List.getElem?_cons_succ, List.getElem?_nil, List.set_cons_zero, List.set_cons_succ, Nat.reduceAdd, Nat.reduceSub, Nat.zero_add, if_true, if_false, reduceIte, reduceCtorEq, Bool.false_eq_true, decide_eq_true_eq, tDrop, cMin2, cJoin, iList, tDNewK, tLc_eq, iStr, wipe])
              refine cps (R := tIf _ _ _ _ _) (fun v H'' => H'' = H2 ∧ ∃ g : Str, v = .str g ∧ GP (tl g) ∧ g.length ≤ 3) ?_ ?_
              · rintro _ _ ⟨rfl, g, rfl, gg, lg⟩
                exact ⟨by omega, _, _, _, rfl, rfl, by rw [TL.tl_append]; exact gd_app gf (gd_gp gg), by rw [la]; omega⟩
              · intro Q' hQ
                unfold tIf
                (try simp only [tNext, tFor_eq, cBl, tOp, tC, cI, cIc, cAdd, cVar, hEq, hNe, hIn, hNotIn, hLen, hSl, tM1, tBM, cT1, cT1f, cFind3, cSplit, cPart, rNewStrs, hIsS, hTru, tAsg, gName, gSub, tRet, tRetN, tCons, tNil, tTup, tLst, tCB, tNot, tAnd, tNotV, tAndV, tOrV, tOr, V.bl.injEq, V.int.injEq, V.str.injEq, exists_eq_left', exists_eq_left, exists_eq', true_and, and_true, cIsN, L2.start, gTup, gCons, gNil, nox_K, cx_K, tCallF, tSl, tPart, tNoPart, iEnum, RZ.iZipA, iRng1, iRng2, cAbs, List.map_cons, List.map_nil, List.length_cons, List.length_nil, List.replicate, List.cons_append, List.nil_append, List.getElem?_cons_zero, List.getElem?_cons_succ, List.getElem?_nil, List.set_cons_zero, List.set_cons_succ, Nat.reduceAdd, Nat.reduceSub, Nat.zero_add, if_true, if_false, reduceIte, reduceCtorEq, Bool.false_eq_true, decide_eq_true_eq, tDrop, cMin2, cJoin, iList, tDNewK, tLc_eq, iStr, wipe])
                rcases ho with rfl | ⟨rfl, gy⟩
                · rw [if_pos rfl]
                  exact hQ _ _ ⟨rfl, _, rfl, .inl ⟨50, 54, by decide +kernel, by decide +kernel, by decide +kernel, by decide +kernel⟩, by omega⟩
                · rw [if_neg (by decide)]
                  exact hQ _ _ ⟨rfl, _, rfl, gy, hly⟩
          · rintro σ H' ⟨f, v6, v7, rfl, rfl, gf, lf⟩
            rw [List.length_map] at lf
            exact hN2 _ _ ⟨f, _, _, rfl, F5, gf, by omega⟩
        · rintro σ H4 ⟨f, v6, v7, rfl, F4, gf, lf⟩
          have e1' : (Str.ofString "=").length = 1 := rfl
          have g1 : GdT (tl (Str.ofString "=")) := by
            rw [show tl (Str.ofString "=") = [61] from by decide +kernel]
            exact gd_one (by decide) (by decide)
          (try simp only [tNext, tFor_eq, cBl, tOp, tC, cI, cIc, cAdd, cVar, hEq, hNe, hIn, hNotIn, hLen, hSl, tM1, tBM, cT1, cT1f, cFind3, cSplit, cPart, rNewStrs, hIsS, hTru, tAsg, gName, gSub, tRet, tRetN, tCons, tNil, tTup, tLst, tCB, tNot, tAnd, tNotV, tAndV, tOrV, tOr, V.bl.injEq, V.int.injEq, V.str.injEq, exists_eq_left', exists_eq_left, exists_eq', true_and, and_true, cIsN, L2.start, gTup, gCons, gNil, nox_K, cx_K, tCallF, tSl, tPart, tNoPart, iEnum, RZ.iZipA, iRng1, iRng2, cAbs, List.map_cons, List.map_nil, List.length_cons, List.length_nil, List.replicate, List.cons_append, List.nil_append, List.getElem?_cons_zero, List.getElem?_cons_succ, List.getElem?_nil, List.set_cons_zero, List.set_cons_succ, Nat.reduceAdd, Nat.reduceSub, Nat.zero_add, if_true, if_false, reduceIte, reduceCtorEq, Bool.false_eq_true, decide_eq_true_eq, tDrop, cMin2, cJoin, iList, tDNewK, tLc_eq, iStr, wipe])
          have hfe : (f ++ Str.ofString "=").length = f.length + 1 := by rw [la, e1']
          refine ⟨tyL F4.fd, by omega, by omega, by omega, by omega, by omega, fun pl hpl => take_ok (F4.bg.fresh hpl) (by decide) (by decide) fun d4 H8 g0 g1' hb8 k8 => ?_⟩
          have F8 := (F4.step h1b (F4.bg.fresh hpl) (Kp.refl.fresh hpl)).step h1b hb8 k8
          refine hIx_all (k8 pl _ (F4.bg.ne hpl) upd_self) g0 g1' fun v hv => ?_
          obtain ⟨t3, rfl, hok3⟩ : ∃ t, v = .str t ∧ gdI t := by
            have gef : GdT (tl (Str.ofString "=" ++ f)) := by rw [TL.tl_append]; exact gd_app g1 gf
            have gfe : GdT (tl (f ++ Str.ofString "=")) := by rw [TL.tl_append]; exact gd_app gf g1
            have gfef : GdT (tl (f ++ Str.ofString "=" ++ f)) := by rw [TL.tl_append]; exact gd_app gfe gf
            rcases List.mem_cons.mp hv with e | hv
            · exact ⟨_, e, gd_nil, Nat.zero_le _⟩
            rcases List.mem_cons.mp hv with e | hv
            · exact ⟨_, e, g1, by omega⟩
            rcases List.mem_cons.mp hv with e | hv
            · exact ⟨_, e, gf, by omega⟩
            rcases List.mem_cons.mp hv with e | hv
            · exact ⟨_, e, gf, by omega⟩
            rcases List.mem_cons.mp hv with e | hv
            · exact ⟨_, e, gfe, by omega⟩
            rcases List.mem_cons.mp hv with e | hv
            · exact ⟨_, e, gef, by rw [la]; omega⟩
            · exact ⟨_, List.mem_singleton.mp hv, gfef, by rw [la]; omega⟩
          refine append_at F8.fd (by rw [List.length_map]; omega) ?_
          refine ⟨xs ++ [t3], _, _, _, _, rfl, ⟨by rw [List.map_append]; exact upd_self, F8.bg.updq h1b, F8.kp.new hp1⟩, by rw [List.length_append, nx]; rfl, fun x hx => ?_⟩
          rcases List.mem_append.mp hx with hx | hx
          · exact gx x hx
          · rw [List.mem_singleton.mp hx]; exact hok3
      · rintro σ H3 ⟨xs, u4, u5, u6, u7, rfl, F3, nx, gx⟩
        exact hN _ _ ⟨xs, _, _, _, _, rfl, F3, by omega, gx⟩
    · rintro σ H3 ⟨xs, u4, u5, u6, u7, rfl, F3, nx, gx⟩
      (try simp only [tNext, tFor_eq, cBl, tOp, tC, cI, cIc, cAdd, cVar, hEq, hNe, hIn, hNotIn, hLen, hSl, tM1, tBM, cT1, cT1f, cFind3, cSplit, cPart, rNewStrs, hIsS, hTru, tAsg, gName, gSub, tRet, tRetN, tCons, tNil, tTup, tLst, tCB, tNot, tAnd, tNotV, tAndV, tOrV, tOr, V.bl.injEq, V.int.injEq, V.str.injEq, exists_eq_left', exists_eq_left, exists_eq', true_and, and_true, cIsN, L2.start, gTup, gCons, gNil, nox_K, cx_K, tCallF, tSl, tPart, tNoPart, iEnum, RZ.iZipA, iRng1, iRng2, cAbs, List.map_cons, List.map_nil, List.length_cons, List.length_nil, List.replicate, List.cons_append, List.nil_append, List.getElem?_cons_zero, List.getElem?_cons_succ, List.getElem?_nil, List.set_cons_zero, List.set_cons_succ, Nat.reduceAdd, Nat.reduceSub, Nat.zero_add, if_true, if_false, reduceIte, reduceCtorEq, Bool.false_eq_true, decide_eq_true_eq, tDrop, cMin2, cJoin, iList, tDNewK, tLc_eq, iStr, wipe])
      have e1' : (Str.ofString "&").length = 1 := rfl
      have hs : (xs.map fun x => x.length).sum ≤ xs.length * 40 := sum_len fun z hz => (gx z hz).2
      have hj : (Txt.join (Str.ofString "&") xs).length ≤ 300 := by
        refine Nat.le_trans (join_len (m := 40) fun z hz => (gx z hz).2) ?_
        rw [e1']
        omega
      refine ⟨xs, .inl (.inl (Rd.of F3.fd)), by rw [e1']; omega, q _ _ hj ?_ F3.bg F3.kp⟩
      rw [TL.join_eq, TL.tl_join, show tl (Str.ofString "&") = [38] from by decide +kernel]
      exact gd_join (by decide) (by decide) fun l hl => by
        obtain ⟨z, hz, rfl⟩ := List.mem_map.mp hl
        exact (gx z hz).1
end
end Da
set_option Elab.async false
set_option linter.all false
set_option maxRecDepth 100000
set_option maxHeartbeats 4000000
namespace Da
open PySem PySem.Spec PyProof.Rows L2 Hd Xs Fx Mi Ms Md Mq Mp Mr ClX Xr
open TL (tl joinL)
/-! ### queries spoilt -/
/-- a sign, or any escape -/
def WP (p : T) : Prop := (∃ a b, p = [94, a, b] ∧ HEXT.contains a = true ∧ HEXT.contains b = true) ∨ ∃ c, c ≠ 94 ∧ isSg c = true ∧ p = [c]
theorem wp_pc {p : T} (h : WP p) : (∃ a b, p = [94, a, b] ∧ HEXT.contains a = true ∧ HEXT.contains b = true) ∨ ∃ c, c ≠ 94 ∧ p = [c] := h.imp id fun ⟨c, h1, _, h3⟩ => ⟨c, h1, h3⟩
def WdT (l : T) : Prop := ∃ ps : List T, l = ps.flatten ∧ ∀ p ∈ ps, WP p
theorem wp_pcs {ps : List T} (h : ∀ p ∈ ps, WP p) : pcs ps.flatten = ps := pcs_flatten fun p hp => wp_pc (h p hp)
theorem wd_ok {l : T} (h : WdT l) : QOk l := by
  obtain ⟨ps, rfl, hp⟩ := h
  have e := wp_pcs hp
  refine ⟨fun c hc => ?_, fun p h => ?_⟩
  · obtain ⟨p, h1, h2⟩ := List.mem_flatten.mp hc
    rcases hp p h1 with ⟨a, b, rfl, ha, hb⟩ | ⟨d, _, hd, rfl⟩
    · rcases List.mem_cons.mp h2 with rfl | h2
      · decide
      rcases List.mem_cons.mp h2 with rfl | h2
      · exact hext_sg _ (List.contains_iff_mem.mp ha)
      · rw [List.mem_singleton.mp h2]; exact hext_sg _ (List.contains_iff_mem.mp hb)
    · rw [List.mem_singleton.mp h2]; exact hd
  · rw [e] at h
    rcases hp p h with ⟨a, b, rfl, _⟩ | ⟨d, hd, _, rfl⟩
    · simp
    · intro z
      exact hd (by simpa using z)
theorem wd_all {l : T} (h : WdT l) : ∀ p ∈ pcs l, WP p := by
  obtain ⟨ps, rfl, hp⟩ := h
  rw [wp_pcs hp]
  exact hp
theorem gd_wd {l : T} (h : GdT l) : WdT l := by
  obtain ⟨ps, rfl, hp⟩ := h
  exact ⟨ps, rfl, fun p h => (hp p h).imp (fun ⟨a, b, e, ha, hb, _⟩ => ⟨a, b, e, ha, hb⟩) id⟩
theorem esc_wp : ∀ k < 256, ∀ b : Bool, (match tl (escB b k) with | [94, x, y] => HEXT.contains x && HEXT.contains y | _ => false) = true := by decide +kernel
theorem escB_wp {b : Bool} {k : Nat} (h : k < 256) : WP (tl (escB b k)) := by
  have e := esc_wp k h b
  split at e
  · rename_i x y he
    rw [Bool.and_eq_true] at e
    exact .inl ⟨x, y, he, e.1, e.2⟩
  · cases e
theorem octP_lt {a b : Nat} (ha : HEXT.contains a = true) (hb : HEXT.contains b = true) : octP [94, a, b] < 256 := by
  have : ∀ x ∈ HEXT, ∀ y ∈ HEXT, octP [94, x, y] < 256 := by decide +kernel
  exact this a (List.contains_iff_mem.mp ha) b (List.contains_iff_mem.mp hb)
theorem cat_str {K : PySem.W.Frag} {H : Hp} {p r : Addr} {xs ys : List Str} {Q : VK} (hp : H p = some (.lst (xs.map V.str))) (hr : H r = some (.lst (ys.map V.str))) (hl : xs.length + ys.length ≤ 2000) (q : ∀ t, H t = none → Q (.ref t) (upd H t (.lst ((xs ++ ys).map V.str)))) : rCat (.ref p) (.ref r) H Q ∨ rCatT K (.ref p) (.ref r) H Q := by
  have sl := sl
  refine .inl ⟨_, _, _, _, rfl, rfl, hp, hr, by rw [List.length_map, List.length_map]; omega, fun t ht => ?_⟩
  rw [← List.map_append]
  exact q t ht
theorem cutV_pre (xs : List V) (n : Nat) : cutV xs none (some (n : Int)) = xs.take n := by
  show ((xs.drop (HT.sIx xs.length 0 none)).take (HT.sIx xs.length xs.length (some (n : Int)) - HT.sIx xs.length 0 none)) = _
  rw [HT.sIx_nat, HT.sIx_none, List.drop_zero, Nat.sub_zero, ← List.take_eq_take_min]
theorem cutV_post (xs : List V) (n : Nat) : cutV xs (some (n : Int)) none = xs.drop n := by
  show ((xs.drop (HT.sIx xs.length 0 (some (n : Int)))).take (HT.sIx xs.length xs.length none - HT.sIx xs.length 0 (some (n : Int)))) = _
  rw [HT.sIx_nat, HT.sIx_none]
  by_cases h : n ≤ xs.length
  · rw [Nat.min_eq_left h]
    exact List.take_of_length_le (by rw [List.length_drop]; omega)
  · rw [Nat.min_eq_right (by omega), List.drop_eq_nil_of_le (Nat.le_refl _), List.drop_eq_nil_of_le (show xs.length ≤ n by omega), List.take_nil]
def spFw : Sp := fun vs H Q _ => match vs with
  | [.str t] => t.length ≤ 20000 ∧ QOk (tl t) ∧ ∀ H', Ext H H' → Q (match wrongQ (tl t) with | some i => .int (posn (pcs (tl t)) i : Nat) | none => .non) H'
  | _ => False
def spSpoil : Sp := fun vs H Q _ => match vs with
  | [.ref b, .str t] => Bg H b ∧ t.length ≤ 300 ∧ WdT (tl t) ∧ ∀ z H', z.length ≤ 1000 → WdT (tl z) → Bg H' b → Kp b H H' → Q (.str z) H'
  | _ => False
section
variable {P : Program} {w : World} {K : PySem.W.Frag} {mg : Str → Option Value} {base : Heap}
theorem ok__law_first_wrong (c : Ct w K mg) : OkF P w K mg base CX0 4 (He.ga K "_law_first_wrong") ["text"] (spFw) := by
  obtain ⟨fd, F⟩ := F__law_first_wrong c
  refine ⟨fd, F.ok sc__law_first_wrong (fun vs H Q E h => ?_) (fun cdv A outer s H vs Q E hr h => ⟨_, PSs.nox ((pss_cons (ps_set (i := 1) (sc__law_first_wrong).nd rfl (Or.inl rfl) pe_int) (pss_cons (ps_for PassesOwn.never rfl (pi_list (pf (ok__law_pieces c) (hr.mono (by decide)) (g__law_pieces c) (k__law_pieces c) pass0 (pa_cons (cv 0) pa_nil))) (pg_name (i := 2) (sc__law_first_wrong).nd rfl (Or.inl rfl)) (pss_cons (ps_if (PW.pt (pw_and (ctc (ho_eq (hu64 hr)) (pe_callB hc_len (by rfl) (b_len c) (by decide +kernel) (pa_cons (cv 2) pa_nil)) pe_int (by rfl)) (pw_and1 (ctc (ho_eq (hu64 hr)) (pf (ok__law_sign c) (hr.mono (by decide)) (g__law_sign c) (k__law_sign c) pass0 (pa_cons (pf (ok__law_octet c) (hr.mono (by decide)) (g__law_octet c) (k__law_octet c) pass0 (pa_cons (cv 2) (pa_cons pe_int pa_nil))) pa_nil)) pe_str (by rfl))))) (pss_one (ps_ret (cv 1))) pss_nil) (pss_one (ps_set (i := 1) (sc__law_first_wrong).nd rfl (Or.inl rfl) (pe_op co_add (cv 1) (pe_callB hc_len (by rfl) (b_len c) (by decide +kernel) (pa_cons (cv 2) pa_nil))))))) (pss_one (ps_ret pe_non))))), ?_⟩), F.bindsN fun _ _ _ _ _ _ us hl => match us, hl with | [_], _ => rfl⟩
  · unfold spFw at h
    split at h
    · rfl
    · exact h.elim
  · unfold spFw at h
    split at h
    case h_2 => exact h.elim
    rename_i t
    obtain ⟨ht, hqo, q⟩ := h
    have sl := sl
    refine seqStep ?_
    (try simp only [tNext, tFor_eq, cBl, tOp, tC, cI, cIc, cAdd, cVar, hEq, hNe, hIn, hNotIn, hLen, hSl, tM1, tBM, cT1, cT1f, cFind3, cSplit, cPart, rNewStrs, hIsS, hTru, tAsg, gName, gSub, tRet, tRetN, tCons, tNil, tTup, tLst, tCB, tNot, tAnd, tNotV, tAndV, tOrV, tOr, V.bl.injEq, V.int.injEq, V.str.injEq, exists_eq_left', exists_eq_left, exists_eq', true_and, and_true, cIsN, L2.start, gTup, gCons, gNil, nox_K, cx_K, tCallF, tSl, tPart, tNoPart, iEnum, RZ.iZipA, iRng1, iRng2, cAbs, List.map_cons, List.map_nil, List.length_cons, List.length_nil, List.replicate, List.cons_append, List.nil_append, List.getElem?_cons_zero, List.getElem?_cons_succ, List.getElem?_nil, List.set_cons_zero, List.set_cons_succ, Nat.reduceAdd, Nat.reduceSub, Nat.zero_add, if_true, if_false, reduceIte, reduceCtorEq, Bool.false_eq_true, decide_eq_true_eq, tDrop, cMin2, cJoin, iList, tDNewK, tLc_eq, iStr, wipe])
    refine seqCps (fun σ H' => (∃ u2, σ = [some (.str t), some (.int (posn (pcs (tl t)) (pcs (tl t)).length : Nat)), u2]) ∧ Ext H H' ∧ wrongQ (tl t) = none) (fun Nx hN => ?_) ?_
    · (try simp only [tNext, tFor_eq, cBl, tOp, tC, cI, cIc, cAdd, cVar, hEq, hNe, hIn, hNotIn, hLen, hSl, tM1, tBM, cT1, cT1f, cFind3, cSplit, cPart, rNewStrs, hIsS, hTru, tAsg, gName, gSub, tRet, tRetN, tCons, tNil, tTup, tLst, tCB, tNot, tAnd, tNotV, tAndV, tOrV, tOr, V.bl.injEq, V.int.injEq, V.str.injEq, exists_eq_left', exists_eq_left, exists_eq', true_and, and_true, cIsN, L2.start, gTup, gCons, gNil, nox_K, cx_K, tCallF, tSl, tPart, tNoPart, iEnum, RZ.iZipA, iRng1, iRng2, cAbs, List.map_cons, List.map_nil, List.length_cons, List.length_nil, List.replicate, List.cons_append, List.nil_append, List.getElem?_cons_zero, List.getElem?_cons_succ, List.getElem?_nil, List.set_cons_zero, List.set_cons_succ, Nat.reduceAdd, Nat.reduceSub, Nat.zero_add, if_true, if_false, reduceIte, reduceCtorEq, Bool.false_eq_true, decide_eq_true_eq, tDrop, cMin2, cJoin, iList, tDNewK, tLc_eq, iStr, wipe])
      refine ⟨by omega, fun p zs H2 x2 hp0 hp ez => ⟨p, rfl, ⟨_, .inl (Rd.of hp)⟩, ?_⟩⟩
      have lt := TL.len_tl t
      have npc := pcs_len (tl t)
      have nz : zs.length = (pcs (tl t)).length := by rw [← ez, List.length_map]
      refine lp_list (xs := zs.map V.str) (fun j σ H' => ∃ u2 : Option V, σ = [some (.str t), some (.int (posn (pcs (tl t)) j : Nat)), u2] ∧ Ext H2 H' ∧ ∀ q ∈ (pcs (tl t)).take j, sgP q = true) ⟨_, rfl, Ext.rf, fun q hq => by simp at hq⟩ ?_ ?_ ?_
      · rintro j σ H' _ ⟨_, _, x, _⟩
        exact .inl (Rd.of (x _ _ hp))
      · rintro j v σ H3 hv ⟨u2, rfl, x3, hgood⟩
        obtain ⟨z, hz, rfl⟩ := Gd.of_strs hv
        have hzt : (pcs (tl t))[j]? = some (tl z) := by rw [← ez, List.getElem?_map, hz]; rfl
        have hm := List.mem_of_getElem? hzt
        have hisp := pcs_is hm
        have hlz : z.length ≤ 3 := by
          rw [TL.len_tl]
          rcases hisp with ⟨a, b, e, _, _⟩ | ⟨c, e⟩ <;> rw [e] <;> simp
        have epos : posn (pcs (tl t)) (j + 1) = posn (pcs (tl t)) j + z.length := by
          unfold posn
          rw [take_snoc hzt, List.map_append, List.sum_append, TL.len_tl]
          simp
        have fin : sgP (tl z) = true → ∃ u2 : Option V, [some (V.str t), some (.int ((posn (pcs (tl t)) j : Nat) + (z.length : Nat))), some (V.str z)] = [some (.str t), some (.int (posn (pcs (tl t)) (j + 1) : Nat)), u2] ∧ Ext H2 H3 ∧ ∀ q ∈ (pcs (tl t)).take (j + 1), sgP q = true := fun hs => by
          refine ⟨_, by rw [epos]; rfl, x3, fun q hq => ?_⟩
          rw [take_snoc hzt] at hq
          rcases List.mem_append.mp hq with hq | hq
          · exact hgood q hq
          · rw [List.mem_singleton.mp hq]; exact hs
        (try simp only [tNext, tFor_eq, cBl, tOp, tC, cI, cIc, cAdd, cVar, hEq, hNe, hIn, hNotIn, hLen, hSl, tM1, tBM, cT1, cT1f, cFind3, cSplit, cPart, rNewStrs, hIsS, hTru, tAsg, gName, gSub, tRet, tRetN, tCons, tNil, tTup, tLst, tCB, tNot, tAnd, tNotV, tAndV, tOrV, tOr, V.bl.injEq, V.int.injEq, V.str.injEq, exists_eq_left', exists_eq_left, exists_eq', true_and, and_true, cIsN, L2.start, gTup, gCons, gNil, nox_K, cx_K, tCallF, tSl, tPart, tNoPart, iEnum, RZ.iZipA, iRng1, iRng2, cAbs, List.map_cons, List.map_nil, List.length_cons, List.length_nil, List.replicate, List.cons_append, List.nil_append, List.getElem?_cons_zero, List.getElem?_cons_succ, List.getElem?_nil, List.set_cons_zero, List.set_cons_succ, Nat.reduceAdd, Nat.reduceSub, Nat.zero_add, if_true, if_false, reduceIte, reduceCtorEq, Bool.false_eq_true, decide_eq_true_eq, tDrop, cMin2, cJoin, iList, tDNewK, tLc_eq, iStr, wipe])
        refine seqStep ?_
        try unfold tIfS
        refine cpsT (R := tAnd _ _ _ _) (fun b' H' => H' = H3 ∧ b' = !sgP (tl z)) ?_ ?_
        case refine_2 =>
          intro Q' hQ
          unfold tAnd
          (try simp only [tNext, tFor_eq, cBl, tOp, tC, cI, cIc, cAdd, cVar, hEq, hNe, hIn, hNotIn, hLen, hSl, tM1, tBM, cT1, cT1f, cFind3, cSplit, cPart, rNewStrs, hIsS, hTru, tAsg, gName, gSub, tRet, tRetN, tCons, tNil, tTup, tLst, tCB, tNot, tAnd, tNotV, tAndV, tOrV, tOr, V.bl.injEq, V.int.injEq, V.str.injEq, exists_eq_left', exists_eq_left, exists_eq', true_and, and_true, cIsN, L2.start, gTup, gCons, gNil, nox_K, cx_K, tCallF, tSl, tPart, tNoPart, iEnum, RZ.iZipA, iRng1, iRng2, cAbs, List.map_cons, List.map_nil, List.length_cons, List.length_nil, List.replicate, List.cons_append, List.nil_append, List.getElem?_cons_zero, List.getElem?_cons_succ, List.getElem?_nil, List.set_cons_zero, List.set_cons_succ, Nat.reduceAdd, Nat.reduceSub, Nat.zero_add, if_true, if_false, reduceIte, reduceCtorEq, Bool.false_eq_true, decide_eq_true_eq, tDrop, cMin2, cJoin, iList, tDNewK, tLc_eq, iStr, wipe])
          refine ⟨by omega, ?_⟩
          rcases hisp with ⟨a, b, e, ha, hb⟩ | ⟨c, e⟩
          · have hl3 : z.length = 3 := by rw [TL.len_tl, e]; rfl
            rw [if_pos (by omega)]
            refine ⟨0, rfl, by omega, by omega, ?_, octP (tl z), ?_, ?_, ?_⟩
            · rw [List.drop_zero, e]
              show (94 == 94 && (HEXT.contains a && HEXT.contains b)) = true
              rw [ha, hb]
              rfl
            · rw [List.drop_zero, e]
              rfl
            · rw [e]; exact octP_lt ha hb
            · have e3 : sgP (tl z) = isSg (octP (tl z)) := by
                unfold sgP
                rw [if_pos (by rw [e]; rfl)]
              have l3 : octP (tl z) < 256 := by rw [e]; exact octP_lt ha hb
              refine hQ _ _ ⟨rfl, ?_⟩
              rw [e3]
              cases hs : isSg (octP (tl z)) with
              | false => exact decide_eq_true ((sgn_empty _ l3).mpr hs)
              | true => exact decide_eq_false (fun z => by rw [(sgn_empty _ l3).mp z] at hs; cases hs)
          · have hl1 : z.length = 1 := by rw [TL.len_tl, e]; rfl
            rw [if_neg (by omega)]
            refine hQ _ _ ⟨rfl, ?_⟩
            unfold sgP
            rw [e]
            rfl
        rintro b' H' ⟨rfl, rfl⟩
        cases hs : sgP (tl z) with
        | false =>
          rw [wrongQ_here hgood hzt hs] at q
          rw [if_pos (show (!false) = true from rfl)]
          (try simp only [tNext, tFor_eq, cBl, tOp, tC, cI, cIc, cAdd, cVar, hEq, hNe, hIn, hNotIn, hLen, hSl, tM1, tBM, cT1, cT1f, cFind3, cSplit, cPart, rNewStrs, hIsS, hTru, tAsg, gName, gSub, tRet, tRetN, tCons, tNil, tTup, tLst, tCB, tNot, tAnd, tNotV, tAndV, tOrV, tOr, V.bl.injEq, V.int.injEq, V.str.injEq, exists_eq_left', exists_eq_left, exists_eq', true_and, and_true, cIsN, L2.start, gTup, gCons, gNil, nox_K, cx_K, tCallF, tSl, tPart, tNoPart, iEnum, RZ.iZipA, iRng1, iRng2, cAbs, List.map_cons, List.map_nil, List.length_cons, List.length_nil, List.replicate, List.cons_append, List.nil_append, List.getElem?_cons_zero, List.getElem?_cons_succ, List.getElem?_nil, List.set_cons_zero, List.set_cons_succ, Nat.reduceAdd, Nat.reduceSub, Nat.zero_add, if_true, if_false, reduceIte, reduceCtorEq, Bool.false_eq_true, decide_eq_true_eq, tDrop, cMin2, cJoin, iList, tDNewK, tLc_eq, iStr, wipe])
          exact q _ (x2.tr x3)
        | true =>
          rw [if_neg (by decide)]
          try simp only [tNext]
          (try simp only [tNext, tFor_eq, cBl, tOp, tC, cI, cIc, cAdd, cVar, hEq, hNe, hIn, hNotIn, hLen, hSl, tM1, tBM, cT1, cT1f, cFind3, cSplit, cPart, rNewStrs, hIsS, hTru, tAsg, gName, gSub, tRet, tRetN, tCons, tNil, tTup, tLst, tCB, tNot, tAnd, tNotV, tAndV, tOrV, tOr, V.bl.injEq, V.int.injEq, V.str.injEq, exists_eq_left', exists_eq_left, exists_eq', true_and, and_true, cIsN, L2.start, gTup, gCons, gNil, nox_K, cx_K, tCallF, tSl, tPart, tNoPart, iEnum, RZ.iZipA, iRng1, iRng2, cAbs, List.map_cons, List.map_nil, List.length_cons, List.length_nil, List.replicate, List.cons_append, List.nil_append, List.getElem?_cons_zero, List.getElem?_cons_succ, List.getElem?_nil, List.set_cons_zero, List.set_cons_succ, Nat.reduceAdd, Nat.reduceSub, Nat.zero_add, if_true, if_false, reduceIte, reduceCtorEq, Bool.false_eq_true, decide_eq_true_eq, tDrop, cMin2, cJoin, iList, tDNewK, tLc_eq, iStr, wipe])
          exact ⟨by omega, fin hs⟩
      · rintro σ H3 ⟨u2, rfl, x3, hgood⟩
        rw [List.length_map, nz, List.take_length] at hgood
        rw [List.length_map, nz]
        exact hN _ _ ⟨⟨_, rfl⟩, x2.tr x3, wrongQ_none hgood⟩
    · rintro σ H' ⟨⟨u2, rfl⟩, x, e⟩
      (try simp only [tNext, tFor_eq, cBl, tOp, tC, cI, cIc, cAdd, cVar, hEq, hNe, hIn, hNotIn, hLen, hSl, tM1, tBM, cT1, cT1f, cFind3, cSplit, cPart, rNewStrs, hIsS, hTru, tAsg, gName, gSub, tRet, tRetN, tCons, tNil, tTup, tLst, tCB, tNot, tAnd, tNotV, tAndV, tOrV, tOr, V.bl.injEq, V.int.injEq, V.str.injEq, exists_eq_left', exists_eq_left, exists_eq', true_and, and_true, cIsN, L2.start, gTup, gCons, gNil, nox_K, cx_K, tCallF, tSl, tPart, tNoPart, iEnum, RZ.iZipA, iRng1, iRng2, cAbs, List.map_cons, List.map_nil, List.length_cons, List.length_nil, List.replicate, List.cons_append, List.nil_append, List.getElem?_cons_zero, List.getElem?_cons_succ, List.getElem?_nil, List.set_cons_zero, List.set_cons_succ, Nat.reduceAdd, Nat.reduceSub, Nat.zero_add, if_true, if_false, reduceIte, reduceCtorEq, Bool.false_eq_true, decide_eq_true_eq, tDrop, cMin2, cJoin, iList, tDNewK, tLc_eq, iStr, wipe])
      rw [e] at q
      exact q _ x
theorem ok__law_spoilt (c : Ct w K mg) : OkF P w K mg base CX0 4 (He.ga K "_law_spoilt") ["bag", "text"] (spSpoil) := by
  obtain ⟨fd, F⟩ := F__law_spoilt c
  refine ⟨fd, F.ok sc__law_spoilt (fun vs H Q E h => ?_) (fun cdv A outer s H vs Q E hr h => ⟨_, PSs.nox ((pss_cons (ps_set (i := 2) (sc__law_spoilt).nd rfl (Or.inl rfl) (pf (ok__law_pieces c) (hr.mono (by decide)) (g__law_pieces c) (k__law_pieces c) pass0 (pa_cons (cv 1) pa_nil))) (pss_cons (ps_for PassesOwn.never rfl (pi_range1 rfl (b_range c) (pa_cons (pe_op co_add pe_int (pf (ok__law_take c) (hr.mono (by decide)) (g__law_take c) (k__law_take c) pass0 (pa_cons (cv 0) (pa_cons pe_int pa_nil)))) pa_nil)) (pg_name (i := 3) (sc__law_spoilt).nd rfl (Or.inl rfl)) (pss_cons (ps_set (i := 4) (sc__law_spoilt).nd rfl (Or.inl rfl) (pe_lst (pa_cons (pf (ok__law_take c) (hr.mono (by decide)) (g__law_take c) (k__law_take c) pass0 (pa_cons (cv 0) (pa_cons pe_int pa_nil))) (pa_cons pe_int (pa_cons (pe_op co_add pe_int (pf (ok__law_take c) (hr.mono (by decide)) (g__law_take c) (k__law_take c) pass0 (pa_cons (cv 0) (pa_cons pe_int pa_nil)))) (pa_cons pe_int (pa_cons pe_int (pa_cons pe_int (pa_cons pe_int (pa_cons pe_int pa_nil)))))))))) (pss_cons (ps_set (i := 5) (sc__law_spoilt).nd rfl (Or.inl rfl) (hix (cv 4) (pf (ok__law_take c) (hr.mono (by decide)) (g__law_take c) (k__law_take c) pass0 (pa_cons (cv 0) (pa_cons pe_int pa_nil))))) (pss_cons (ps_set (i := 6) (sc__law_spoilt).nd rfl (Or.inl rfl) (pf (ok__law_take c) (hr.mono (by decide)) (g__law_take c) (k__law_take c) pass0 (pa_cons (cv 0) (pa_cons (pe_op co_add (pe_callB hc_len (by rfl) (b_len c) (by decide +kernel) (pa_cons (cv 2) pa_nil)) pe_int) pa_nil)))) (pss_one (ps_set (i := 2) (sc__law_spoilt).nd rfl (Or.inl rfl) (pe_op co_add (pe_op co_add (pe_slice hs_any (cv 2) po_none (po_some (cv 6))) (pe_lst (pa_cons (pf (ok__law_escape c) (hr.mono (by decide)) (g__law_escape c) (k__law_escape c) pass0 (pa_cons (cv 5) (pa_cons (pe_cmpR (ho_eq (hu64 hr)) (pf (ok__law_take c) (hr.mono (by decide)) (g__law_take c) (k__law_take c) pass0 (pa_cons (cv 0) (pa_cons pe_int pa_nil))) pe_int (by rfl)) pa_nil))) pa_nil))) (pe_slice hs_any (cv 2) (po_some (cv 6)) po_none)))))))) (pss_one (ps_ret (pe_m1 PySem.F.slot_str_join PySem.F.type_str_join hm_join pe_str (cv 2))))))), ?_⟩), F.bindsN fun _ _ _ _ _ _ us hl => match us, hl with | [_, _], _ => rfl⟩
  · unfold spSpoil at h
    split at h
    · rfl
    · exact h.elim
  · unfold spSpoil at h
    split at h
    case h_2 => exact h.elim
    rename_i b t
    obtain ⟨hb, ht, hw, q⟩ := h
    have sl := sl
    refine seqStep ?_
    (try simp only [tNext, tFor_eq, cBl, tOp, tC, cI, cIc, cAdd, cVar, hEq, hNe, hIn, hNotIn, hLen, hSl, tM1, tBM, cT1, cT1f, cFind3, cSplit, cPart, rNewStrs, hIsS, hTru, tAsg, gName, gSub, tRet, tRetN, tCons, tNil, tTup, tLst, tCB, tNot, tAnd, tNotV, tAndV, tOrV, tOr, V.bl.injEq, V.int.injEq, V.str.injEq, exists_eq_left', exists_eq_left, exists_eq', true_and, and_true, cIsN, L2.start, gTup, gCons, gNil, nox_K, cx_K, tCallF, tSl, tPart, tNoPart, iEnum, RZ.iZipA, iRng1, iRng2, cAbs, List.map_cons, List.map_nil, List.length_cons, List.length_nil, List.replicate, List.cons_append, List.nil_append, List.getElem?_cons_zero, List.getElem?_cons_succ, List.getElem?_nil, List.set_cons_zero, List.set_cons_succ, Nat.reduceAdd, Nat.reduceSub, Nat.zero_add, if_true, if_false, reduceIte, reduceCtorEq, Bool.false_eq_true, decide_eq_true_eq, tDrop, cMin2, cJoin, iList, tDNewK, tLc_eq, iStr, wipe])
    refine ⟨by omega, fun p zs H2 x2 hp0 hp ez => ?_⟩
    have npc := pcs_len (tl t)
    have lt := TL.len_tl t
    have nz : zs.length = (pcs (tl t)).length := by rw [← ez, List.length_map]
    have hzs : ∀ z ∈ zs, WP (tl z) := fun z hz => wd_all hw _ (by rw [← ez]; exact List.mem_map_of_mem hz)
    have hb2 := bg_ext x2 hb
    have hk2 : Kp b H H2 := ext_kp x2
    have hpb : p ≠ b := hb.ne hp0
    try dsimp only
    refine seqCps (fun σ H' => ∃ (p' : Addr) (ys : List Str) (u3 u4 u5 u6 : Option V), σ = [some (.ref b), some (.str t), some (.ref p'), u3, u4, u5, u6] ∧ H' p' = some (.lst (ys.map V.str)) ∧ (∀ z ∈ ys, WP (tl z)) ∧ ys.length ≤ 303 ∧ p' ≠ b ∧ Bg H' b ∧ Kp b H H') (fun Nx hN => ?_) ?_
    · (try simp only [tNext, tFor_eq, cBl, tOp, tC, cI, cIc, cAdd, cVar, hEq, hNe, hIn, hNotIn, hLen, hSl, tM1, tBM, cT1, cT1f, cFind3, cSplit, cPart, rNewStrs, hIsS, hTru, tAsg, gName, gSub, tRet, tRetN, tCons, tNil, tTup, tLst, tCB, tNot, tAnd, tNotV, tAndV, tOrV, tOr, V.bl.injEq, V.int.injEq, V.str.injEq, exists_eq_left', exists_eq_left, exists_eq', true_and, and_true, cIsN, L2.start, gTup, gCons, gNil, nox_K, cx_K, tCallF, tSl, tPart, tNoPart, iEnum, RZ.iZipA, iRng1, iRng2, cAbs, List.map_cons, List.map_nil, List.length_cons, List.length_nil, List.replicate, List.cons_append, List.nil_append, List.getElem?_cons_zero, List.getElem?_cons_succ, List.getElem?_nil, List.set_cons_zero, List.set_cons_succ, Nat.reduceAdd, Nat.reduceSub, Nat.zero_add, if_true, if_false, reduceIte, reduceCtorEq, Bool.false_eq_true, decide_eq_true_eq, tDrop, cMin2, cJoin, iList, tDNewK, tLc_eq, iStr, wipe])
      refine take_ok hb2 (by omega) (by omega) fun d H3 d0 d1 hb3 k3 => ?_
      refine ⟨_, rfl, by omega, by omega, ?_⟩
      refine lp_range (fun j σ H' => ∃ (p' : Addr) (ys : List Str) (u3 u4 u5 u6 : Option V), σ = [some (.ref b), some (.str t), some (.ref p'), u3, u4, u5, u6] ∧ H' p' = some (.lst (ys.map V.str)) ∧ (∀ z ∈ ys, WP (tl z)) ∧ ys.length ≤ 300 + j ∧ p' ≠ b ∧ Bg H' b ∧ Kp b H H') ⟨p, zs, _, _, _, _, rfl, k3 _ _ hpb hp, hzs, by omega, hpb, hb3, hk2.trans k3⟩ ?_ (fun σ H' ⟨p', ys, u3, u4, u5, u6, e, h1, h2, h3, h4, h5⟩ => hN _ _ ⟨p', ys, u3, u4, u5, u6, e, h1, h2, by omega, h4, h5⟩)
      rintro j σ H4 hj ⟨p', ys, u3, u4, u5, u6, rfl, hp', hys, lys, hpb', hb4, hk4⟩
      have hj3 : j < 3 := by omega
      refine seqStep ?_
      (try simp only [tNext, tFor_eq, cBl, tOp, tC, cI, cIc, cAdd, cVar, hEq, hNe, hIn, hNotIn, hLen, hSl, tM1, tBM, cT1, cT1f, cFind3, cSplit, cPart, rNewStrs, hIsS, hTru, tAsg, gName, gSub, tRet, tRetN, tCons, tNil, tTup, tLst, tCB, tNot, tAnd, tNotV, tAndV, tOrV, tOr, V.bl.injEq, V.int.injEq, V.str.injEq, exists_eq_left', exists_eq_left, exists_eq', true_and, and_true, cIsN, L2.start, gTup, gCons, gNil, nox_K, cx_K, tCallF, tSl, tPart, tNoPart, iEnum, RZ.iZipA, iRng1, iRng2, cAbs, List.map_cons, List.map_nil, List.length_cons, List.length_nil, List.replicate, List.cons_append, List.nil_append, List.getElem?_cons_zero, List.getElem?_cons_succ, List.getElem?_nil, List.set_cons_zero, List.set_cons_succ, Nat.reduceAdd, Nat.reduceSub, Nat.zero_add, if_true, if_false, reduceIte, reduceCtorEq, Bool.false_eq_true, decide_eq_true_eq, tDrop, cMin2, cJoin, iList, tDNewK, tLc_eq, iStr, wipe])
      refine take_ok hb4 (by omega) (by omega) fun a1 H5 a10 a11 hb5 k5 => ?_
      refine take_ok hb5 (by omega) (by omega) fun a2 H6 a20 a21 hb6 k6 => ?_
      refine ⟨by omega, fun p1 hp1 => ?_⟩
      have n1 : p1 ≠ b := hb6.ne hp1
      have hb6' := hb6.fresh (o := .lst [.int a1, .int 37, .int (127 + a2), .int 32, .int 126, .int 31, .int 127, .int 255]) hp1
      have k46 : Kp b H4 (upd H6 p1 (.lst [.int a1, .int 37, .int (127 + a2), .int 32, .int 126, .int 31, .int 127, .int 255])) := (k5.trans k6).fresh hp1
      have g1 : (upd H6 p1 (.lst [.int a1, .int 37, .int (127 + a2), .int 32, .int 126, .int 31, .int 127, .int 255])) p1 = some (.lst [.int a1, .int 37, .int (127 + a2), .int 32, .int 126, .int 31, .int 127, .int 255]) := upd_self
      generalize (upd H6 p1 (.lst [.int a1, .int 37, .int (127 + a2), .int 32, .int 126, .int 31, .int 127, .int 255])) = G6 at *
      refine seqStep ?_
      (try simp only [tNext, tFor_eq, cBl, tOp, tC, cI, cIc, cAdd, cVar, hEq, hNe, hIn, hNotIn, hLen, hSl, tM1, tBM, cT1, cT1f, cFind3, cSplit, cPart, rNewStrs, hIsS, hTru, tAsg, gName, gSub, tRet, tRetN, tCons, tNil, tTup, tLst, tCB, tNot, tAnd, tNotV, tAndV, tOrV, tOr, V.bl.injEq, V.int.injEq, V.str.injEq, exists_eq_left', exists_eq_left, exists_eq', true_and, and_true, cIsN, L2.start, gTup, gCons, gNil, nox_K, cx_K, tCallF, tSl, tPart, tNoPart, iEnum, RZ.iZipA, iRng1, iRng2, cAbs, List.map_cons, List.map_nil, List.length_cons, List.length_nil, List.replicate, List.cons_append, List.nil_append, List.getElem?_cons_zero, List.getElem?_cons_succ, List.getElem?_nil, List.set_cons_zero, List.set_cons_succ, Nat.reduceAdd, Nat.reduceSub, Nat.zero_add, if_true, if_false, reduceIte, reduceCtorEq, Bool.false_eq_true, decide_eq_true_eq, tDrop, cMin2, cJoin, iList, tDNewK, tLc_eq, iStr, wipe])
      refine take_ok hb6' (by omega) (by omega) fun e H7 e0 e1 hb7 k7 => ?_
      refine hIx_all (k7 _ _ n1 g1) e0 e1 fun v hv => ?_
      obtain ⟨kc, rfl, hkc⟩ : ∃ kc : Nat, v = .int (kc : Nat) ∧ kc < 256 := by
        simp only [List.mem_cons, List.not_mem_nil, or_false] at hv
        rcases hv with rfl | rfl | rfl | rfl | rfl | rfl | rfl | rfl
        · exact ⟨a1.toNat, by rw [Int.toNat_of_nonneg a10], by omega⟩
        · exact ⟨37, rfl, by decide⟩
        · exact ⟨(127 + a2).toNat, by rw [Int.toNat_of_nonneg (by omega)], by omega⟩
        · exact ⟨32, rfl, by decide⟩
        · exact ⟨126, rfl, by decide⟩
        · exact ⟨31, rfl, by decide⟩
        · exact ⟨127, rfl, by decide⟩
        · exact ⟨255, rfl, by decide⟩
      have k47 := k46.trans k7
      have hp7 := k47 _ _ hpb' hp'
      refine seqStep ?_
      (try simp only [tNext, tFor_eq, cBl, tOp, tC, cI, cIc, cAdd, cVar, hEq, hNe, hIn, hNotIn, hLen, hSl, tM1, tBM, cT1, cT1f, cFind3, cSplit, cPart, rNewStrs, hIsS, hTru, tAsg, gName, gSub, tRet, tRetN, tCons, tNil, tTup, tLst, tCB, tNot, tAnd, tNotV, tAndV, tOrV, tOr, V.bl.injEq, V.int.injEq, V.str.injEq, exists_eq_left', exists_eq_left, exists_eq', true_and, and_true, cIsN, L2.start, gTup, gCons, gNil, nox_K, cx_K, tCallF, tSl, tPart, tNoPart, iEnum, RZ.iZipA, iRng1, iRng2, cAbs, List.map_cons, List.map_nil, List.length_cons, List.length_nil, List.replicate, List.cons_append, List.nil_append, List.getElem?_cons_zero, List.getElem?_cons_succ, List.getElem?_nil, List.set_cons_zero, List.set_cons_succ, Nat.reduceAdd, Nat.reduceSub, Nat.zero_add, if_true, if_false, reduceIte, reduceCtorEq, Bool.false_eq_true, decide_eq_true_eq, tDrop, cMin2, cJoin, iList, tDNewK, tLc_eq, iStr, wipe])
      rw [hp7]
      try simp only [List.length_map]
      refine take_ok hb7 (by omega) (by omega) fun at_ H8 t0 t1 hb8 k8 => ?_
      obtain ⟨ia, rfl⟩ : ∃ m : Nat, at_ = m := ⟨at_.toNat, by omega⟩
      have k48 := k47.trans k8
      have hp8 := k48 _ _ hpb' hp'
      refine ⟨_, rfl, ?_⟩
      rw [hp8]
      try dsimp only
      intro q1 hq1
      rw [cutV_pre, ← List.map_take]
      refine take_ok (hb8.fresh hq1) (by omega) (by omega) fun a3 H9 a30 a31 hb9 k9 => ?_
      have nq1 : q1 ≠ b := hb8.ne hq1
      have gq1 := k9 _ _ nq1 upd_self
      have k49 : Kp b H4 H9 := (k48.fresh hq1).trans k9
      have hp9 := k49 _ _ hpb' hp'
      try dsimp only
      refine ⟨kc, rfl, hkc, ?_⟩
      refine ⟨by omega, fun q2 hq2 => ?_⟩
      try dsimp only
      refine cat_str (K := K) (xs := ys.take ia) (upd_old gq1 hq2) (ys := [escB _ kc]) upd_self (by simp; omega) fun q3 hq3 => ?_
      have xA := ((Ext.rf (H := H9)).fresh (o := .lst [.str (escB (decide (a3 = 0)) kc)]) hq2).fresh (o := .lst ((ys.take ia ++ [escB (decide (a3 = 0)) kc]).map V.str)) hq3
      have gA : (upd (upd H9 q2 (.lst [.str (escB (decide (a3 = 0)) kc)])) q3 (.lst ((ys.take ia ++ [escB (decide (a3 = 0)) kc]).map V.str))) q3 = some (.lst ((ys.take ia ++ [escB (decide (a3 = 0)) kc]).map V.str)) := upd_self
      have hqe : WP (tl (escB (decide (a3 = 0)) kc)) := escB_wp hkc
      generalize escB (decide (a3 = 0)) kc = ez' at *
      generalize (upd (upd H9 q2 (.lst [.str ez'])) q3 (.lst ((ys.take ia ++ [ez']).map V.str))) = HA at *
      have hbA := bg_ext xA hb9
      have k4A : Kp b H4 HA := k49.trans (ext_kp xA)
      have hpA := k4A _ _ hpb' hp'
      refine ⟨_, rfl, ?_⟩
      rw [hpA]
      try dsimp only
      intro q4 hq4
      rw [cutV_post, ← List.map_drop]
      refine cat_str (K := K) (xs := ys.take ia ++ [ez']) (ys := ys.drop ia) (upd_old gA hq4) upd_self (by simp; omega) fun q5 hq5 => ?_
      have nq5 : q5 ≠ b := (hbA.fresh hq4).ne hq5
      refine ⟨q5, ys.take ia ++ [ez'] ++ ys.drop ia, _, _, _, _, rfl, upd_self, fun z hz => ?_, ?_, nq5, (hbA.fresh hq4).fresh hq5, hk4.trans ((k4A.fresh hq4).fresh hq5)⟩
      · simp only [List.mem_append, List.mem_singleton] at hz
        rcases hz with (hz | rfl) | hz
        · exact hys z (List.mem_of_mem_take hz)
        · exact hqe
        · exact hys z (List.mem_of_mem_drop hz)
      · simp only [List.length_append, List.length_take, List.length_drop, List.length_singleton]
        omega
    · rintro σ H3 ⟨p', ys, u3, u4, u5, u6, rfl, hp', hys, lys, _, hb3, hk3⟩
      (try simp only [tNext, tFor_eq, cBl, tOp, tC, cI, cIc, cAdd, cVar, hEq, hNe, hIn, hNotIn, hLen, hSl, tM1, tBM, cT1, cT1f, cFind3, cSplit, cPart, rNewStrs, hIsS, hTru, tAsg, gName, gSub, tRet, tRetN, tCons, tNil, tTup, tLst, tCB, tNot, tAnd, tNotV, tAndV, tOrV, tOr, V.bl.injEq, V.int.injEq, V.str.injEq, exists_eq_left', exists_eq_left, exists_eq', true_and, and_true, cIsN, L2.start, gTup, gCons, gNil, nox_K, cx_K, tCallF, tSl, tPart, tNoPart, iEnum, RZ.iZipA, iRng1, iRng2, cAbs, List.map_cons, List.map_nil, List.length_cons, List.length_nil, List.replicate, List.cons_append, List.nil_append, List.getElem?_cons_zero, List.getElem?_cons_succ, List.getElem?_nil, List.set_cons_zero, List.set_cons_succ, Nat.reduceAdd, Nat.reduceSub, Nat.zero_add, if_true, if_false, reduceIte, reduceCtorEq, Bool.false_eq_true, decide_eq_true_eq, tDrop, cMin2, cJoin, iList, tDNewK, tLc_eq, iStr, wipe])
      have lz : ∀ z ∈ ys, z.length ≤ 3 := fun z hz => by
        rw [TL.len_tl]
        rcases hys z hz with ⟨a, b, e, _⟩ | ⟨c, _, _, e⟩ <;> rw [e] <;> simp
      have hs : (ys.map fun x => x.length).sum ≤ ys.length * 3 := sum_len lz
      have e0' : (Str.ofString "").length = 0 := rfl
      have ej : tl (Txt.join (Str.ofString "") ys) = (ys.map tl).flatten := by
        rw [TL.join_eq, TL.tl_join]
        exact jl_nil _
      refine ⟨ys, .inl (.inl (Rd.of hp')), by rw [e0']; omega, q _ _ ?_ ?_ hb3 hk3⟩
      · rw [TL.len_tl, ej, List.length_flatten, List.map_map]
        have : (List.length ∘ tl) = fun x : Str => x.length := by funext x; exact (TL.len_tl x).symm
        rw [this]; omega
      · rw [ej]
        exact ⟨ys.map tl, rfl, fun p hp => by
          obtain ⟨z, hz, rfl⟩ := List.mem_map.mp hp
          exact hys z hz⟩
end
end Da
set_option Elab.async false
set_option linter.all false
set_option maxRecDepth 100000
set_option maxHeartbeats 4000000
namespace Da
open PySem PySem.Spec PyProof.Rows L2 Hd Xs Fx Mi Ms Md Mq Mp Mr ClX Xr LamX
open TL (tl joinL)
/-! ### what a deed comes to -/
/-- told, or wrong at a place -/
def TOut (K : PySem.W.Frag) : (XK → Hp → VK → Prop) → Hp → VK → Prop := fun tl H Q =>
  ∃ Ech : XK, (∀ cls d H', Ech cls d H' → cls = .ref (He.ga K "BadQuery") ∧ ∃ dd v, d = some dd ∧ H' dd = some (.xd [("place", v)]) ∧ ∀ p, H' p = none → Q (.ref p) (upd H' p (.tup [.str (Str.ofString "wrong"), v]))) ∧
    tl Ech H (fun v H' => ∀ p, H' p = none → Q (.ref p) (upd H' p (.tup [.str (Str.ofString "told"), v])))
section
variable {P : Program} {w : World} {K : PySem.W.Frag} {mg : Str → Option Value} {base : Heap}
theorem out_gives (c : Ct w K mg) {X : Cx} {q : Str} {cdv : Value} (hK : X.K = K) (hmg : X.mg = mg) : GivesTo X ["deed", "e"] "_law_outcome" d__law_outcome.scope (He.ga K "_law_outcome") cdv d__law_outcome.body "deed" q (TOut K) := by
  subst hK hmg
  intro f c' s H Q tl act hc h
  refine ⟨_, pss_one (ps_try_c rfl rfl (fun W pn xe tk _ => pss_one (ps_ret (pe_tup (pa_cons pe_str (pa_cons (pe_tAct (n := 2) rfl tk fun W E tk hW => act W pn xe E _ _ tk hW) pa_nil))))) (catch_as (i := 1) rfl (sc__law_outcome).nd rfl rfl (test_one rfl ⟨rfl, by decide, .inl (g_BadQuery c)⟩) (fun a oe cls d pn hz hf => pss_one (ps_ret (pe_tup (pa_cons pe_str (pa_cons (pe_xf (xf_BadQuery c) (noat_BadQuery_place c) hz hf (cv 1)) pa_nil))))) (catch_nil rfl rfl L2.takes0))), ?_⟩
  obtain ⟨Ech, h1, h2⟩ := h
  (try simp only [tNext, tFor_eq, cBl, tOp, tC, cI, cIc, cAdd, cVar, hEq, hNe, hIn, hNotIn, hLen, hSl, tM1, tBM, cT1, cT1f, cFind3, cSplit, cPart, rNewStrs, hIsS, hTru, tAsg, gName, gSub, tRet, tRetN, tCons, tNil, tTup, tLst, tCB, tNot, tAnd, tNotV, tAndV, tOrV, tOr, V.bl.injEq, V.int.injEq, V.str.injEq, exists_eq_left', exists_eq_left, exists_eq', true_and, and_true, cIsN, L2.start, gTup, gCons, gNil, nox_K, cx_K, tCallF, tSl, tPart, tNoPart, iEnum, RZ.iZipA, iRng1, iRng2, cAbs, List.map_cons, List.map_nil, List.length_cons, List.length_nil, List.replicate, List.cons_append, List.nil_append, List.getElem?_cons_zero, List.getElem?_cons_succ, List.getElem?_nil, List.set_cons_zero, List.set_cons_succ, Nat.reduceAdd, Nat.reduceSub, Nat.zero_add, if_true, if_false, reduceIte, reduceCtorEq, Bool.false_eq_true, decide_eq_true_eq, tDrop, cMin2, cJoin, iList, tDNewK, tLc_eq, iStr, wipe])
  refine ⟨Ech, fun cls d σ' H' hl hE => ?_, rfl, hc, ?_⟩
  · obtain ⟨rfl, dd, v, rfl, hd, q⟩ := h1 cls d H' hE
    obtain ⟨x0, x1, rfl⟩ : ∃ x0 x1, σ' = [x0, x1] := by
      match σ', hl with
      | [x0, x1], _ => exact ⟨x0, x1, rfl⟩
    unfold wClAs
    refine ⟨true, exm_BadQuery_BadQuery c, fun _ a ha => ?_, fun z => nomatch z⟩
    have sl := sl
    unfold tXf
    (try simp only [tNext, tFor_eq, cBl, tOp, tC, cI, cIc, cAdd, cVar, hEq, hNe, hIn, hNotIn, hLen, hSl, tM1, tBM, cT1, cT1f, cFind3, cSplit, cPart, rNewStrs, hIsS, hTru, tAsg, gName, gSub, tRet, tRetN, tCons, tNil, tTup, tLst, tCB, tNot, tAnd, tNotV, tAndV, tOrV, tOr, V.bl.injEq, V.int.injEq, V.str.injEq, exists_eq_left', exists_eq_left, exists_eq', true_and, and_true, cIsN, L2.start, gTup, gCons, gNil, nox_K, cx_K, tCallF, tSl, tPart, tNoPart, iEnum, RZ.iZipA, iRng1, iRng2, cAbs, List.map_cons, List.map_nil, List.length_cons, List.length_nil, List.replicate, List.cons_append, List.nil_append, List.getElem?_cons_zero, List.getElem?_cons_succ, List.getElem?_nil, List.set_cons_zero, List.set_cons_succ, Nat.reduceAdd, Nat.reduceSub, Nat.zero_add, if_true, if_false, reduceIte, reduceCtorEq, Bool.false_eq_true, decide_eq_true_eq, tDrop, cMin2, cJoin, iList, tDNewK, tLc_eq, iStr, wipe])
    exact ⟨dd, _, _, rfl, hd, rfl, by omega, q⟩
  · have sl := sl
    have e : (fun (x : V) (H1 : Hp) => 2 ≤ sizeLine ∧ ∀ (p : Addr), H1 p = none → Q (.ref p) (upd H1 p (.tup [.str (Str.ofString "told"), x]))) = (fun v H' => ∀ p, H' p = none → Q (.ref p) (upd H' p (.tup [.str (Str.ofString "told"), v]))) := by
      funext x H1
      exact propext ⟨And.right, fun a => ⟨by omega, a⟩⟩
    have h2 := h2
    rw [← e] at h2
    exact h2
end
end Da
set_option Elab.async false
set_option linter.all false
set_option maxRecDepth 100000
set_option maxHeartbeats 4000000
namespace Da
open PySem PySem.Spec PyProof.Rows L2 Hd Xs Fx Mi Ms Md Mq Mp Mr ClX Xr
open TL (tl joinL)
/-! ### as data -/
def dOv : Option Str → PyData
  | none => .none
  | some t => .str t
def dPr (p : Pr) : PyData := .tuple [.str p.1, dOv p.2]
def okS (x : Str) : Prop := x.length ≤ 1000 ∧ ∀ c ∈ tl x, c < 127
def okR (p : Pr) : Prop := okS p.1 ∧ ∀ v, p.2 = some v → okS v
theorem dp_ov {K : PySem.W.Frag} {H : Hp} : ∀ o : Option Str, Dp K H (ovS o) (dOv o)
  | none => .non
  | some t => .str t
theorem dp_ovs {K : PySem.W.Frag} {H : Hp} : ∀ vs : List (Option Str), DpAll K H (vs.map ovS) (vs.map dOv)
  | [] => .nil
  | o :: vs => .cons (dp_ov o) (dp_ovs vs)
theorem dp_rows {K : PySem.W.Frag} {H : Hp} : ∀ (as : List Addr) (ps : List Pr), Gd.TAt H as (ps.map rowPr) → DpAll K H (as.map V.ref) (ps.map dPr)
  | [], [], _ => .nil
  | [], _ :: _, h => by have := h.1; simp at this
  | _ :: _, [], h => by have := h.1; simp at this
  | t :: as, p :: ps, h => by
    have h0 : H t = some (.tup (rowPr p)) := h.2 0 t (rowPr p) rfl rfl
    refine .cons (.tup (.inl (Rd.of h0)) (.cons (.str _) (.cons (dp_ov _) .nil))) (dp_rows as ps ⟨Nat.succ.inj h.1, fun i t p h1 h2 => h.2 (i + 1) t p h1 h2⟩)
theorem bare_ok {l : T} {x : Str} (h : ROk l) (hl : l.length ≤ 1000) (e : tl x = bareT l) : okS x := by
  refine ⟨?_, fun c hc => ?_⟩
  · rw [TL.len_tl, e]
    exact Nat.le_trans (bare_len l) hl
  · rw [e] at hc
    unfold bareT at hc
    obtain ⟨p, hp, rfl⟩ := List.mem_map.mp hc
    exact isSg_lt (rok_oct h hp)
theorem rows_ok {l : T} {ps : List Pr} (h : ROk l) (hl : l.length ≤ 1000) (e : ps.map prT = prsT l) : (∀ p ∈ ps, okR p) ∧ ps.length ≤ 1001 := by
  unfold prsT at e
  by_cases h0 : l = []
  · rw [if_pos h0] at e
    rw [List.map_eq_nil_iff.mp e]
    exact ⟨(fun p hp => by cases hp), Nat.zero_le _⟩
  rw [if_neg h0] at e
  refine ⟨fun p hp => ?_, ?_⟩
  · have hm : prT p ∈ (cut 38 l).map itmT := by rw [← e]; exact List.mem_map_of_mem hp
    obtain ⟨m, hm, em⟩ := List.mem_map.mp hm
    have hr : ROk m := rok_sub h (cut_mem 38 _ _ hm) (pcs_cut no38 _ _ (Nat.le_refl _) _ hm)
    have hml := cut_mlen hm
    have l1 := bef_le 61 m
    have l3 := aft_le 61 m
    unfold itmT prT at em
    injection em with em1 em2
    refine ⟨bare_ok (rok_bef hr) (by omega) em1.symm, fun v hv => ?_⟩
    rw [hv] at em2
    cases hc : m.contains 61 with
    | false => rw [hc] at em2; cases em2
    | true =>
      rw [hc, if_pos rfl] at em2
      exact bare_ok (rok_aft hr hc) (by omega) (Option.some.inj em2).symm
  · have := congrArg List.length e
    rw [List.length_map, List.length_map] at this
    have h2 := cut_len 38 l
    omega
theorem okS_can {x : Str} (h : okS x) : PyData.strOk x = true := Sg.ok fun c hc => Nat.lt_trans (h.2 c hc) (by decide)
theorem dOv_all {o : Option Str} (h : ∀ v, o = some v → okS v) : (dOv o).showable = true ∧ (dOv o).hasDict = false ∧ (dOv o).depth ≤ 0 ∧ (dOv o).shown.length ≤ 10002 ∧ (dOv o).canLay0 = true := by
  cases o with
  | none => simp [dOv, PyData.showable, PyData.hasDict, PyData.depth, PyData.shown, PyData.canLay0]; decide
  | some t =>
    have ht := h t rfl
    have := PySem.StrLaws.reprText_len t fun c hc => Nat.lt_trans (ht.2 c hc) (by decide)
    have h4 := ht.1
    simp only [dOv, PyData.showable, PyData.hasDict, PyData.depth, PyData.shown, PyData.canLay0]
    exact ⟨trivial, trivial, Nat.le_refl _, by omega, okS_can ht⟩
theorem canAll_of : ∀ {ds : List PyData}, (∀ d ∈ ds, d.canLay0 = true) → PyData.canLayAll0 ds = true
  | [], _ => by simp [PyData.canLayAll0]
  | d :: ds, h => by
    simp only [PyData.canLayAll0, h d (List.mem_cons_self ..), Bool.true_and]
    exact canAll_of fun x hx => h x (List.mem_cons_of_mem _ hx)
theorem dPr_can {p : Pr} (h : okR p) : (dPr p).canLay0 = true ∧ (dPr p).depth ≤ 1 := by
  have h1 := okS_can h.1
  obtain ⟨_, _, b3, _, b5⟩ := dOv_all (o := p.2) h.2
  refine ⟨?_, ?_⟩
  · simp only [dPr, PyData.canLay0, PyData.canLayAll0, h1, b5, Bool.and_self]
  · simp only [dPr, PyData.depth, PyData.depthAll]; omega
theorem rows_shaped {ps : List Pr} (h : ∀ p ∈ ps, okR p) : SeqAt.shaped (.list (ps.map dPr)) = true := by
  unfold SeqAt.shaped
  rw [Bool.and_eq_true]
  constructor
  · simp only [PyData.canLay0]
    exact canAll_of fun d hd => by
      obtain ⟨p, hp, rfl⟩ := List.mem_map.mp hd
      exact (dPr_can (h p hp)).1
  · have := Gd.depthAll_of (m := 1) (ds := ps.map dPr) fun d hd => by
      obtain ⟨p, hp, rfl⟩ := List.mem_map.mp hd
      exact (dPr_can (h p hp)).2
    simp only [PyData.depth]
    exact decide_eq_true (by omega)
theorem vals_shaped {vs : List (Option Str)} (h : ∀ o ∈ vs, ∀ v, o = some v → okS v) : SeqAt.shaped (.tuple (vs.map dOv)) = true := by
  unfold SeqAt.shaped
  rw [Bool.and_eq_true]
  constructor
  · simp only [PyData.canLay0]
    exact canAll_of fun d hd => by
      obtain ⟨p, hp, rfl⟩ := List.mem_map.mp hd
      exact (dOv_all (h p hp)).2.2.2.2
  · have := Gd.depthAll_of (m := 0) (ds := vs.map dOv) fun d hd => by
      obtain ⟨p, hp, rfl⟩ := List.mem_map.mp hd
      exact (dOv_all (h p hp)).2.2.1
    simp only [PyData.depth]
    exact decide_eq_true (by omega)
theorem vfs_ok {ps : List Pr} {key : Str} (h : ∀ p ∈ ps, okR p) : ∀ o ∈ vfs ps key, ∀ v, o = some v → okS v := by
  intro o ho
  unfold vfs at ho
  obtain ⟨p, hp, rfl⟩ := List.mem_map.mp ho
  exact (h p (List.mem_filter.mp hp).1).2
/-! ### outcomes as data -/
theorem rok_of {l : T} (h : QOk l) (e : wrongQ l = none) : ROk l := by
  refine ⟨h, fun p hp => ?_⟩
  unfold wrongQ at e
  rw [List.findIdx?_eq_none_iff] at e
  have := e p hp
  simpa using this
def tagD (t : Str) (d : PyData) : PyData := .tuple [.str t, d]
theorem tag_shaped {t : Str} {d : PyData} (ht : PyData.strOk t = true) (hc : d.canLay0 = true) (hd : d.depth ≤ 5) : SeqAt.shaped (tagD t d) = true := by
  unfold SeqAt.shaped tagD
  rw [Bool.and_eq_true]
  constructor
  · simp only [PyData.canLay0, PyData.canLayAll0, ht, hc, Bool.and_self]
  · simp only [PyData.depth, PyData.depthAll]
    exact decide_eq_true (by omega)
theorem shaped_can {d : PyData} (h : SeqAt.shaped d = true) : d.canLay0 = true := by
  unfold SeqAt.shaped at h
  rw [Bool.and_eq_true] at h
  exact h.1
theorem rows_depth {ps : List Pr} (h : ∀ p ∈ ps, okR p) : (PyData.list (ps.map dPr)).depth ≤ 3 := by
  have := Gd.depthAll_of (m := 1) (ds := ps.map dPr) fun d hd => by
    obtain ⟨p, hp, rfl⟩ := List.mem_map.mp hd
    exact (dPr_can (h p hp)).2
  simp only [PyData.depth]
  omega
theorem vals_depth {vs : List (Option Str)} (h : ∀ o ∈ vs, ∀ v, o = some v → okS v) : (PyData.tuple (vs.map dOv)).depth ≤ 3 := by
  have := Gd.depthAll_of (m := 0) (ds := vs.map dOv) fun d hd => by
    obtain ⟨p, hp, rfl⟩ := List.mem_map.mp hd
    exact (dOv_all (h p hp)).2.2.1
  simp only [PyData.depth]
  omega
theorem told_ok : PyData.strOk (Str.ofString "told") = true := by decide +kernel
theorem wrong_ok : PyData.strOk (Str.ofString "wrong") = true := by decide +kernel
end Da
set_option Elab.async false
set_option linter.all false
set_option maxRecDepth 100000
set_option maxHeartbeats 4000000
namespace Da
open PySem PySem.Spec PyProof.Rows L2 Hd Xs Fx Mi Ms Md Mq Mp Mr ClX Xr
open LamX (TabB Tabs TabS ExtN CodeO tLam pe_lamD)
open TL (tl joinL)
/-! ### the law -/
theorem nb_of {H H1 : Hp} {b : Addr} (e : ExtN H H1) (h : H1 b = none) : ∀ o, H b = some o → ¬ ∀ ps, o ≠ .tbl ps := fun o h1 n => by
  rw [e _ _ h1 n] at h; cases h
theorem ExtN.kp {H H1 H2 : Hp} {b : Addr} (e : ExtN H H1) (hb : ∀ o, H b = some o → ¬ ∀ ps, o ≠ .tbl ps) (k : Kp b H1 H2) : ExtN H H2 := fun c o h n => k c o (fun z => hb o (by rw [← z]; exact h) n) (e c o h n)
theorem ExtN.ext {H H1 H2 : Hp} (e : ExtN H H1) (x : Ext H1 H2) : ExtN H H2 := fun c o h n => x c o (e c o h n)
theorem Tabs.kp {T : List (Addr × Str)} {H H' : Hp} {b : Addr} {xs : List V} (t : Tabs T H) (hb : H b = some (.lst xs)) (k : Kp b H H') : Tabs T H' := fun p hp => by
  obtain ⟨ps, h1, h2, h3⟩ := t p hp
  refine ⟨ps, k _ _ (fun e => by rw [e, hb] at h1; cases h1) h1, h2, fun pos cv hc => ?_⟩
  obtain ⟨c, e, h4⟩ := h3 pos cv hc
  refine ⟨c, e, k _ _ (fun e => ?_) h4⟩
  rw [e, hb] at h4
  have h4 := Option.some.inj h4
  unfold CodeO at h4
  cases h4
theorem Tabs.bg {T : List (Addr × Str)} {H H' : Hp} {b : Addr} (t : Tabs T H) (hb : Bg H b) (k : Kp b H H') : Tabs T H' := by
  obtain ⟨x, y, h, _⟩ := hb
  exact Tabs.kp t h k
theorem Tabs.x {T : List (Addr × Str)} {H H' : Hp} (t : Tabs T H) (x : Ext H H') : Tabs T H' := t.ext fun b o h => x b o h
theorem bg_n {H H' : Hp} {b : Addr} (e : ExtN H H') (h : Bg H b) : Bg H' b := by
  obtain ⟨x, y, h1, r⟩ := h
  exact ⟨x, y, e _ _ h1 (fun ps z => by cases z), r⟩
abbrev kL : Nat := 9
def qnL : Str := "law.<locals>.<lambda>"
def spLaw (K : PySem.W.Frag) (tp : Addr) : Sp := fun vs H Q _ => match vs with
  | [.ref a] => H tp = some (.tbl #[]) ∧ ∃ ns : List Int, SqL K H a (ns.map V.int) ∧ ∀ H', Q (.bl true) H'
  | _ => False
section
variable {P : Program} {w : World} {K : PySem.W.Frag} {mg : Str → Option Value} {base : Heap}
theorem law_fn (c : Ct w K mg) {fd : FuncData} (F : FunD K d_law.name d_law.qual d_law.params d_law.body d_law.scope (d_law.dvs K) (d_law.kws K) (d_law.at_ K) fd) {cc tp : Addr} (hc : fd.code = .ref cc) (TB : TabB base mg cc tp) : FnOk P w K mg base CX0 14 (He.ga K "law") fd ["script"] (spLaw K tp) := by
  obtain ⟨fo, F_o0⟩ := F__law_outcome c
  have F_o_law_outcome : FunD K "_law_outcome" "_law_outcome" d__law_outcome.params d__law_outcome.body d__law_outcome.scope [] [] (He.ga K "_law_outcome") fo := F_o0
  have F_b_law_outcome : L2.Binds K fo ["deed"] [] := F_o0.bindsN fun _ _ _ _ _ _ us hl => match us, hl with | [_], _ => rfl
  have gives_law_outcome := @out_gives w K mg c
  let TT_law_outcome := TOut K
  have hmT : (tp, qnL) ∈ [(tp, qnL)] := List.mem_singleton_self _
  have hu : ∀ p ∈ [(tp, qnL)], p.1 = tp → p.2 = qnL := fun p hp _ => by rw [List.mem_singleton.mp hp]
  refine LamX.FunD.okC F hc sc_law (fun vs H Q E h => ?_) (fun A outer s H vs Q E hr h => ⟨_, PSs.nox ((pss_cons (ps_for PassesOwn.never rfl (pi_range1 rfl (b_range c) (pa_cons (pe_callB (cc_max2 rfl) (by rfl) (b_max c) (by decide +kernel) (pa_cons pe_int (pa_cons (pe_callB (cc_min2 rfl) (by rfl) (b_min c) (by decide +kernel) (pa_cons pe_int (pa_cons (pe_callB cc_len (by rfl) (b_len c) (by decide +kernel) (pa_cons (cv 0) pa_nil)) pa_nil))) pa_nil))) pa_nil)) (pg_name (i := 1) (sc_law).nd rfl (Or.inl rfl)) (pss_cons (ps_set (i := 2) (sc_law).nd rfl (Or.inl rfl) (pf (ok__law_bag c) (hr.mono (by decide)) (g__law_bag c) (k__law_bag c) pass0 (pa_cons (cv 0) (pa_cons (cv 1) pa_nil)))) (pss_one (ps_for PassesOwn.never rfl (pi_range1 rfl (b_range c) (pa_cons pe_int pa_nil)) (pg_name (i := 3) (sc_law).nd rfl (Or.inl rfl)) (pss_cons (ps_set (i := 4) (sc_law).nd rfl (Or.inr rfl) (pf (ok__law_spoilt c) (hr.mono (by decide)) (g__law_spoilt c) (k__law_spoilt c) pass0 (pa_cons (cv 2) (pa_cons (pf (ok__law_query c) (hr.mono (by decide)) (g__law_query c) (k__law_query c) pass0 (pa_cons (cv 2) (pa_cons pe_int pa_nil))) pa_nil)))) (pss_cons (ps_set (i := 5) (sc_law).nd rfl (Or.inl rfl) (pf (ok__law_first_wrong c) (hr.mono (by decide)) (g__law_first_wrong c) (k__law_first_wrong c) pass0 (pa_cons (cv 4) pa_nil))) (pss_cons (ps_set (i := 6) (sc_law).nd rfl (Or.inl rfl) (pe_ifExp (ctc co_isN (cv 5) pe_non (by rfl)) (pe_tup (pa_cons pe_str (pa_cons (pf (ok__law_pairs c) (hr.mono (by decide)) (g__law_pairs c) (k__law_pairs c) pass0 (pa_cons (cv 4) pa_nil)) pa_nil))) (pe_tup (pa_cons pe_str (pa_cons (cv 5) pa_nil))))) (pss_cons (ps_if (ctc (ho_ne (hu64 hr)) (pe_lamD (sL := d_law.scope) (k := kL) (T := [(tp, qnL)]) (TT := TT_law_outcome) F_o_law_outcome F_b_law_outcome (g__law_outcome c) sc__law_outcome (fun _ => gives_law_outcome rfl rfl) TB rfl hmT hu (hr.mono (by decide)) (fun A outer s H E f c' hr => (pf (E := E) (ok_pairs c) (hr.mono (by decide)) (g_pairs c) (k_pairs c) (passes_call (takes_of rfl rfl rfl rfl) (fun _ _ _ _ z => z)) (pa_cons (cv 4) pa_nil)))) (cv 6) (by rfl)) (pss_one (ps_ret pe_bl)) pss_nil) (pss_one (ps_for PassesOwn.never rfl (pi_list (pe_lst (pa_cons pe_str (pa_cons pe_str (pa_cons pe_str pa_nil))))) (pg_name (i := 7) (sc_law).nd rfl (Or.inr rfl)) (pss_cons (ps_set (i := 8) (sc_law).nd rfl (Or.inl rfl) (cv 6)) (pss_cons (ps_if (ctc co_isN (cv 5) pe_non (by rfl)) (pss_one (ps_set (i := 8) (sc_law).nd rfl (Or.inl rfl) (pe_tup (pa_cons pe_str (pa_cons (pe_callTy call_tuple_of (by rfl) (b_tuple c) (by decide +kernel) (pa_cons (pe_lc rfl (sc_law).nd (pi_list (hix (cv 6) pe_int)) (blkOk_by (own := [("other", 9), ("tail", 10)]) (by rfl)) (fun _ _ _ _ _ => pg_tupB (n := 2) rfl (pgs_cons (pg_name (i := 9) (sc_law).nd rfl (Or.inl rfl)) (pgs_cons (pg_name (i := 10) (sc_law).nd rfl (Or.inl rfl)) pgs_nil))) (fun _ _ _ _ _ => (pts_one (ctc (r := hEq K) (ho_eq (hu64 hr)) (cv 9) (cv 7) (by rfl)))) (fun _ _ _ _ _ => (cv 10))) pa_nil)) pa_nil))))) pss_nil) (pss_one (ps_if (ctc (ho_ne (hu64 hr)) (pe_lamD (sL := d_law.scope) (k := kL) (T := [(tp, qnL)]) (TT := TT_law_outcome) F_o_law_outcome F_b_law_outcome (g__law_outcome c) sc__law_outcome (fun _ => gives_law_outcome rfl rfl) TB rfl hmT hu (hr.mono (by decide)) (fun A outer s H E f c' hr => (pfD (E := E) (ok_values_of c) (hr.mono (by decide)) (g_values_of c) (k_values_of c) (passes_call (takes_of rfl rfl rfl rfl) (fun _ _ _ _ z => z)) (pa_cons (cv 4) (pa_cons (cv 7) pa_nil))))) (cv 8) (by rfl)) (pss_one (ps_ret pe_bl)) pss_nil)))))))))))))) (pss_one (ps_ret pe_bl)))), ?_⟩)
  · unfold spLaw at h
    split at h
    · rfl
    · exact h.elim
  · unfold spLaw at h
    split at h
    case h_2 => exact h.elim
    rename_i a
    obtain ⟨ht, ns, hS, q⟩ := h
    have sl := sl
    have hT0 : Tabs [(tp, qnL)] H := fun p hp => by
      rw [List.mem_singleton.mp hp]; exact TabS.nil ht
    have hla : ∀ H', ExtN H H' → SqL K H' a (ns.map V.int) := fun H' e => hS.imp (fun r => r.imp (fun h => e _ _ h (fun ps z => by cases z)) (fun ⟨o, h⟩ => ⟨o, e _ _ h (fun ps z => by cases z)⟩)) id
    refine seqCps (fun σ H' => σ.length = 11) (fun Nx hN => ?_) ?_
    · (try simp only [tNext, tFor_eq, cBl, tOp, tC, cI, cIc, cAdd, cVar, hEq, hNe, hIn, hNotIn, hLen, hSl, tM1, tBM, cT1, cT1f, cFind3, cSplit, cPart, rNewStrs, hIsS, hTru, tAsg, gName, gSub, tRet, tRetN, tCons, tNil, tTup, tLst, tCB, tNot, tAnd, tNotV, tAndV, tOrV, tOr, V.bl.injEq, V.int.injEq, V.str.injEq, exists_eq_left', exists_eq_left, exists_eq', true_and, and_true, cIsN, L2.start, gTup, gCons, gNil, nox_K, cx_K, tCallF, tSl, tPart, tNoPart, iEnum, RZ.iZipA, iRng1, iRng2, cAbs, List.map_cons, List.map_nil, List.length_cons, List.length_nil, List.replicate, List.cons_append, List.nil_append, List.getElem?_cons_zero, List.getElem?_cons_succ, List.getElem?_nil, List.set_cons_zero, List.set_cons_succ, Nat.reduceAdd, Nat.reduceSub, Nat.zero_add, if_true, if_false, reduceIte, reduceCtorEq, Bool.false_eq_true, decide_eq_true_eq, tDrop, cMin2, cJoin, iList, tDNewK, tLc_eq, iStr, wipe])
      refine ⟨_, .inl hS, ?_⟩
      simp only [hMax2]
      refine ⟨_, rfl, by (repeat' split) <;> omega, by (repeat' split) <;> omega, ?_⟩
      refine lp_range (fun k σ H' => (ExtN H H' ∧ Tabs [(tp, qnL)] H') ∧ ∃ u1 u2 u3 u4 u5 u6 u7 u8 u9 uA, σ = [some (.ref a), u1, u2, u3, u4, u5, u6, u7, u8, u9, uA]) ⟨⟨ExtN.refl H, hT0⟩, _, _, _, _, _, _, _, _, _, _, rfl⟩ ?_ (fun σ H' ⟨_, _, _, _, _, _, _, _, _, _, _, e⟩ => hN _ _ (by rw [e]; rfl))
      rintro k σ H1 hk ⟨⟨he, hT1⟩, u1, u2, u3, u4, u5, u6, u7, u8, u9, uA, rfl⟩
      have hk6 : k < 64 := by
        revert hk
        (repeat' split) <;> omega
      refine seqStep ?_
      (try simp only [tNext, tFor_eq, cBl, tOp, tC, cI, cIc, cAdd, cVar, hEq, hNe, hIn, hNotIn, hLen, hSl, tM1, tBM, cT1, cT1f, cFind3, cSplit, cPart, rNewStrs, hIsS, hTru, tAsg, gName, gSub, tRet, tRetN, tCons, tNil, tTup, tLst, tCB, tNot, tAnd, tNotV, tAndV, tOrV, tOr, V.bl.injEq, V.int.injEq, V.str.injEq, exists_eq_left', exists_eq_left, exists_eq', true_and, and_true, cIsN, L2.start, gTup, gCons, gNil, nox_K, cx_K, tCallF, tSl, tPart, tNoPart, iEnum, RZ.iZipA, iRng1, iRng2, cAbs, List.map_cons, List.map_nil, List.length_cons, List.length_nil, List.replicate, List.cons_append, List.nil_append, List.getElem?_cons_zero, List.getElem?_cons_succ, List.getElem?_nil, List.set_cons_zero, List.set_cons_succ, Nat.reduceAdd, Nat.reduceSub, Nat.zero_add, if_true, if_false, reduceIte, reduceCtorEq, Bool.false_eq_true, decide_eq_true_eq, tDrop, cMin2, cJoin, iList, tDNewK, tLc_eq, iStr, wipe])
      refine ⟨ns, hla _ he, by omega, by omega, fun b H2 he2 hb0 hb => ?_⟩
      have hbn := nb_of he hb0
      refine ⟨8, rfl, by omega, by omega, ?_⟩
      refine lp_range (fun k2 σ H' => (ExtN H H' ∧ Tabs [(tp, qnL)] H' ∧ Bg H' b) ∧ ∃ u3 u4 u5 u6 u7 u8 u9 uA, σ = [some (.ref a), some (.int (0 + (k : Nat))), some (.ref b), u3, u4, u5, u6, u7, u8, u9, uA]) ⟨⟨ExtN.ext he he2, Tabs.x hT1 he2, hb⟩, _, _, _, _, _, _, _, _, rfl⟩ ?_ (fun σ H' ⟨⟨e1, e2, _⟩, _, _, _, _, _, _, _, _, h⟩ => ⟨⟨e1, e2⟩, _, _, _, _, _, _, _, _, _, _, h⟩)
      rintro k2 σ H3 hk2 ⟨⟨he3, hT3, hb3⟩, v3, v4, v5, v6, v7, v8, v9, vA, rfl⟩
      refine seqStep ?_
      (try simp only [tNext, tFor_eq, cBl, tOp, tC, cI, cIc, cAdd, cVar, hEq, hNe, hIn, hNotIn, hLen, hSl, tM1, tBM, cT1, cT1f, cFind3, cSplit, cPart, rNewStrs, hIsS, hTru, tAsg, gName, gSub, tRet, tRetN, tCons, tNil, tTup, tLst, tCB, tNot, tAnd, tNotV, tAndV, tOrV, tOr, V.bl.injEq, V.int.injEq, V.str.injEq, exists_eq_left', exists_eq_left, exists_eq', true_and, and_true, cIsN, L2.start, gTup, gCons, gNil, nox_K, cx_K, tCallF, tSl, tPart, tNoPart, iEnum, RZ.iZipA, iRng1, iRng2, cAbs, List.map_cons, List.map_nil, List.length_cons, List.length_nil, List.replicate, List.cons_append, List.nil_append, List.getElem?_cons_zero, List.getElem?_cons_succ, List.getElem?_nil, List.set_cons_zero, List.set_cons_succ, Nat.reduceAdd, Nat.reduceSub, Nat.zero_add, if_true, if_false, reduceIte, reduceCtorEq, Bool.false_eq_true, decide_eq_true_eq, tDrop, cMin2, cJoin, iList, tDNewK, tLc_eq, iStr, wipe])
      refine ⟨hb3, rfl, fun z0 H4 hz0 hg4 hb4 k4 => ?_⟩
      refine ⟨hb4, hz0, gd_wd hg4, fun z H5 hz hw hb5 k5 => ?_⟩
      have he5 := ExtN.kp (ExtN.kp he3 hbn k4) hbn k5
      have hT5 := Tabs.bg (Tabs.bg hT3 hb3 k4) hb4 k5
      clear he3 hT3 hb3 hb4 k4 k5 hg4
      have hqo := wd_ok hw
      refine seqStep ?_
      (try simp only [tNext, tFor_eq, cBl, tOp, tC, cI, cIc, cAdd, cVar, hEq, hNe, hIn, hNotIn, hLen, hSl, tM1, tBM, cT1, cT1f, cFind3, cSplit, cPart, rNewStrs, hIsS, hTru, tAsg, gName, gSub, tRet, tRetN, tCons, tNil, tTup, tLst, tCB, tNot, tAnd, tNotV, tAndV, tOrV, tOr, V.bl.injEq, V.int.injEq, V.str.injEq, exists_eq_left', exists_eq_left, exists_eq', true_and, and_true, cIsN, L2.start, gTup, gCons, gNil, nox_K, cx_K, tCallF, tSl, tPart, tNoPart, iEnum, RZ.iZipA, iRng1, iRng2, cAbs, List.map_cons, List.map_nil, List.length_cons, List.length_nil, List.replicate, List.cons_append, List.nil_append, List.getElem?_cons_zero, List.getElem?_cons_succ, List.getElem?_nil, List.set_cons_zero, List.set_cons_succ, Nat.reduceAdd, Nat.reduceSub, Nat.zero_add, if_true, if_false, reduceIte, reduceCtorEq, Bool.false_eq_true, decide_eq_true_eq, tDrop, cMin2, cJoin, iList, tDNewK, tLc_eq, iStr, wipe])
      refine ⟨by omega, hqo, fun H6 x6 => ?_⟩
      have he6 := ExtN.ext he5 x6
      have hT6 := Tabs.x hT5 x6
      have hb6 := bg_ext x6 hb5
      clear he5 hT5 hb5 x6
      cases hwq : wrongQ (tl z) with
      | some i =>
        try dsimp only
        refine seqStep ?_
        unfold tAsg tIf
        (try simp only [tNext, tFor_eq, cBl, tOp, tC, cI, cIc, cAdd, cVar, hEq, hNe, hIn, hNotIn, hLen, hSl, tM1, tBM, cT1, cT1f, cFind3, cSplit, cPart, rNewStrs, hIsS, hTru, tAsg, gName, gSub, tRet, tRetN, tCons, tNil, tTup, tLst, tCB, tNot, tAnd, tNotV, tAndV, tOrV, tOr, V.bl.injEq, V.int.injEq, V.str.injEq, exists_eq_left', exists_eq_left, exists_eq', true_and, and_true, cIsN, L2.start, gTup, gCons, gNil, nox_K, cx_K, tCallF, tSl, tPart, tNoPart, iEnum, RZ.iZipA, iRng1, iRng2, cAbs, List.map_cons, List.map_nil, List.length_cons, List.length_nil, List.replicate, List.cons_append, List.nil_append, List.getElem?_cons_zero, List.getElem?_cons_succ, List.getElem?_nil, List.set_cons_zero, List.set_cons_succ, Nat.reduceAdd, Nat.reduceSub, Nat.zero_add, if_true, if_false, reduceIte, reduceCtorEq, Bool.false_eq_true, decide_eq_true_eq, tDrop, cMin2, cJoin, iList, tDNewK, tLc_eq, iStr, wipe])
        refine ⟨by omega, fun pd hpd => ?_⟩
        have xD : Ext H6 (upd H6 pd (.tup [.str (Str.ofString "wrong"), .int (posn (pcs (tl z)) i : Nat)])) := Ext.rf.fresh hpd
        have gD : (upd H6 pd (.tup [.str (Str.ofString "wrong"), .int (posn (pcs (tl z)) i : Nat)])) pd = some (.tup [.str (Str.ofString "wrong"), .int (posn (pcs (tl z)) i : Nat)]) := upd_self
        generalize (upd H6 pd (.tup [.str (Str.ofString "wrong"), .int (posn (pcs (tl z)) i : Nat)])) = G at *
        have heG := ExtN.ext he6 xD
        have hTG := Tabs.x hT6 xD
        have hbG := bg_ext xD hb6
        clear he6 hT6 hb6 xD
        have shp : SeqAt.shaped (tagD (Str.ofString "wrong") (.int (posn (pcs (tl z)) i : Nat))) = true := tag_shaped wrong_ok (by simp only [PyData.canLay0]) (by simp only [PyData.depth]; omega)
        have dpw : ∀ {H' : Hp} {p : Addr}, H' p = some (.tup [.str (Str.ofString "wrong"), .int (posn (pcs (tl z)) i : Nat)]) → Dp K H' (.ref p) (tagD (Str.ofString "wrong") (.int (posn (pcs (tl z)) i : Nat))) := fun h => .tup (.inl (Rd.of h)) (.cons (.str _) (.cons (.int _) .nil))
        -- what each asking comes to
        have ask : ∀ (G0 : Hp) (tl' : XK → Hp → VK → Prop) (Q2 : VK), Tabs [(tp, qnL)] G0 → (∀ (H7 : Hp) (E7 : XK) (Q7 : VK), ExtN G0 H7 → Tabs [(tp, qnL)] H7 → (∀ d H', Ext H7 H' → H' d = some (.xd [("place", .int (posn (pcs (tl z)) i : Nat))]) → E7 (.ref (He.ga K "BadQuery")) (some d) H') → tl' E7 H7 Q7) →
            (∀ p H8, ExtN G0 H8 → Tabs [(tp, qnL)] H8 → H8 p = some (.tup [.str (Str.ofString "wrong"), .int (posn (pcs (tl z)) i : Nat)]) → Q2 (.ref p) H8) → Tabs [(tp, qnL)] G0 ∧ ∀ H1, ExtN G0 H1 → Tabs [(tp, qnL)] H1 → TOut K tl' H1 Q2 := fun G0 tl' Q2 t0 hl hq => by
          refine ⟨t0, fun H7 eN T7 => ⟨fun cls d H' => cls = .ref (He.ga K "BadQuery") ∧ ∃ dd, d = some dd ∧ H' dd = some (.xd [("place", .int (posn (pcs (tl z)) i : Nat))]) ∧ Ext H7 H', fun cls d H8 ⟨e1, dd, e2, h8, x8⟩ => ⟨e1, dd, _, e2, h8, fun p hp => ?_⟩, ?_⟩⟩
          · exact hq _ _ (ExtN.ext eN (x8.fresh hp)) (Tabs.x T7 (x8.fresh hp)) upd_self
          · exact hl H7 _ _ eN T7 fun d H' x hd => ⟨rfl, d, rfl, hd, x⟩
        refine seqStep ?_
        unfold tIfS
        refine cpsT (R := cBl _ _ _) (fun b' H' => b' = false ∧ ExtN G H' ∧ Tabs [(tp, qnL)] H') ?_ ?_
        case refine_2 =>
          intro Q' hQ
          (try simp only [tNext, tFor_eq, cBl, tOp, tC, cI, cIc, cAdd, cVar, hEq, hNe, hIn, hNotIn, hLen, hSl, tM1, tBM, cT1, cT1f, cFind3, cSplit, cPart, rNewStrs, hIsS, hTru, tAsg, gName, gSub, tRet, tRetN, tCons, tNil, tTup, tLst, tCB, tNot, tAnd, tNotV, tAndV, tOrV, tOr, V.bl.injEq, V.int.injEq, V.str.injEq, exists_eq_left', exists_eq_left, exists_eq', true_and, and_true, cIsN, L2.start, gTup, gCons, gNil, nox_K, cx_K, tCallF, tSl, tPart, tNoPart, iEnum, RZ.iZipA, iRng1, iRng2, cAbs, List.map_cons, List.map_nil, List.length_cons, List.length_nil, List.replicate, List.cons_append, List.nil_append, List.getElem?_cons_zero, List.getElem?_cons_succ, List.getElem?_nil, List.set_cons_zero, List.set_cons_succ, Nat.reduceAdd, Nat.reduceSub, Nat.zero_add, if_true, if_false, reduceIte, reduceCtorEq, Bool.false_eq_true, decide_eq_true_eq, tDrop, cMin2, cJoin, iList, tDNewK, tLc_eq, iStr, wipe])
          unfold tLam
          refine ask G _ _ hTG (fun H7 E7 Q7 eN T7 hE => ?_) (fun p H8 e8 T8 h8 => ?_)
          · (try simp only [tNext, tFor_eq, cBl, tOp, tC, cI, cIc, cAdd, cVar, hEq, hNe, hIn, hNotIn, hLen, hSl, tM1, tBM, cT1, cT1f, cFind3, cSplit, cPart, rNewStrs, hIsS, hTru, tAsg, gName, gSub, tRet, tRetN, tCons, tNil, tTup, tLst, tCB, tNot, tAnd, tNotV, tAndV, tOrV, tOr, V.bl.injEq, V.int.injEq, V.str.injEq, exists_eq_left', exists_eq_left, exists_eq', true_and, and_true, cIsN, L2.start, gTup, gCons, gNil, nox_K, cx_K, tCallF, tSl, tPart, tNoPart, iEnum, RZ.iZipA, iRng1, iRng2, cAbs, List.map_cons, List.map_nil, List.length_cons, List.length_nil, List.replicate, List.cons_append, List.nil_append, List.getElem?_cons_zero, List.getElem?_cons_succ, List.getElem?_nil, List.set_cons_zero, List.set_cons_succ, Nat.reduceAdd, Nat.reduceSub, Nat.zero_add, if_true, if_false, reduceIte, reduceCtorEq, Bool.false_eq_true, decide_eq_true_eq, tDrop, cMin2, cJoin, iList, tDNewK, tLc_eq, iStr, wipe])
            refine ⟨by omega, hqo, ?_⟩
            rw [hwq]
            exact hE
          · refine Gd.ne_same (dpw h8) (dpw (e8 _ _ gD (fun ps z => by cases z))) shp ?_
            exact hQ _ _ ⟨rfl, e8, T8⟩
        rintro b' H7 ⟨rfl, e7, T7⟩
        rw [if_neg (by decide)]
        try simp only [tNext]
        (try simp only [tNext, tFor_eq, cBl, tOp, tC, cI, cIc, cAdd, cVar, hEq, hNe, hIn, hNotIn, hLen, hSl, tM1, tBM, cT1, cT1f, cFind3, cSplit, cPart, rNewStrs, hIsS, hTru, tAsg, gName, gSub, tRet, tRetN, tCons, tNil, tTup, tLst, tCB, tNot, tAnd, tNotV, tAndV, tOrV, tOr, V.bl.injEq, V.int.injEq, V.str.injEq, exists_eq_left', exists_eq_left, exists_eq', true_and, and_true, cIsN, L2.start, gTup, gCons, gNil, nox_K, cx_K, tCallF, tSl, tPart, tNoPart, iEnum, RZ.iZipA, iRng1, iRng2, cAbs, List.map_cons, List.map_nil, List.length_cons, List.length_nil, List.replicate, List.cons_append, List.nil_append, List.getElem?_cons_zero, List.getElem?_cons_succ, List.getElem?_nil, List.set_cons_zero, List.set_cons_succ, Nat.reduceAdd, Nat.reduceSub, Nat.zero_add, if_true, if_false, reduceIte, reduceCtorEq, Bool.false_eq_true, decide_eq_true_eq, tDrop, cMin2, cJoin, iList, tDNewK, tLc_eq, iStr, wipe])
        refine ⟨by omega, fun ph hph => ⟨ph, rfl, ⟨_, .inl (Rd.of upd_self)⟩, ?_⟩⟩
        have xh : Ext H7 (upd H7 ph (.lst [.str (Str.ofString ""), .str (Str.ofString "a"), .str (Str.ofString "zz")])) := Ext.rf.fresh hph
        have gh : (upd H7 ph (.lst [.str (Str.ofString ""), .str (Str.ofString "a"), .str (Str.ofString "zz")])) ph = some (.lst [.str (Str.ofString ""), .str (Str.ofString "a"), .str (Str.ofString "zz")]) := upd_self
        generalize (upd H7 ph (.lst [.str (Str.ofString ""), .str (Str.ofString "a"), .str (Str.ofString "zz")])) = G7 at *
        have eG7 := ExtN.ext e7 xh
        have TG7 := Tabs.x T7 xh
        clear e7 T7 xh
        refine lp_list (xs := [.str (Str.ofString ""), .str (Str.ofString "a"), .str (Str.ofString "zz")]) (fun j σ H' => (ExtN G7 H' ∧ Tabs [(tp, qnL)] H') ∧ ∃ u7 u8 u9 uA, σ = [some (.ref a), some (.int (0 + (k : Nat))), some (.ref b), some (.int (0 + (k2 : Nat))), some (.str z), some (.int (posn (pcs (tl z)) i : Nat)), some (.ref pd), u7, u8, u9, uA]) ⟨⟨ExtN.refl _, TG7⟩, _, _, _, _, rfl⟩ (fun i σ H' _ h => .inl (Rd.of (h.1.1 _ _ gh (fun ps z => by cases z)))) ?_ (fun σ H' ⟨⟨h1, h2⟩, _, _, _, _, h⟩ => ⟨⟨heG.trans (eG7.trans h1), h2, bg_n (eG7.trans h1) hbG⟩, _, _, _, _, _, _, _, _, h⟩)
        rintro j v σ H8 hv ⟨⟨e8, T8⟩, u7, u8, u9, uA, rfl⟩
        obtain ⟨key, rfl, hkl⟩ : ∃ key : Str, v = .str key ∧ key.length ≤ 20000 := by
          have hv := List.mem_of_getElem? hv
          simp only [List.mem_cons, List.not_mem_nil, or_false] at hv
          rcases hv with rfl | rfl | rfl <;> exact ⟨_, rfl, by decide⟩
        (try simp only [tNext, tFor_eq, cBl, tOp, tC, cI, cIc, cAdd, cVar, hEq, hNe, hIn, hNotIn, hLen, hSl, tM1, tBM, cT1, cT1f, cFind3, cSplit, cPart, rNewStrs, hIsS, hTru, tAsg, gName, gSub, tRet, tRetN, tCons, tNil, tTup, tLst, tCB, tNot, tAnd, tNotV, tAndV, tOrV, tOr, V.bl.injEq, V.int.injEq, V.str.injEq, exists_eq_left', exists_eq_left, exists_eq', true_and, and_true, cIsN, L2.start, gTup, gCons, gNil, nox_K, cx_K, tCallF, tSl, tPart, tNoPart, iEnum, RZ.iZipA, iRng1, iRng2, cAbs, List.map_cons, List.map_nil, List.length_cons, List.length_nil, List.replicate, List.cons_append, List.nil_append, List.getElem?_cons_zero, List.getElem?_cons_succ, List.getElem?_nil, List.set_cons_zero, List.set_cons_succ, Nat.reduceAdd, Nat.reduceSub, Nat.zero_add, if_true, if_false, reduceIte, reduceCtorEq, Bool.false_eq_true, decide_eq_true_eq, tDrop, cMin2, cJoin, iList, tDNewK, tLc_eq, iStr, wipe])
        refine seqStep ?_
        (try simp only [tNext, tFor_eq, cBl, tOp, tC, cI, cIc, cAdd, cVar, hEq, hNe, hIn, hNotIn, hLen, hSl, tM1, tBM, cT1, cT1f, cFind3, cSplit, cPart, rNewStrs, hIsS, hTru, tAsg, gName, gSub, tRet, tRetN, tCons, tNil, tTup, tLst, tCB, tNot, tAnd, tNotV, tAndV, tOrV, tOr, V.bl.injEq, V.int.injEq, V.str.injEq, exists_eq_left', exists_eq_left, exists_eq', true_and, and_true, cIsN, L2.start, gTup, gCons, gNil, nox_K, cx_K, tCallF, tSl, tPart, tNoPart, iEnum, RZ.iZipA, iRng1, iRng2, cAbs, List.map_cons, List.map_nil, List.length_cons, List.length_nil, List.replicate, List.cons_append, List.nil_append, List.getElem?_cons_zero, List.getElem?_cons_succ, List.getElem?_nil, List.set_cons_zero, List.set_cons_succ, Nat.reduceAdd, Nat.reduceSub, Nat.zero_add, if_true, if_false, reduceIte, reduceCtorEq, Bool.false_eq_true, decide_eq_true_eq, tDrop, cMin2, cJoin, iList, tDNewK, tLc_eq, iStr, wipe])
        refine seqStep ?_
        (try simp only [tNext, tFor_eq, cBl, tOp, tC, cI, cIc, cAdd, cVar, hEq, hNe, hIn, hNotIn, hLen, hSl, tM1, tBM, cT1, cT1f, cFind3, cSplit, cPart, rNewStrs, hIsS, hTru, tAsg, gName, gSub, tRet, tRetN, tCons, tNil, tTup, tLst, tCB, tNot, tAnd, tNotV, tAndV, tOrV, tOr, V.bl.injEq, V.int.injEq, V.str.injEq, exists_eq_left', exists_eq_left, exists_eq', true_and, and_true, cIsN, L2.start, gTup, gCons, gNil, nox_K, cx_K, tCallF, tSl, tPart, tNoPart, iEnum, RZ.iZipA, iRng1, iRng2, cAbs, List.map_cons, List.map_nil, List.length_cons, List.length_nil, List.replicate, List.cons_append, List.nil_append, List.getElem?_cons_zero, List.getElem?_cons_succ, List.getElem?_nil, List.set_cons_zero, List.set_cons_succ, Nat.reduceAdd, Nat.reduceSub, Nat.zero_add, if_true, if_false, reduceIte, reduceCtorEq, Bool.false_eq_true, decide_eq_true_eq, tDrop, cMin2, cJoin, iList, tDNewK, tLc_eq, iStr, wipe])
        unfold tLam
        refine ask H8 _ _ T8 (fun H9 E9 Q9 eN T9 hE => ?_) (fun p H9 e9 T9 h9 => ?_)
        · unfold tCallD
          (try simp only [tNext, tFor_eq, cBl, tOp, tC, cI, cIc, cAdd, cVar, hEq, hNe, hIn, hNotIn, hLen, hSl, tM1, tBM, cT1, cT1f, cFind3, cSplit, cPart, rNewStrs, hIsS, hTru, tAsg, gName, gSub, tRet, tRetN, tCons, tNil, tTup, tLst, tCB, tNot, tAnd, tNotV, tAndV, tOrV, tOr, V.bl.injEq, V.int.injEq, V.str.injEq, exists_eq_left', exists_eq_left, exists_eq', true_and, and_true, cIsN, L2.start, gTup, gCons, gNil, nox_K, cx_K, tCallF, tSl, tPart, tNoPart, iEnum, RZ.iZipA, iRng1, iRng2, cAbs, List.map_cons, List.map_nil, List.length_cons, List.length_nil, List.replicate, List.cons_append, List.nil_append, List.getElem?_cons_zero, List.getElem?_cons_succ, List.getElem?_nil, List.set_cons_zero, List.set_cons_succ, Nat.reduceAdd, Nat.reduceSub, Nat.zero_add, if_true, if_false, reduceIte, reduceCtorEq, Bool.false_eq_true, decide_eq_true_eq, tDrop, cMin2, cJoin, iList, tDNewK, tLc_eq, iStr, wipe])
          refine ⟨by omega, hkl, hqo, ?_⟩
          rw [hwq]
          exact hE
        · refine Gd.ne_same (dpw h9) (dpw ((eG7.trans (e8.trans e9)) _ _ gD (fun ps z => by cases z))) shp ?_
          simp only [Bool.false_eq_true, if_false]
          exact ⟨⟨e8.trans e9, T9⟩, _, _, _, _, rfl⟩
      | none =>
        try dsimp only
        have hro := rok_of hqo hwq
        refine seqStep ?_
        unfold tAsg tIf
        (try simp only [tNext, tFor_eq, cBl, tOp, tC, cI, cIc, cAdd, cVar, hEq, hNe, hIn, hNotIn, hLen, hSl, tM1, tBM, cT1, cT1f, cFind3, cSplit, cPart, rNewStrs, hIsS, hTru, tAsg, gName, gSub, tRet, tRetN, tCons, tNil, tTup, tLst, tCB, tNot, tAnd, tNotV, tAndV, tOrV, tOr, V.bl.injEq, V.int.injEq, V.str.injEq, exists_eq_left', exists_eq_left, exists_eq', true_and, and_true, cIsN, L2.start, gTup, gCons, gNil, nox_K, cx_K, tCallF, tSl, tPart, tNoPart, iEnum, RZ.iZipA, iRng1, iRng2, cAbs, List.map_cons, List.map_nil, List.length_cons, List.length_nil, List.replicate, List.cons_append, List.nil_append, List.getElem?_cons_zero, List.getElem?_cons_succ, List.getElem?_nil, List.set_cons_zero, List.set_cons_succ, Nat.reduceAdd, Nat.reduceSub, Nat.zero_add, if_true, if_false, reduceIte, reduceCtorEq, Bool.false_eq_true, decide_eq_true_eq, tDrop, cMin2, cJoin, iList, tDNewK, tLc_eq, iStr, wipe])
        try simp only [decide_true, if_true]
        refine ⟨by omega, hro, fun pl as ps G5 x5 hpl0 hpl hta epl => ?_⟩
        refine ⟨by omega, fun pd hpd => ?_⟩
        have xD : Ext H6 (upd G5 pd (.tup [.str (Str.ofString "told"), .ref pl])) := x5.fresh hpd
        have gD : (upd G5 pd (.tup [.str (Str.ofString "told"), .ref pl])) pd = some (.tup [.str (Str.ofString "told"), .ref pl]) := upd_self
        have gl : (upd G5 pd (.tup [.str (Str.ofString "told"), .ref pl])) pl = some (.lst (as.map V.ref)) := upd_old hpl hpd
        have hta := hta.ext ((Ext.rf (H := G5)).fresh (o := .tup [.str (Str.ofString "told"), .ref pl]) hpd)
        generalize (upd G5 pd (.tup [.str (Str.ofString "told"), .ref pl])) = G at *
        have heG := ExtN.ext he6 xD
        have hTG := Tabs.x hT6 xD
        have hbG := bg_ext xD hb6
        clear he6 hT6 hb6 xD x5 hpl
        obtain ⟨hok, hpsl⟩ := rows_ok hro hz epl
        have tatN : ∀ {H' : Hp}, ExtN G H' → Gd.TAt H' as (ps.map rowPr) := fun {H'} e => ⟨hta.1, fun i t p h1 h2 => e _ _ (hta.2 i t p h1 h2) (fun ps z => by cases z)⟩
        have dpd : ∀ {H' : Hp}, ExtN G H' → Dp K H' (.ref pd) (tagD (Str.ofString "told") (.list (ps.map dPr))) := fun {H'} e => .tup (.inl (Rd.of (e _ _ gD (fun ps z => by cases z)))) (.cons (.str _) (.cons (.lst (.inl (Rd.of (e _ _ gl (fun ps z => by cases z)))) (dp_rows as ps (tatN e))) .nil))
        have shp : SeqAt.shaped (tagD (Str.ofString "told") (.list (ps.map dPr))) = true := tag_shaped told_ok (shaped_can (rows_shaped hok)) (by have := rows_depth hok; omega)
        -- what each asking comes to
        have ask : ∀ (G0 : Hp) (tl' : XK → Hp → VK → Prop) (Q2 : VK) (Pv : V → Hp → Prop), Tabs [(tp, qnL)] G0 → (∀ (H7 : Hp) (Q7 : VK), ExtN G0 H7 → Tabs [(tp, qnL)] H7 → (∀ v H', Ext H7 H' → Pv v H' → Q7 v H') → tl' (fun _ _ _ => False) H7 Q7) →
            (∀ p v H8, ExtN G0 H8 → Tabs [(tp, qnL)] H8 → (∃ H9, Pv v H9 ∧ Ext H9 H8) → H8 p = some (.tup [.str (Str.ofString "told"), v]) → Q2 (.ref p) H8) → Tabs [(tp, qnL)] G0 ∧ ∀ H1, ExtN G0 H1 → Tabs [(tp, qnL)] H1 → TOut K tl' H1 Q2 := fun G0 tl' Q2 Pv t0 hl hq => by
          refine ⟨t0, fun H7 eN T7 => ⟨fun _ _ _ => False, fun _ _ _ h => h.elim, ?_⟩⟩
          exact hl H7 _ eN T7 fun v H' x hv p hp => hq p v _ (ExtN.ext eN (x.fresh hp)) (Tabs.x T7 (x.fresh hp)) ⟨H', hv, (Ext.rf.fresh hp)⟩ upd_self
        refine seqStep ?_
        unfold tIfS
        refine cpsT (R := cBl _ _ _) (fun b' H' => b' = false ∧ ExtN G H' ∧ Tabs [(tp, qnL)] H') ?_ ?_
        case refine_2 =>
          intro Q' hQ
          (try simp only [tNext, tFor_eq, cBl, tOp, tC, cI, cIc, cAdd, cVar, hEq, hNe, hIn, hNotIn, hLen, hSl, tM1, tBM, cT1, cT1f, cFind3, cSplit, cPart, rNewStrs, hIsS, hTru, tAsg, gName, gSub, tRet, tRetN, tCons, tNil, tTup, tLst, tCB, tNot, tAnd, tNotV, tAndV, tOrV, tOr, V.bl.injEq, V.int.injEq, V.str.injEq, exists_eq_left', exists_eq_left, exists_eq', true_and, and_true, cIsN, L2.start, gTup, gCons, gNil, nox_K, cx_K, tCallF, tSl, tPart, tNoPart, iEnum, RZ.iZipA, iRng1, iRng2, cAbs, List.map_cons, List.map_nil, List.length_cons, List.length_nil, List.replicate, List.cons_append, List.nil_append, List.getElem?_cons_zero, List.getElem?_cons_succ, List.getElem?_nil, List.set_cons_zero, List.set_cons_succ, Nat.reduceAdd, Nat.reduceSub, Nat.zero_add, if_true, if_false, reduceIte, reduceCtorEq, Bool.false_eq_true, decide_eq_true_eq, tDrop, cMin2, cJoin, iList, tDNewK, tLc_eq, iStr, wipe])
          unfold tLam
          refine ask G _ _ (fun v H' => ∃ p as2, v = .ref p ∧ H' p = some (.lst (as2.map V.ref)) ∧ Gd.TAt H' as2 (ps.map rowPr)) hTG (fun H7 Q7 eN T7 hE => ?_) (fun p v H8 e8 T8 ⟨H9, ⟨p2, as2, ev, h2, ta2⟩, x9⟩ h8 => ?_)
          · (try simp only [tNext, tFor_eq, cBl, tOp, tC, cI, cIc, cAdd, cVar, hEq, hNe, hIn, hNotIn, hLen, hSl, tM1, tBM, cT1, cT1f, cFind3, cSplit, cPart, rNewStrs, hIsS, hTru, tAsg, gName, gSub, tRet, tRetN, tCons, tNil, tTup, tLst, tCB, tNot, tAnd, tNotV, tAndV, tOrV, tOr, V.bl.injEq, V.int.injEq, V.str.injEq, exists_eq_left', exists_eq_left, exists_eq', true_and, and_true, cIsN, L2.start, gTup, gCons, gNil, nox_K, cx_K, tCallF, tSl, tPart, tNoPart, iEnum, RZ.iZipA, iRng1, iRng2, cAbs, List.map_cons, List.map_nil, List.length_cons, List.length_nil, List.replicate, List.cons_append, List.nil_append, List.getElem?_cons_zero, List.getElem?_cons_succ, List.getElem?_nil, List.set_cons_zero, List.set_cons_succ, Nat.reduceAdd, Nat.reduceSub, Nat.zero_add, if_true, if_false, reduceIte, reduceCtorEq, Bool.false_eq_true, decide_eq_true_eq, tDrop, cMin2, cJoin, iList, tDNewK, tLc_eq, iStr, wipe])
            refine ⟨by omega, hqo, ?_⟩
            rw [hwq]
            intro p2 as2 ps2 H' x _ h2 ta2 e2
            obtain rfl := prT_inj (e2.trans epl.symm)
            exact hE _ _ x ⟨p2, as2, rfl, h2, ta2⟩
          · subst ev
            refine Gd.ne_same (.tup (.inl (Rd.of h8)) (.cons (.str _) (.cons (.lst (.inl (Rd.of (x9 _ _ h2))) (dp_rows as2 ps (ta2.ext x9))) .nil))) (dpd e8) shp ?_
            exact hQ _ _ ⟨rfl, e8, T8⟩
        rintro b' H7 ⟨rfl, e7, T7⟩
        rw [if_neg (by decide)]
        try simp only [tNext]
        (try simp only [tNext, tFor_eq, cBl, tOp, tC, cI, cIc, cAdd, cVar, hEq, hNe, hIn, hNotIn, hLen, hSl, tM1, tBM, cT1, cT1f, cFind3, cSplit, cPart, rNewStrs, hIsS, hTru, tAsg, gName, gSub, tRet, tRetN, tCons, tNil, tTup, tLst, tCB, tNot, tAnd, tNotV, tAndV, tOrV, tOr, V.bl.injEq, V.int.injEq, V.str.injEq, exists_eq_left', exists_eq_left, exists_eq', true_and, and_true, cIsN, L2.start, gTup, gCons, gNil, nox_K, cx_K, tCallF, tSl, tPart, tNoPart, iEnum, RZ.iZipA, iRng1, iRng2, cAbs, List.map_cons, List.map_nil, List.length_cons, List.length_nil, List.replicate, List.cons_append, List.nil_append, List.getElem?_cons_zero, List.getElem?_cons_succ, List.getElem?_nil, List.set_cons_zero, List.set_cons_succ, Nat.reduceAdd, Nat.reduceSub, Nat.zero_add, if_true, if_false, reduceIte, reduceCtorEq, Bool.false_eq_true, decide_eq_true_eq, tDrop, cMin2, cJoin, iList, tDNewK, tLc_eq, iStr, wipe])
        refine ⟨by omega, fun ph hph => ⟨ph, rfl, ⟨_, .inl (Rd.of upd_self)⟩, ?_⟩⟩
        have xh : Ext H7 (upd H7 ph (.lst [.str (Str.ofString ""), .str (Str.ofString "a"), .str (Str.ofString "zz")])) := Ext.rf.fresh hph
        have gh : (upd H7 ph (.lst [.str (Str.ofString ""), .str (Str.ofString "a"), .str (Str.ofString "zz")])) ph = some (.lst [.str (Str.ofString ""), .str (Str.ofString "a"), .str (Str.ofString "zz")]) := upd_self
        generalize (upd H7 ph (.lst [.str (Str.ofString ""), .str (Str.ofString "a"), .str (Str.ofString "zz")])) = G7 at *
        have eG7 := ExtN.ext e7 xh
        have TG7 := Tabs.x T7 xh
        clear e7 T7 xh
        refine lp_list (xs := [.str (Str.ofString ""), .str (Str.ofString "a"), .str (Str.ofString "zz")]) (fun j σ H' => (ExtN G7 H' ∧ Tabs [(tp, qnL)] H') ∧ ∃ u7 u8 u9 uA, σ = [some (.ref a), some (.int (0 + (k : Nat))), some (.ref b), some (.int (0 + (k2 : Nat))), some (.str z), some .non, some (.ref pd), u7, u8, u9, uA]) ⟨⟨ExtN.refl _, TG7⟩, _, _, _, _, rfl⟩ (fun i σ H' _ h => .inl (Rd.of (h.1.1 _ _ gh (fun ps z => by cases z)))) ?_ (fun σ H' ⟨⟨h1, h2⟩, _, _, _, _, h⟩ => ⟨⟨heG.trans (eG7.trans h1), h2, bg_n (eG7.trans h1) hbG⟩, _, _, _, _, _, _, _, _, h⟩)
        rintro j v σ H8 hv ⟨⟨e8, T8⟩, u7, u8, u9, uA, rfl⟩
        obtain ⟨key, rfl, hkl⟩ : ∃ key : Str, v = .str key ∧ key.length ≤ 20000 := by
          have hv := List.mem_of_getElem? hv
          simp only [List.mem_cons, List.not_mem_nil, or_false] at hv
          rcases hv with rfl | rfl | rfl <;> exact ⟨_, rfl, by decide⟩
        (try simp only [tNext, tFor_eq, cBl, tOp, tC, cI, cIc, cAdd, cVar, hEq, hNe, hIn, hNotIn, hLen, hSl, tM1, tBM, cT1, cT1f, cFind3, cSplit, cPart, rNewStrs, hIsS, hTru, tAsg, gName, gSub, tRet, tRetN, tCons, tNil, tTup, tLst, tCB, tNot, tAnd, tNotV, tAndV, tOrV, tOr, V.bl.injEq, V.int.injEq, V.str.injEq, exists_eq_left', exists_eq_left, exists_eq', true_and, and_true, cIsN, L2.start, gTup, gCons, gNil, nox_K, cx_K, tCallF, tSl, tPart, tNoPart, iEnum, RZ.iZipA, iRng1, iRng2, cAbs, List.map_cons, List.map_nil, List.length_cons, List.length_nil, List.replicate, List.cons_append, List.nil_append, List.getElem?_cons_zero, List.getElem?_cons_succ, List.getElem?_nil, List.set_cons_zero, List.set_cons_succ, Nat.reduceAdd, Nat.reduceSub, Nat.zero_add, if_true, if_false, reduceIte, reduceCtorEq, Bool.false_eq_true, decide_eq_true_eq, tDrop, cMin2, cJoin, iList, tDNewK, tLc_eq, iStr, wipe])
        refine seqStep ?_
        (try simp only [tNext, tFor_eq, cBl, tOp, tC, cI, cIc, cAdd, cVar, hEq, hNe, hIn, hNotIn, hLen, hSl, tM1, tBM, cT1, cT1f, cFind3, cSplit, cPart, rNewStrs, hIsS, hTru, tAsg, gName, gSub, tRet, tRetN, tCons, tNil, tTup, tLst, tCB, tNot, tAnd, tNotV, tAndV, tOrV, tOr, V.bl.injEq, V.int.injEq, V.str.injEq, exists_eq_left', exists_eq_left, exists_eq', true_and, and_true, cIsN, L2.start, gTup, gCons, gNil, nox_K, cx_K, tCallF, tSl, tPart, tNoPart, iEnum, RZ.iZipA, iRng1, iRng2, cAbs, List.map_cons, List.map_nil, List.length_cons, List.length_nil, List.replicate, List.cons_append, List.nil_append, List.getElem?_cons_zero, List.getElem?_cons_succ, List.getElem?_nil, List.set_cons_zero, List.set_cons_succ, Nat.reduceAdd, Nat.reduceSub, Nat.zero_add, if_true, if_false, reduceIte, reduceCtorEq, Bool.false_eq_true, decide_eq_true_eq, tDrop, cMin2, cJoin, iList, tDNewK, tLc_eq, iStr, wipe])
        refine seqStep ?_
        (try simp only [tNext, tFor_eq, cBl, tOp, tC, cI, cIc, cAdd, cVar, hEq, hNe, hIn, hNotIn, hLen, hSl, tM1, tBM, cT1, cT1f, cFind3, cSplit, cPart, rNewStrs, hIsS, hTru, tAsg, gName, gSub, tRet, tRetN, tCons, tNil, tTup, tLst, tCB, tNot, tAnd, tNotV, tAndV, tOrV, tOr, V.bl.injEq, V.int.injEq, V.str.injEq, exists_eq_left', exists_eq_left, exists_eq', true_and, and_true, cIsN, L2.start, gTup, gCons, gNil, nox_K, cx_K, tCallF, tSl, tPart, tNoPart, iEnum, RZ.iZipA, iRng1, iRng2, cAbs, List.map_cons, List.map_nil, List.length_cons, List.length_nil, List.replicate, List.cons_append, List.nil_append, List.getElem?_cons_zero, List.getElem?_cons_succ, List.getElem?_nil, List.set_cons_zero, List.set_cons_succ, Nat.reduceAdd, Nat.reduceSub, Nat.zero_add, if_true, if_false, reduceIte, reduceCtorEq, Bool.false_eq_true, decide_eq_true_eq, tDrop, cMin2, cJoin, iList, tDNewK, tLc_eq, iStr, wipe])
        have e80 := eG7.trans e8
        have gl8 := e80 _ _ gl (fun ps z => by cases z)
        have nas : as.length = ps.length := by rw [hta.1, List.length_map]
        refine hIx_tup (e80 _ _ gD (fun ps z => by cases z)) rfl ?_
        refine ⟨pl, rfl, ⟨_, .inl (Rd.of gl8)⟩, fun D hD => ?_⟩
        refine lcp_list (xs := as.map V.ref) (fun i H' => H' D = some (.lst ((vfs (ps.take i) key).map ovS)) ∧ Ext H8 H') ⟨upd_self, Ext.rf.fresh hD⟩ (fun i H' _ ⟨_, x⟩ => .inl (Rd.of (x _ _ gl8))) ?_ ?_
        · rintro i v H' hv ⟨hu, x⟩
          obtain ⟨a0, ha0, rfl⟩ := Gd.of_ref hv
          obtain ⟨r, hr0, ht0⟩ := (tatN e80).get ha0
          rw [List.getElem?_map] at hr0
          obtain ⟨pp, hpp, rfl⟩ : ∃ pp, ps[i]? = some pp ∧ rowPr pp = r := by
            cases e : ps[i]? with
            | none => rw [e] at hr0; cases hr0
            | some n => rw [e] at hr0; exact ⟨n, rfl, Option.some.inj hr0⟩
          have hil := (List.getElem?_eq_some_iff.mp hpp).1
          have ht1 := x _ _ ht0
          unfold rowPr at ht1
          have hvi := vfs_len (ps.take i) key
          rw [List.length_take] at hvi
          refine ⟨a0, _, rfl, .inl (Rd.of ht1), rfl, _, _, rfl, _, _, rfl, ?_⟩
          (try simp only [tNext, tFor_eq, cBl, tOp, tC, cI, cIc, cAdd, cVar, hEq, hNe, hIn, hNotIn, hLen, hSl, tM1, tBM, cT1, cT1f, cFind3, cSplit, cPart, rNewStrs, hIsS, hTru, tAsg, gName, gSub, tRet, tRetN, tCons, tNil, tTup, tLst, tCB, tNot, tAnd, tNotV, tAndV, tOrV, tOr, V.bl.injEq, V.int.injEq, V.str.injEq, exists_eq_left', exists_eq_left, exists_eq', true_and, and_true, cIsN, L2.start, gTup, gCons, gNil, nox_K, cx_K, tCallF, tSl, tPart, tNoPart, iEnum, RZ.iZipA, iRng1, iRng2, cAbs, List.map_cons, List.map_nil, List.length_cons, List.length_nil, List.replicate, List.cons_append, List.nil_append, List.getElem?_cons_zero, List.getElem?_cons_succ, List.getElem?_nil, List.set_cons_zero, List.set_cons_succ, Nat.reduceAdd, Nat.reduceSub, Nat.zero_add, if_true, if_false, reduceIte, reduceCtorEq, Bool.false_eq_true, decide_eq_true_eq, tDrop, cMin2, cJoin, iList, tDNewK, tLc_eq, iStr, wipe])
          rw [take_snoc hpp, vfs_snoc]
          by_cases hk2 : pp.1 = key
          · rw [if_pos hk2, if_pos hk2, List.map_append]
            exact ⟨_, hu, by rw [List.length_map]; omega, upd_self, x.new hD⟩
          · rw [if_neg hk2, if_neg hk2]
            exact ⟨hu, x⟩
        · rintro H9 ⟨hu, x9⟩
          rw [List.length_map, nas, List.take_length] at hu
          refine ⟨D, _, rfl, .inl ⟨.inl (Rd.of hu), fun l hl => ⟨by omega, fun pd2 hpd2 => ?_⟩⟩⟩
          have xx : Ext H8 (upd (upd H9 l (.tup ((vfs ps key).map ovS))) pd2 (.tup [.str (Str.ofString "told"), .ref l])) := (x9.fresh hl).fresh hpd2
          have g2 : (upd (upd H9 l (.tup ((vfs ps key).map ovS))) pd2 (.tup [.str (Str.ofString "told"), .ref l])) pd2 = some (.tup [.str (Str.ofString "told"), .ref l]) := upd_self
          have g1 : (upd (upd H9 l (.tup ((vfs ps key).map ovS))) pd2 (.tup [.str (Str.ofString "told"), .ref l])) l = some (.tup ((vfs ps key).map ovS)) := upd_old upd_self hpd2
          generalize (upd (upd H9 l (.tup ((vfs ps key).map ovS))) pd2 (.tup [.str (Str.ofString "told"), .ref l])) = GH at *
          have hvk := vfs_ok (key := key) hok
          have shv : SeqAt.shaped (tagD (Str.ofString "told") (.tuple ((vfs ps key).map dOv))) = true := tag_shaped told_ok (shaped_can (vals_shaped hvk)) (by have := vals_depth hvk; omega)
          unfold tLam
          refine ask GH _ _ (fun v H' => ∃ t, v = .ref t ∧ ∀ H'', Ext H' H'' → SqT K H'' t ((vfs ps key).map ovS)) (Tabs.x T8 xx) (fun H7' Q7 eN T7 hE => ?_) (fun p v H10 e10 T10 ⟨H11, ⟨t, ev, ht2⟩, x11⟩ h10 => ?_)
          · unfold tCallD
            (try simp only [tNext, tFor_eq, cBl, tOp, tC, cI, cIc, cAdd, cVar, hEq, hNe, hIn, hNotIn, hLen, hSl, tM1, tBM, cT1, cT1f, cFind3, cSplit, cPart, rNewStrs, hIsS, hTru, tAsg, gName, gSub, tRet, tRetN, tCons, tNil, tTup, tLst, tCB, tNot, tAnd, tNotV, tAndV, tOrV, tOr, V.bl.injEq, V.int.injEq, V.str.injEq, exists_eq_left', exists_eq_left, exists_eq', true_and, and_true, cIsN, L2.start, gTup, gCons, gNil, nox_K, cx_K, tCallF, tSl, tPart, tNoPart, iEnum, RZ.iZipA, iRng1, iRng2, cAbs, List.map_cons, List.map_nil, List.length_cons, List.length_nil, List.replicate, List.cons_append, List.nil_append, List.getElem?_cons_zero, List.getElem?_cons_succ, List.getElem?_nil, List.set_cons_zero, List.set_cons_succ, Nat.reduceAdd, Nat.reduceSub, Nat.zero_add, if_true, if_false, reduceIte, reduceCtorEq, Bool.false_eq_true, decide_eq_true_eq, tDrop, cMin2, cJoin, iList, tDNewK, tLc_eq, iStr, wipe])
            refine ⟨by omega, hkl, hqo, ?_⟩
            rw [hwq]
            refine ⟨ps, epl, fun p hp => Nat.le_trans (hok p hp).1.1 (by decide), fun p H' hne x hp => hE _ _ x ⟨p, rfl, fun H'' x2 => .inl (Rd.of (x2 _ _ hp))⟩, fun H' he x => hE _ _ x ⟨_, rfl, fun H'' _ => ?_⟩⟩
            rw [he]
            exact kwt_values_of_default c H''
          · subst ev
            refine Gd.ne_same (.tup (.inl (Rd.of h10)) (.cons (.str _) (.cons (.tup (ht2 _ x11) (dp_ovs _)) .nil))) (.tup (.inl (Rd.of (e10 _ _ g2 (fun ps z => by cases z)))) (.cons (.str _) (.cons (.tup (.inl (Rd.of (e10 _ _ g1 (fun ps z => by cases z)))) (dp_ovs _)) .nil))) shv ?_
            simp only [Bool.false_eq_true, if_false]
            exact ⟨⟨ExtN.trans (ExtN.ext e8 xx) e10, T10⟩, _, _, _, _, rfl⟩
    · rintro σ H1 hl
      (try simp only [tNext, tFor_eq, cBl, tOp, tC, cI, cIc, cAdd, cVar, hEq, hNe, hIn, hNotIn, hLen, hSl, tM1, tBM, cT1, cT1f, cFind3, cSplit, cPart, rNewStrs, hIsS, hTru, tAsg, gName, gSub, tRet, tRetN, tCons, tNil, tTup, tLst, tCB, tNot, tAnd, tNotV, tAndV, tOrV, tOr, V.bl.injEq, V.int.injEq, V.str.injEq, exists_eq_left', exists_eq_left, exists_eq', true_and, and_true, cIsN, L2.start, gTup, gCons, gNil, nox_K, cx_K, tCallF, tSl, tPart, tNoPart, iEnum, RZ.iZipA, iRng1, iRng2, cAbs, List.map_cons, List.map_nil, List.length_cons, List.length_nil, List.replicate, List.cons_append, List.nil_append, List.getElem?_cons_zero, List.getElem?_cons_succ, List.getElem?_nil, List.set_cons_zero, List.set_cons_succ, Nat.reduceAdd, Nat.reduceSub, Nat.zero_add, if_true, if_false, reduceIte, reduceCtorEq, Bool.false_eq_true, decide_eq_true_eq, tDrop, cMin2, cJoin, iList, tDNewK, tLc_eq, iStr, wipe])
      exact q _
end
end Da
set_option Elab.async false
set_option linter.all false
set_option maxRecDepth 100000
set_option maxHeartbeats 0
namespace Da
open PySem PySem.Spec PyProof.Rows L2 Hd Xs Fx
theorem facts {P : Program} {w : World} {K : PySem.W.Frag} {h : Heap} {mg : Str → Option Value} {f : Addr} (X : K.In h) (G : h.Ns mainGlobals mg) (hfa : mg ("law" : Str) = some (.ref f)) (c : Xb.Says fa fn ts ex w K) (t : XbT.TabF ["law"] K h) :
    ∃ (fd : FuncData) (p : Addr × Addr), p ∈ XbT.tabs ["law"] K ∧ (∀ (s : Shared) (v : Value), BindsTo s fd ⟨[v], []⟩ [("script", v)]) ∧ ∀ base : Heap, K.In base → base.Ns mainGlobals mg → LamX.TabB base mg p.1 p.2 → FnOk P w K mg base CX0 14 f fd ["script"] (spLaw K p.2) := by
  have C : Ct w K mg := ⟨c, h, X, G⟩
  have e := hfa.symm.trans (g_law C)
  cases e
  obtain ⟨fd, F⟩ := F_law C
  have b := FunD.bindsA (ps := ["script"]) F fun _ _ _ _ _ _ us hl => match us, hl with | [_], _ => rfl
  have hn : PySem.W.nsIn K mainGlobals ("law" : Str) = some (some (.ref (He.ga K "law"))) := of_decide_eq_true (c.fact 23 (f := .glo "law") rfl)
  obtain ⟨oc, od, dV, kV, doc, pm, an, cdv, ct, osl, e, lk, _⟩ := F.ex
  obtain ⟨p, hp, hcode⟩ := t.at (mg := mg) (x := "law") (List.mem_singleton_self _) hn lk
  exact ⟨fd, p, hp, fun s v => b s [v] rfl, fun base _ _ TB => law_fn C F hcode TB⟩
end Da
open PySem PySem.W PySem.Calls PyProof.Rows
set_option maxRecDepth 100000 in
set_option maxHeartbeats 0 in
theorem PySem.Challenge.cw_urlplaces_k08_queries_refused_holds : PySem.Challenge.rw_urlplaces_k08_queries_refused.Holds := by
  w_on; o_law
  refine HandSHeadRun.head_any (r := Hd.R) (q := view Hd.R.prog [33]) (H := Hd.hk) (ob := Hd.ob) (M := 8000) (loose := Hd.loose) (d := HandSHeadRun.topDef Hd.R.prog 33) (kwd := []) Hd.ob_eq
    (by kernel_rfl) (fun s => by kernel_rfl) Hd.run (by kernel_rfl) (by kernel_rfl) (by kernel_rfl) (by rfl) (by first | assumption | decide +kernel) (by decide +kernel) ⟨rfl, rfl, rfl, rfl, rfl, by decide +kernel⟩ ?hw ?hc
  case hw => w_witness2
  case hc =>
    refine LamX.walk_ofTsE (l := PySem.Challenge.rw_urlplaces_k08_queries_refused) (n := 63) (k := 14) (x := "script") (CX := fun _ => L2.CX0) rfl (by decide) (by kernel_rfl) ⟨rfl, by decide, by decide⟩ ?F (fun _ _ _ _ _ z => z)
    intro w mg fa h Y G hmg0
    obtain ⟨K, KX, c, t⟩ := Y
    have hmg : mg ("law" : PySem.Str) = some (.ref fa) := by
      have e : (HandSHeadRun.topDef Hd.R.prog 33).name = ("law" : PySem.Str) := by kernel_rfl
      rw [← e]
      exact hmg0
    obtain ⟨fd, p, hp, hb, hF⟩ := Da.facts (P := (PySem.Challenge.rw_urlplaces_k08_queries_refused).prog) (w := w) KX G hmg c t
    exact ⟨K, KX, fd, XbT.tabs ["law"] K, Da.spLaw K p.2, t.tab, t.no, fun q hq => PySem.W.codeHd_of_K KX (t.cd q hq), hb, fun H a ns hl _ hT hS => ⟨hT p hp, ns, hS, fun _ => rfl⟩, fun base hB hN hTB => hF base hB hN (hTB p hp)⟩
