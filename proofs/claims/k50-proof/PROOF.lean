import PyProof.Rows.All
import Wide.All
import OpenK.AllK
import Wide.FinOn
import KE.KStateDown
import Lean
import HandS.ForMost
import HandS.ForExc
import HandS.Defaults
import HandS.Head0
import HandS.Head1
import HandS.Head2
import HandS.HeadEnd
import HandS.HeadHook1
import HandS.HeadHook2
import HandS.HeadHook3
import HandS.HeadNt
import HandS.ClsMeth
import HandS.Star
import HandS.Property
import HandS.OwnEq
import HandS.IsInst
import HandS.StrMore
import HandS.FStr
import HandS.Zip
import HandS.Flow
import HandS.Small
import HandS.ExcOwn
import HandS.List
import HandS.Style
import HandS.Evl
import HandS.RaiseMore
import HandS.ExcInit
import HandS.TryMany
import HandS.ExcField
import HandS.ExcValue
import KE.KParD
import KE.KDictZip
import HandS.HotCalls
import KE.KTryMore
import PyProof.WalkInts
import HandS.TupLe
import HandS.MakeKwOnly
import KE.KExcInit
import PyProof.ExcFactsAll.TypeError
import PyProof.ExcFactsAll.LookupError
import PyProof.ExcFactsAll.OverflowError
import PyProof.ExcFactsAll.RuntimeError
import PyProof.Rows.StrLast
import PyProof.ListStr
import HandS.TryOnly
import PyProof.StrLawsRepr
import PySem.Challenge.RW_urlplaces_k50_wrong_places
set_option Elab.async false
set_option linter.all false
set_option maxRecDepth 100000
set_option maxHeartbeats 0
/-! Xb: the head's facts over ALL addresses below n (the closure by names costs memory), any further Bool of the fragment, tables with text keys. -/
namespace Xb
open PySem PySem.Spec PyProof.Rows L2
abbrev Al : Type := He.AlD × List (Option (List (Option (Str × Int)))) × Bool
def obs (fa : List He.Fa) (fn : List He5.DefA) (ts : List He.Tab) (ex : List (PySem.W.Frag → Bool)) (K : PySem.W.Frag) : Al :=
  (He5.obsA fa fn K, ts.map fun t => He.dicW K (t.1 K), ex.all fun e => e K)
def val (fn : List He5.DefA) (ts : List He.Tab) (w : World) : Al := (He5.valA fn, ts.map fun t => some (He.keysIn w.params t.2), true)
def Says (fa : List He.Fa) (fn : List He5.DefA) (ts : List He.Tab) (ex : List (PySem.W.Frag → Bool)) (w : World) (K : PySem.W.Frag) : Prop := obs fa fn ts ex K = val fn ts w
def obsG (n : Nat) (fa : List He.Fa) (fn : List He5.DefA) (ts : List He.Tab) (ex : List (PySem.W.Frag → Bool)) (g : Addr → Option Obj) : Al := obs fa fn ts ex (He.frG g (List.range n))
def hook (n : Nat) (fa : List He.Fa) (fn : List He5.DefA) (ts : List He.Tab) (ex : List (PySem.W.Frag → Bool)) : PySem.W.Hook where
  α := Al
  obs := fun s => obsG n fa fn ts ex s.heap.get?
  val := fun w => val fn ts w
  says := fun w h => ∃ K : PySem.W.Frag, K.In h ∧ Says fa fn ts ex w K
  of := fun _ _ e => ⟨_, He.frG_in, e⟩
  keeps := fun _ _ _ ⟨K, hK, c⟩ k => ⟨K, PySem.W.Frag.In.keeps hK k, c⟩
theorem obsG_eq {n : Nat} {fa : List He.Fa} {fn : List He5.DefA} {ts : List He.Tab} {ex : List (PySem.W.Frag → Bool)} {g : Addr → Option Obj} {s : Shared} (h : ∀ a, g a = s.heap.get? a) : obsG n fa fn ts ex g = (hook n fa fn ts ex).obs s := by
  have e : g = s.heap.get? := funext h
  rw [e] <;> rfl
section
variable {fa : List He.Fa} {fn : List He5.DefA} {ts : List He.Tab} {ex : List (PySem.W.Frag → Bool)} {w : World} {K : PySem.W.Frag}
theorem Says.a (c : Says fa fn ts ex w K) : He5.SaysA fa fn K := congrArg (fun z : Al => z.1) c
theorem Says.fact (c : Says fa fn ts ex w K) (i : Nat) {f : He.Fa} (h : fa[i]? = some f := by rfl) : f.ok K = true := c.a.fact i h
theorem Says.def_ (c : Says fa fn ts ex w K) (i : Nat) {d : He5.DefA} (h : fn[i]? = some d := by rfl) : ∃ fd, FunD K d.name d.qual d.params d.body d.scope (d.dvs K) (d.kws K) (d.at_ K) fd := c.a.def_ i h
theorem Says.tab (c : Says fa fn ts ex w K) (i : Nat) {t : He.Tab} (h : ts[i]? = some t := by rfl) : ∃ es n, KDict K w (t.1 K) es n := by
  have e : ts.map (fun t => He.dicW K (t.1 K)) = ts.map fun t => some (He.keysIn w.params t.2) := congrArg (fun z : Al => z.2.1) c
  have e2 : (ts.map fun t => He.dicW K (t.1 K))[i]? = (ts.map fun t => some (He.keysIn w.params t.2))[i]? := by rw [e]
  rw [List.getElem?_map, List.getElem?_map, h] at e2
  exact He.dicW_ok (Option.some.inj e2)
theorem Says.more (c : Says fa fn ts ex w K) (i : Nat) {e : PySem.W.Frag → Bool} (h : ex[i]? = some e := by rfl) : e K = true := by
  have e1 : (ex.all fun e => e K) = true := congrArg (fun z : Al => z.2.2) c
  exact List.all_eq_true.mp e1 e (List.mem_of_getElem? h)
end
end Xb
set_option Elab.async false
set_option linter.all false
set_option maxRecDepth 100000
set_option maxHeartbeats 4000000
namespace Xr
open PySem PySem.Spec PyProof.Rows L2
section
variable {prog : Program} {w : World} {A : Around} {E : Value → Shared → Prop} {s : Shared}
theorem wpAny_dictPut_pairs {K : Type} [DecidableEq K] {knd : KeyKind prog w K} {d : Addr} {kvs : List (K × Value)} {k : K} {key v : Value} {Q : Unit → Shared → Prop} (hkey : knd.is k key = true) (hm : s.heap.DictOf knd d kvs)
    (hQ : ∀ h', h'.DictOf knd d (stored kvs k v) → Heap.SameBut d s.heap h' → Q () { s with heap := h' })
    (hsz : kvs.length ≤ sizeLine) : wpAny (model prog w) A (dictPut d (knd.hash k) key v) Q E s := by
  obtain ⟨o, es, ep, ho, hc, hd, hk, hp, hn⟩ := hm
  have hes : es.size ≤ sizeLine := by have e1 := hp.length; have e2 : es.toList.length = es.size := by simp
                                      omega
  unfold dictPut
  refine wpAny_bind (wpAny_dictFind_of hkey ho hd hk ?_)
  have hidx : (es.findIdx? fun e => knd.is k e.key) = kvs.findIdx? fun kv => decide (kv.1 = k) := by
    rw [← hp.findIdx k]; obtain ⟨l⟩ := es; simp
  cases hi : es.findIdx? fun e => knd.is k e.key with
  | some i =>
    refine (wpAny_updateDict ho hd (hQ _ ⟨_, _, ep, Heap.get?_update_self _ ho (Obj.isFreed_of_dict (Obj.data_mapDict hd _)),
      hc.mapDict _, Obj.data_mapDict hd _, hk.modify _ _, ?_, ?_⟩ (Heap.SameBut.update ..)))
    · rw [stored, if_pos (any_of_findIdx_some (hidx ▸ hi))]
      have hl : (es.toList.findIdx? fun e => knd.is k e.key) = some i := by rw [← hi]; obtain ⟨l⟩ := es; simp
      have := hp.modify hn hl v
      obtain ⟨l⟩ := es
      simpa using this
    · rw [stored, if_pos (any_of_findIdx_some (hidx ▸ hi)), keys_map_store]; exact hn
  | none =>
    have hnot : k ∉ kvs.map (·.1) := not_mem_of_findIdx_none (hidx ▸ hi)
    have hany : ¬ (kvs.any fun kv => decide (kv.1 = k)) = true := by
      rw [List.any_eq_true]; rintro ⟨kv, hkv, he⟩
      exact hnot (List.mem_map.mpr ⟨kv, hkv, of_decide_eq_true he⟩)
    refine (wpAny_updateDictKeys (hz := hes) ho hd (hQ _ ⟨_, _, ep + 1, Heap.get?_update_self _ ho (Obj.isFreed_of_dict (Obj.data_mapDictKeys hd _)),
      hc.mapDictKeys _, Obj.data_mapDictKeys hd _, hk.push hkey _, ?_, ?_⟩ (Heap.SameBut.update ..)))
    · rw [stored, if_neg hany]
      have := hp.append hkey (knd.hash k) v
      obtain ⟨l⟩ := es
      simpa using this
    · rw [stored, if_neg hany, List.map_append, List.nodup_append]
      refine ⟨hn, by simp, ?_⟩
      intro a ha b hb
      simp only [List.map_cons, List.map_nil, List.mem_singleton] at hb
      subst hb
      exact fun e => hnot (e ▸ ha)
theorem key_not_ref {k : Key} {v : Value} (h : (mixKind prog w).is k v = true) : ∀ b, v ≠ .ref b := fun b e => by
  subst e
  rcases keyIs_shape h with ⟨i, t, _, e⟩ | ⟨x, t, _, e⟩ <;> cases e
theorem nodup_take {α : Type} {l : List α} (h : l.Nodup) (n : Nat) : (l.take n).Nodup := h.sublist (List.take_sublist n l)
/-- merging a dict of ints and texts into another one (unique: its keys are new there) -/
theorem wpAny_mergeMapping {u : Bool} {d a : Addr} {kvs more : List (Key × Value)} {Q : Unit → Shared → Prop} (hda : d ≠ a) (haS : (a == sysModules) = false)
    (hd : s.heap.DictOf (mixKind prog w) d kvs) (ha : s.heap.DictOf (mixKind prog w) a more) (hu : u = true → ((kvs ++ more).map (·.1)).Nodup)
    (hQ : ∀ h', h'.DictOf (mixKind prog w) d (merged kvs more) → Heap.SameBut d s.heap h' → Q () { s with heap := h' })
    (hsz : kvs.length + more.length ≤ sizeLine) : wpAny (model prog w) A (mergeMapping d (.ref a) u) Q E s := by
  obtain ⟨od, esd, epd, hod, hcd, hdd, hkd, hpd, hnd⟩ := id hd
  obtain ⟨oo, eso, epo, hoo, hco, hdo', hko, hpo, hno⟩ := id ha
  have hlen : more.length = eso.size := by rw [← hpo.length]; simp
  unfold mergeMapping
  refine wpAny_bind (wpAny_isInstance ha.typeIs isSubtype_dict_dict ?_)
  simp only [if_true]
  refine wpAny_bind (wpAny_specialOf ha.typeIs F.slot_dict_iter.lookup (wpAny_bind (wpAny_pure ?_)))
  simp only [beq_self_eq_true]
  rw [if_neg (by rw [haS]; exact Bool.false_ne_true)]
  refine wpAny_bind (wpAny_dictEntries hod hdd ?_)
  have loop : wpAny (model prog w) A (do
      let l ← dictEntries a
      let epoch ← dictEpoch a
      forIn (List.range l.size) PUnit.unit fun i (__s : PUnit) => (do
          let l' ← dictEntries a
          match l'[i]? with
            | some e => do
              holding [e.key, e.val]
                  (have __do_jp := fun (__r : PUnit) => dictPut d e.hash e.key e.val;
                  if u = true then do
                    let f ← dictFind d e.key e.hash
                    if f.isSome = true then do
                        rule "dict.merge.duplicate-key"
                        let x ← newExc (Value.type "KeyError") [e.key]
                        let __r ← raiseNew x
                        __do_jp __r
                      else __do_jp ()
                  else __do_jp ())
              let ep' ← dictEpoch a
              if (ep' != epoch) = true then do
                  (unsupported "dict.changed-during-merge" : Sem PUnit)
                  pure (ForInStep.yield PUnit.unit)
                else pure (ForInStep.yield PUnit.unit)
            | _ => do
              (unsupported "dict.changed-during-merge" : Sem PUnit)
              pure (ForInStep.yield PUnit.unit) : Sem (ForInStep PUnit))
      pure ()) Q E s := by
    refine wpAny_bind (wpAny_dictEntries hoo hdo' ?_)
    refine wpAny_bind (wpAny_dictEpoch hoo hdo' ?_)
    refine wpAny_bind ?_
    rw [List.range_eq_range']
    refine wpAny_forIn_list _
      (fun rest _ s' => ∃ h' i, s' = { s with heap := h' } ∧ rest = List.range' i (eso.size - i) ∧ i ≤ eso.size ∧ h'.DictOf (mixKind prog w) d (merged kvs (more.take i)) ∧ h'.get? a = some oo ∧ Heap.SameBut d s.heap h')
      _ ?_ ?_ _ _ ⟨s.heap, 0, rfl, by simp, Nat.zero_le _, by simpa [merged] using hd, hoo, Heap.SameBut.refl _ _⟩
    · rintro x rest b s' ⟨h', i, rfl, hr, hi, hd', hoo', hs'⟩
      have hlt : i < eso.size := by
        rcases Nat.lt_or_ge i eso.size with h | h
        · exact h
        · rw [Nat.sub_eq_zero_of_le h] at hr; simp at hr
      obtain ⟨rfl, hrest⟩ : x = i ∧ rest = List.range' (i + 1) (eso.size - (i + 1)) := by
        have e : eso.size - i = (eso.size - (i + 1)) + 1 := by omega
        rw [e, List.range'_succ] at hr
        injection hr with h1 h2
        exact ⟨h1, h2⟩
      refine wpAny_bind (wpAny_dictEntries hoo' hdo' ?_)
      rw [Array.getElem?_eq_getElem hlt]
      obtain ⟨kv, hkv⟩ : ∃ kv, more[x]? = some kv := ⟨more[x]'(by rw [hlen]; exact hlt), List.getElem?_eq_getElem _⟩
      obtain ⟨k, v⟩ := kv
      obtain ⟨hkey, hval⟩ := hpo.get? (e := eso[x]) (by simp [hlt]) hkv
      obtain ⟨k', hkey', hhash⟩ := hko eso[x] (Array.getElem_mem hlt)
      obtain rfl : k' = k := (mixKind prog w).inj _ _ _ hkey' hkey
      dsimp only
      rw [hhash, hval]
      have hmx : (merged kvs (more.take x)).length ≤ sizeLine := by
        have e1 := merged_length_le kvs (more.take x)
        have e2 : (more.take x).length ≤ more.length := by simp; omega
        omega
      have put : ∀ (Q' : Unit → Shared → Prop), (∀ h'', h''.DictOf (mixKind prog w) d (merged kvs (more.take (x + 1))) → Heap.SameBut d h' h'' → Q' () { s with heap := h'' }) →
          wpAny (model prog w) A (dictPut d ((mixKind prog w).hash k') eso[x].key v) Q' E { s with heap := h' } := fun Q' hq' => by
        refine wpAny_dictPut_pairs (s := { s with heap := h' }) hkey hd' (fun h'' hd'' hs'' => ?_) hmx
        refine hq' h'' ?_ hs''
        rw [merged_take_succ kvs more x (k', v) hkv]
        exact hd''
      have fin : ∀ (P : ForInStep PUnit → Shared → Prop) h'', h''.DictOf (mixKind prog w) d (merged kvs (more.take (x + 1))) → Heap.SameBut d h' h'' →
          ((∃ h' i, ({ s with heap := h'' } : Shared) = { s with heap := h' } ∧ rest = List.range' i (eso.size - i) ∧ i ≤ eso.size ∧ h'.DictOf (mixKind prog w) d (merged kvs (more.take i)) ∧ h'.get? a = some oo ∧ Heap.SameBut d s.heap h') → P (.yield PUnit.unit) { s with heap := h'' }) →
          wpAny (model prog w) A (do
              let ep' ← dictEpoch a
              if (ep' != epo) = true then do
                  (unsupported "dict.changed-during-merge" : Sem PUnit)
                  pure (ForInStep.yield PUnit.unit)
                else pure (ForInStep.yield PUnit.unit)) P E { s with heap := h'' } := fun P h'' hd'' hs'' hP => by
        have ho'' : h''.get? a = some oo := (hs''.2 a (Ne.symm hda)).trans hoo'
        refine wpAny_bind (wpAny_dictEpoch (s := { s with heap := h'' }) ho'' hdo' ?_)
        rw [if_neg (by simp)]
        exact wpAny_pure (hP ⟨h'', x + 1, rfl, hrest, hlt, hd'', ho'', hs'.trans hs''⟩)
      refine wpAny_bind (wpAny_holding ?_)
      by_cases hub : u = true
      · rw [if_pos hub]
        obtain ⟨od', esd', epd', hod', hcd', hdd', hkd', hpd', hnd'⟩ := id hd'
        refine wpAny_bind (wpAny_dictFind_of (s := { s with heap := h' }) hkey hod' hdd' hkd' ?_)
        have hN := hu hub
        have hm : merged kvs (more.take x) = kvs ++ more.take x := merged_append_of_fresh _ _ (by
          refine hN.sublist ?_
          exact List.Sublist.map _ (List.Sublist.append_left (List.take_sublist _ _) _))
        have hnone : (esd'.findIdx? fun e => (mixKind prog w).is k' e.key) = none := by
          have e1 : (esd'.findIdx? fun e => (mixKind prog w).is k' e.key) = (merged kvs (more.take x)).findIdx? fun kv => decide (kv.1 = k') := by
            rw [← hpd'.findIdx k']; obtain ⟨l⟩ := esd'; simp
          rw [e1, hm, List.findIdx?_eq_none_iff]
          intro kv hkv'
          refine decide_eq_false fun e => ?_
          have hsplit : kvs ++ more = (kvs ++ more.take x) ++ more.drop x := by rw [List.append_assoc, List.take_append_drop]
          rw [hsplit, List.map_append, List.nodup_append] at hN
          refine hN.2.2 kv.1 (List.mem_map.mpr ⟨kv, hkv', rfl⟩) k' ?_ e
          have hx : x < more.length := by rw [hlen]; exact hlt
          have hd0 : more.drop x = (k', v) :: more.drop (x + 1) := by
            rw [List.drop_eq_getElem_cons hx]
            congr 1
            exact Option.some.inj ((List.getElem?_eq_getElem hx).symm.trans hkv)
          rw [hd0]
          exact List.mem_map.mpr ⟨(k', v), List.mem_cons_self, rfl⟩
        rw [hnone]
        simp only [Option.isSome_none, Bool.false_eq_true, if_false]
        exact put _ fun h'' q1 q2 => fin _ h'' q1 q2 id
      · rw [if_neg hub]
        exact put _ fun h'' q1 q2 => fin _ h'' q1 q2 id
    · rintro b s' ⟨h', i, rfl, hr, hi, hd', hoo', hs'⟩
      have : i = eso.size := by
        have e := congrArg List.length hr.symm
        simp at e; omega
      subst this
      rw [← hlen, List.take_length] at hd'
      exact wpAny_pure (hQ h' hd' hs')
  by_cases hemp : esd.isEmpty = true
  · rw [if_pos hemp]
    refine wpAny_bind (wpAny_dictEntries hoo hdo' ?_)
    refine wpAny_bind ?_
    refine MeetsSeq2.wpAny_forIn_array _ (fun rest _ s' => s' = s ∧ ∀ e ∈ rest, e ∈ eso.toList) _ ?_ ?_ _ _ ⟨rfl, fun e he => he⟩
    · rintro e rest b s' ⟨rfl, hall⟩
      have he := hall e List.mem_cons_self
      obtain ⟨k, hk, _⟩ := hko e (Array.mem_def.mpr he)
      have hnr := key_not_ref hk
      cases hke : e.key with
      | ref b' => exact absurd hke (hnr b')
      | _ => exact wpAny_pure ⟨rfl, fun e' he' => hall e' (List.mem_cons_of_mem _ he')⟩
    · rintro b s' ⟨rfl, _⟩
      exact loop
  · rw [if_neg hemp]
    exact loop
end
end Xr
set_option Elab.async false
set_option linter.all false
set_option maxRecDepth 100000
set_option maxHeartbeats 4000000
namespace Xr
open PySem PySem.Spec PyProof.Rows L2
section
variable {prog : Program} {w : World} {A : Around} {E : Value → Shared → Prop} {s : Shared}
/-- the entries' names and values, as keywords -/
def kwOf : List (Key × Value) → Option (List (Str × Value))
  | [] => some []
  | (.inr x, v) :: r => (kwOf r).map ((x, v) :: ·)
  | (.inl _, _) :: _ => none
theorem mergedKw {f : Value} {t : Sem Value} {Q : Addr → Shared → Prop}
    (h : wpAny (model prog w) A t (fun v s1 => ∃ (a : Addr) (more : List (Key × Value)), v = .ref a ∧ (a == sysModules) = false ∧ s.heap.objs.size ≠ a ∧ s1.heap.DictOf (mixKind prog w) s.heap.objs.size [] ∧ s1.heap.DictOf (mixKind prog w) a more ∧ (more.map (·.1)).Nodup ∧ more.length ≤ sizeLine ∧
      ∀ h', h'.DictOf (mixKind prog w) s.heap.objs.size more → Heap.SameBut s.heap.objs.size s1.heap h' → Q s.heap.objs.size { s1 with heap := h' }) E { s with heap := s.heap.push { cls := .type "dict", data := .dict #[] } }) :
    wpAny (model prog w) A (mergedKeywords f [(none, t)]) Q E s := by
  delta mergedKeywords
  refine wpAny_bind (wpAny_alloc ?_)
  refine wpAny_bind (wpAny_holding ?_)
  dsimp only
  rw [List.forIn_cons]
  refine wpAny_bind (wpAny_bind ?_)
  dsimp only
  rw [if_pos (by rfl)]
  refine wpAny_bind (wpAny_pure ?_)
  refine wpAny_bind (wpAny_mono h (fun v s1 hv => ?_) fun _ _ x => x)
  obtain ⟨a, more, rfl, hS, hne, hd, ha, hn, hz, hq⟩ := hv
  refine wpAny_bind (wpAny_onRaise (wpAny_holding (wpAny_tryCatch (wpAny_onRaise (wpAny_mergeMapping (kvs := []) (more := more) hne hS hd ha (fun _ => hn) (fun h' hd' hs' => ?_) (by simpa using hz))))))
  refine wpAny_pure ?_
  dsimp only
  rw [List.forIn_nil]
  refine wpAny_pure ?_
  rw [if_pos (by rfl)]
  refine wpAny_pure (wpAny_pure ?_)
  rw [merged_nil_of_nodup more hn] at hd'
  exact hq h' hd' hs'
theorem keywordsIn_ok {f : Value} {d : Addr} {more : List (Key × Value)} {kw : List (Str × Value)} {Q : List (Str × Value) → Shared → Prop} (hd : s.heap.DictOf (mixKind prog w) d more) (hk : kwOf more = some kw) (hq : Q kw s) :
    wpAny (model prog w) A (keywordsIn f d) Q E s := by
  obtain ⟨o, es, ep, ho, hc, hdat, hke, hp, hn⟩ := hd
  delta keywordsIn
  dsimp only
  refine wpAny_bind (wpAny_dictEntries ho hdat ?_)
  refine wpAny_bind ?_
  refine MeetsSeq2.wpAny_forIn_array _ (fun rest b s' => s' = s ∧ ∃ r k2, Pairs (mixKind prog w) rest r ∧ kwOf r = some k2 ∧ b ++ k2 = kw) _ ?_ ?_ _ _ ⟨rfl, more, kw, hp, hk, rfl⟩
  · rintro e rest b s' ⟨rfl, r, k2, hpr, hkr, hb⟩
    cases hpr with
    | @cons _ kv _ kvs h1 h2 h3 =>
      obtain ⟨k, v⟩ := kv
      cases k with
      | inl i => cases hkr
      | inr x =>
        obtain ⟨tk, hx⟩ := Value.isStrOf_shape (x := x) (v := e.key) h1
        rw [hx]
        have e1 : (kwOf kvs).map ((x, v) :: ·) = some k2 := hkr
        cases e2 : kwOf kvs with
        | none => rw [e2] at e1; cases e1
        | some k3 =>
          rw [e2] at e1
          have e3 : (x, v) :: k3 = k2 := Option.some.inj e1
          refine wpAny_pure ⟨rfl, kvs, k3, h3, e2, ?_⟩
          rw [← hb, ← e3, List.append_assoc]
          have : e.val = v := h2
          rw [this]
          rfl
  · rintro b s' ⟨rfl, r, k2, hpr, hkr, hb⟩
    cases hpr
    have e1 : [] = k2 := Option.some.inj hkr
    subst e1
    rw [List.append_nil] at hb
    subst hb
    exact wpAny_pure hq
theorem evalArgs_kw {f : Value} {t : Sem Value} {Q : Args → Shared → Prop}
    (h : wpAny (model prog w) A t (fun v s1 => ∃ (a : Addr) (more : List (Key × Value)) (kw : List (Str × Value)), v = .ref a ∧ (a == sysModules) = false ∧ s.heap.objs.size ≠ a ∧ s1.heap.DictOf (mixKind prog w) s.heap.objs.size [] ∧ s1.heap.DictOf (mixKind prog w) a more ∧ (more.map (·.1)).Nodup ∧ more.length ≤ sizeLine ∧ kwOf more = some kw ∧
      ∀ h', h'.DictOf (mixKind prog w) s.heap.objs.size more → Heap.SameBut s.heap.objs.size s1.heap h' → Q ⟨[], kw⟩ { s1 with heap := h' }) E { s with heap := s.heap.push { cls := .type "dict", data := .dict #[] } }) :
    wpAny (model prog w) A (evalArgs f true [] [(none, t)]) Q E s := by
  delta evalArgs
  dsimp only
  refine wpAny_bind (PySem.Calls.spliced_nil (wpAny_bind (wpAny_pure ?_)))
  refine wpAny_holding ?_
  rw [if_neg (show ¬ ([((none : Option Str), t)].all fun x => x.fst.isSome) = true from fun z => nomatch z)]
  refine wpAny_bind (mergedKw (wpAny_mono h (fun v s1 hv => ?_) fun _ _ x => x))
  obtain ⟨a, more, kw, rfl, hS, hne, hd, ha, hn, hz, hk, hq⟩ := hv
  refine ⟨a, more, rfl, hS, hne, hd, ha, hn, hz, fun h' hd' hs' => ?_⟩
  refine wpAny_bind (wpAny_pure ?_)
  refine wpAny_bind (wpAny_holding (keywordsIn_ok (s := { s1 with heap := h' }) hd' hk (wpAny_pure (hq h' hd' hs'))))
/-- a call with one ** -/
theorem callWith_kw {f : Value} {first : List Value} {t : Sem Value} {pos : Pos} {Q : Value → Shared → Prop} {P : Heap → Prop}
    (hk : ∀ h, P h → ∃ k, (k = Keeper.frame ∨ k = Keeper.machine ∨ k = Keeper.boundFrame) ∧ PySem.W.Looks (model prog w) h (keeperOf f) k)
    (h : wpAny (model prog w) A (evalArgs f true [] [(none, t)]) (fun a s₁ => P s₁.heap ∧ wpAny (model prog w) A (call f (first ++ a.pos) a.kw) Q E s₁) E s) : wpAny (model prog w) A (callWith pos f first [] [(none, t)]) Q E s := by
  unfold callWith
  refine wpAny_bind (wpAny_holding (wpAny_mono h (fun a s₁ h₁ => wpAny_bind (wpAny_standAt ?_)) fun _ _ x => x))
  obtain ⟨k, hk', L⟩ := hk _ h₁.1
  have hst : (([] : List (Bool × Sem Value)).any (·.1) || [((none : Option Str), t)].any (·.1.isNone)) = true := rfl
  simp only [hst]
  refine wpAny_bind (L.here ?_)
  have tail : ∀ {t : Sem Value}, wpAny (model prog w) A t Q E s₁ → wpAny (model prog w) A (t >>= fun r => holding [r] point >>= fun _ => pure r) Q E s₁ :=
    fun ht => wpAny_bind (wpAny_mono ht (fun r s₂ hr => wpAny_bind (wpAny_holding (wpAny_point (wpAny_pure hr)))) fun _ _ x => x)
  have marked (mk : Value) : wpAny (model prog w) A (callMarked mk f (first ++ a.pos) a.kw) Q E s₁ := by unfold callMarked; exact Calls.wpAny_keep h₁.2
  rcases hk' with rfl | rfl | rfl <;> dsimp only <;> first | exact tail (marked _) | exact tail (wpAny_operateT h₁.2) | exact tail (PySem.W.wpAny_operating h₁.2)
end
end Xr
set_option Elab.async false
set_option linter.all false
set_option maxRecDepth 100000
set_option maxHeartbeats 4000000
namespace Xr
open PySem PySem.Spec PyProof.Rows L2
theorem lookup_append' {β : Type} (x : Str) : ∀ (l r : List (Str × β)), (l ++ r).lookup x = (l.lookup x).or (r.lookup x)
  | [], r => by simp
  | (y, v) :: l, r => by
    by_cases h : x = y
    · subst h; simp [List.lookup]
    · have e : (x == y) = false := by simpa using h
      simp only [List.cons_append, List.lookup, e]
      exact lookup_append' x l r
theorem lookup_none {β : Type} {x : Str} : ∀ {l : List (Str × β)}, x ∉ l.map (·.1) → l.lookup x = none
  | [], _ => rfl
  | (y, v) :: l, h => by
    have h1 : x ≠ y := fun e => h (by rw [e]; exact List.mem_cons_self)
    have e : (x == y) = false := by simpa using h1
    simp only [List.lookup, e]
    exact lookup_none fun hm => h (List.mem_cons_of_mem _ hm)
theorem seqNone {M : Model} {A : Around} {Q : Option (Array Value) → Shared → Prop} {E : Value → Shared → Prop} {s : Shared} (h : Q none s) : wpAny M A (seqItems? .none) Q E s := wpAny_pure h
/-- keyword-only parameters behind one positional one: any keywords of these, in any order; the others by their defaults -/
theorem bindKw {K : PySem.W.Frag} {s : Shared} {fd : FuncData} {c : Str} {kns : List Str} {D : Addr} {dv : Str → Value} {u : Value} {kw : List (Str × Value)} (X : K.In s.heap)
    (h1 : fd.params.posonlyargs.map (·.arg) = []) (h2 : fd.params.args.map (·.arg) = [c]) (h3 : fd.params.kwonlyargs.map (·.arg) = kns) (h4 : fd.params.vararg = none) (h5 : fd.params.kwarg = none) (h6 : fd.defaults = .none) (h7 : fd.kwdefaults = .ref D)
    (hk : ∀ q ∈ kw, q.1 ∈ kns) (hn : (kw.map (·.1)).Nodup) (hc : c ∉ kns) (hkn : kns.Nodup) (hD : ∀ n ∈ kns, PySem.W.nsIn K D n = some (some (dv n))) :
    BindsTo s fd ⟨[u], kw⟩ ((c, u) :: kns.map fun n => (n, (kw.lookup n).getD (dv n))) := by
  intro M A E Q hq
  delta bindArgs
  dsimp only
  rw [h1, h2, h3, h4, h5, h6, h7]
  refine wpAny_bind ?_
  refine wpAny_forIn_list _ (fun rest b s' => s' = s ∧ ∃ done, kw = done ++ rest ∧ b = ((c, u) :: done, [])) _ ?_ ?_ _ _ ⟨rfl, [], rfl, rfl⟩
  · rintro ⟨k, v⟩ rest b s' ⟨rfl, done, he, rfl⟩
    have hmem : k ∈ kns := hk (k, v) (by rw [he]; exact List.mem_append_right _ List.mem_cons_self)
    have hkd : k ∉ done.map (·.1) := fun hm => by
      rw [he, List.map_append, List.nodup_append] at hn
      exact hn.2.2 k hm k (by exact List.mem_cons_self) rfl
    have hkc : k ≠ c := fun e => hc (e ▸ hmem)
    have hcont : ((([c] : List Str).contains k || kns.contains k) = true) := by
      rw [Bool.or_eq_true]; right
      exact List.contains_iff_mem.mpr hmem
    rw [if_pos hcont]
    have hlk : (((c, u) :: done).lookup k) = none := by
      have e : (k == c) = false := by simpa using hkc
      simp only [List.lookup, e]
      exact lookup_none hkd
    rw [hlk]
    rw [if_neg (by simp)]
    exact wpAny_pure ⟨rfl, done ++ [(k, v)], by rw [he]; simp, rfl⟩
  · rintro b s' ⟨rfl, done, he, rfl⟩
    rw [List.append_nil] at he
    subst he
    refine wpAny_bind (seqNone ?_)
    rw [if_neg (by simp)]
    rw [if_neg (by simp [List.lookup])]
    refine wpAny_bind (wpAny_pure ?_)
    refine wpAny_bind ?_
    refine wpAny_forIn_list _ (fun rest b s2 => s2 = s' ∧ ∃ done, kns = done ++ rest ∧ b = ((c, u) :: kw ++ (done.filter fun n => (kw.lookup n).isNone).map (fun n => (n, dv n)), [])) _ ?_ ?_ _ _ ⟨rfl, [], rfl, by simp⟩
    · rintro n rest b s2 ⟨rfl, done, he, rfl⟩
      have hmem : n ∈ kns := by rw [he]; exact List.mem_append_right _ List.mem_cons_self
      have hnc : n ≠ c := fun e => hc (e ▸ hmem)
      have hnd : n ∉ done := fun hm => by
        rw [he, List.nodup_append] at hkn
        exact hkn.2.2 n hm n List.mem_cons_self rfl
      have e : (n == c) = false := by simpa using hnc
      have hl : ((c, u) :: kw ++ (done.filter fun n => (kw.lookup n).isNone).map (fun n => (n, dv n))).lookup n = kw.lookup n := by
        rw [lookup_append', List.lookup, e]
        have : ((done.filter fun n => (kw.lookup n).isNone).map (fun n => (n, dv n))).lookup n = none := lookup_none (by
          rw [List.map_map]
          intro hm
          obtain ⟨y, hy, rfl⟩ := List.mem_map.mp hm
          exact hnd (List.mem_filter.mp hy).1)
        rw [this]
        simp
      dsimp only
      rw [hl]
      cases hkl : kw.lookup n with
      | some v =>
        rw [if_neg (by simp)]
        refine wpAny_pure ⟨rfl, done ++ [n], by rw [he]; simp, ?_⟩
        rw [List.filter_append]
        simp [hkl]
      | none =>
        rw [if_pos (by simp)]
        refine wpAny_bind ((PySem.W.looks_nsIn X (hD n hmem)).here ?_)
        refine wpAny_pure ⟨rfl, done ++ [n], by rw [he]; simp, ?_⟩
        rw [List.filter_append]
        simp [hkl]
    · rintro b s2 ⟨rfl, done, he, rfl⟩
      rw [List.append_nil] at he
      subst he
      rw [if_neg (by simp)]
      refine wpAny_pure ?_
      have key : ∀ n ∈ kns, (((c, u) :: kw ++ (kns.filter fun n => (kw.lookup n).isNone).map (fun n => (n, dv n))).lookup n) = some ((kw.lookup n).getD (dv n)) := fun n hmem => by
        have hnc : n ≠ c := fun e => hc (e ▸ hmem)
        have e : (n == c) = false := by simpa using hnc
        rw [lookup_append', List.lookup, e]
        cases hkl : kw.lookup n with
        | some v => simp
        | none =>
          have : ∀ l : List Str, n ∈ l → (kw.lookup n).isNone = true → ((l.filter fun n => (kw.lookup n).isNone).map (fun n => (n, dv n))).lookup n = some (dv n) := by
            intro l
            induction l with
            | nil => intro h; cases h
            | cons y l ih =>
              intro h hz
              by_cases hy : n = y
              · subst hy
                rw [List.filter_cons, if_pos hz]
                simp [List.lookup]
              · have e2 : (n == y) = false := by simpa using hy
                have hm : n ∈ l := by
                  rcases List.mem_cons.mp h with h | h
                  · exact absurd h hy
                  · exact h
                by_cases hyn : (kw.lookup y).isNone = true
                · rw [List.filter_cons, if_pos hyn, List.map_cons]
                  simp only [List.lookup, e2]
                  exact ih hm hz
                · rw [List.filter_cons, if_neg hyn]
                  exact ih hm hz
          rw [this kns hmem (by rw [hkl]; rfl)]
          simp
      have ec : (((c, u) :: kw ++ (kns.filter fun n => (kw.lookup n).isNone).map (fun n => (n, dv n))).lookup c) = some u := by
        simp [List.lookup]
      have fin : ∀ l : List Str, (∀ n ∈ l, n ∈ kns) → List.filterMap (fun n => Option.map (fun x => (n, x)) (List.lookup n ((c, u) :: kw ++ (kns.filter fun n => (kw.lookup n).isNone).map (fun n => (n, dv n))))) l = l.map fun n => (n, (kw.lookup n).getD (dv n)) := by
        intro l
        induction l with
        | nil => intro _; rfl
        | cons y l ih =>
          intro h
          have := key y (h y List.mem_cons_self)
          rw [List.filterMap_cons, this, Option.map_some]
          exact congrArg _ (ih fun n hn => h n (List.mem_cons_of_mem _ hn))
      have all : List.filterMap (fun n => Option.map (fun x => (n, x)) (List.lookup n ((c, u) :: kw ++ (kns.filter fun n => (kw.lookup n).isNone).map (fun n => (n, dv n))))) ([] ++ [c] ++ kns) = (c, u) :: kns.map fun n => (n, (kw.lookup n).getD (dv n)) := by
        show List.filterMap _ (c :: kns) = _
        rw [List.filterMap_cons, ec, Option.map_some, fin kns fun _ h => h]
      dsimp only
      rw [all]
      exact hq
end Xr
set_option Elab.async false
set_option linter.all false
set_option maxRecDepth 100000
set_option maxHeartbeats 4000000
namespace Xr
open PySem PySem.Spec PyProof.Rows L2 ClX
/-! ### keywords, by values -/
/-- the entries' names and values -/
def kwV : List (Key × V) → Option (List (Str × V))
  | [] => some []
  | (.inr x, v) :: r => (kwV r).map ((x, v) :: ·)
  | (.inl _, _) :: _ => none
abbrev RelK : List (Str × V) → List (Str × Value) → Prop := Paired fun p q => p.1 = q.1 ∧ RelV p.2 q.2
theorem kwV_of : ∀ {kvs : List (Key × V)} {vs : List (Key × Value)} {kw : List (Str × V)}, KV kvs vs → kwV kvs = some kw → ∃ ku, kwOf vs = some ku ∧ RelK kw ku
  | _, _, _, .nil, e => by
    cases Option.some.inj (show some [] = some _ from e)
    exact ⟨[], rfl, .nil⟩
  | (k, v) :: kvs, (k', u) :: vs, kw, .cons h t, e => by
    obtain ⟨h1, h2⟩ := h
    have h1' : k = k' := h1
    subst h1'
    cases k with
    | inl i => cases e
    | inr x =>
      have e1 : (kwV kvs).map ((x, v) :: ·) = some kw := e
      cases e2 : kwV kvs with
      | none => rw [e2] at e1; cases e1
      | some k3 =>
        rw [e2] at e1
        cases Option.some.inj e1
        obtain ⟨ku, q1, q2⟩ := kwV_of t e2
        exact ⟨(x, u) :: ku, by show (kwOf vs).map ((x, u) :: ·) = _; rw [q1] <;> rfl, .cons ⟨rfl, h2⟩ q2⟩
theorem kwV_keys : ∀ {kvs : List (Key × V)} {kw : List (Str × V)}, kwV kvs = some kw → kvs.map (·.1) = kw.map fun q => Sum.inr q.1
  | [], _, e => by
    cases Option.some.inj (show some [] = some _ from e)
    rfl
  | (k, v) :: kvs, kw, e => by
    cases k with
    | inl i => cases e
    | inr x =>
      have e1 : (kwV kvs).map ((x, v) :: ·) = some kw := e
      cases e2 : kwV kvs with
      | none => rw [e2] at e1; cases e1
      | some k3 =>
        rw [e2] at e1
        cases Option.some.inj e1
        show Sum.inr x :: kvs.map (·.1) = Sum.inr x :: k3.map fun q => Sum.inr q.1
        rw [kwV_keys e2]
theorem relK_keys : ∀ {kw : List (Str × V)} {ku : List (Str × Value)}, RelK kw ku → ku.map (·.1) = kw.map (·.1)
  | _, _, .nil => rfl
  | _, _, .cons h t => by
    have e := relK_keys t
    have e1 := h.1
    rw [List.map_cons, List.map_cons, e, e1]
theorem relK_lookup {x : Str} {d : V} {du : Value} (r0 : RelV d du) : ∀ {kw : List (Str × V)} {ku : List (Str × Value)}, RelK kw ku → RelV ((kw.lookup x).getD d) ((ku.lookup x).getD du)
  | _, _, .nil => r0
  | (a, v) :: kw, (b, u) :: ku, .cons h t => by
    have h1 : a = b := h.1
    subst h1
    by_cases e : x = a
    · subst e
      simpa [List.lookup] using h.2
    · have e' : (x == a) = false := by simpa using e
      simp only [List.lookup, e']
      exact relK_lookup r0 t
/-- a def f(c, *, k = d, ..): its only positional parameter, its keyword-only ones with their defaults -/
structure KwB (K : PySem.W.Frag) (fd : FuncData) (c : Str) (dfl : List (Str × V)) : Prop where
  pos : fd.params.posonlyargs.map (·.arg) = []
  arg : fd.params.args.map (·.arg) = [c]
  kwo : fd.params.kwonlyargs.map (·.arg) = dfl.map (·.1)
  var : fd.params.vararg = none
  kwa : fd.params.kwarg = none
  dfs : fd.defaults = .none
  cn : c ∉ dfl.map (·.1)
  nd : (dfl.map (·.1)).Nodup
  val : ∃ D : Addr, fd.kwdefaults = .ref D ∧ ∀ q ∈ dfl, ∃ u, PySem.W.nsIn K D q.1 = some (some u) ∧ RelV q.2 u
theorem kwB_of {K : PySem.W.Frag} {x qual : Str} {params : Arguments} {body : List Stmt} {scope : Scope} {c : Str} {dfl : List (Str × V)} {f : Addr} {fd : FuncData} (F : FunD K x qual params body scope [] dfl f fd) (hk : dfl ≠ [])
    (h1 : params.posonlyargs.map (·.arg) = []) (h2 : params.args.map (·.arg) = [c]) (h3 : params.kwonlyargs.map (·.arg) = dfl.map (·.1)) (h4 : params.vararg = none) (h5 : params.kwarg = none) (hc : c ∉ dfl.map (·.1)) (hn : (dfl.map (·.1)).Nodup) : KwB K fd c dfl := by
  obtain ⟨oc, od, dV, kV, doc, pm, an, cdv, ct, osl, rfl, lk, hcd, hD, hK⟩ := F.ex
  rcases hD with ⟨_, rfl⟩ | ⟨e, _⟩
  · rcases hK with e | ⟨D, rfl, hq⟩
    · exact absurd e hk
    · exact ⟨h1, h2, h3, h4, h5, rfl, hc, hn, D, rfl, hq⟩
  · exact absurd rfl e
/-- the parameters' values: the first one, then each by its keyword or by its default -/
def kwVals (dfl : List (Str × V)) (v : V) (kw : List (Str × V)) : List V := v :: dfl.map fun q => (kw.lookup q.1).getD q.2
theorem zip_keys {α β : Type} (g : α → Str) (h : Str → β) : ∀ l : List α, (l.map g).zip (l.map fun q => h (g q)) = (l.map g).map fun n => (n, h n)
  | [] => rfl
  | q :: l => by
    rw [List.map_cons, List.map_cons, List.zip_cons_cons, zip_keys g h l, List.map_cons]
theorem vals_kw {kw : List (Str × V)} {ku : List (Str × Value)} {dv : Str → Value} (rk : RelK kw ku) : ∀ l : List (Str × V), (∀ q ∈ l, RelV q.2 (dv q.1)) → Vals (l.map fun q => (kw.lookup q.1).getD q.2) (l.map fun q => (ku.lookup q.1).getD (dv q.1))
  | [], _ => .nil
  | q :: l, h => .cons (relK_lookup (h q List.mem_cons_self) rk) (vals_kw rk l fun z hz => h z (List.mem_cons_of_mem _ hz))
theorem KwB.binds {K : PySem.W.Frag} {s : Shared} {fd : FuncData} {c : Str} {dfl : List (Str × V)} {v : V} {u : Value} {kw : List (Str × V)} {ku : List (Str × Value)} (B : KwB K fd c dfl) (X : K.In s.heap) (rv : RelV v u) (rk : RelK kw ku)
    (hk : ∀ q ∈ kw, q.1 ∈ dfl.map (·.1)) (hn : (kw.map (·.1)).Nodup) : ∃ us, BindsTo s fd ⟨[u], ku⟩ ((c :: dfl.map (·.1)).zip us) ∧ Vals (kwVals dfl v kw) us := by
  obtain ⟨D, hD, hv⟩ := B.val
  -- the defaults' values
  have ex : ∃ dv : Str → Value, ∀ q ∈ dfl, PySem.W.nsIn K D q.1 = some (some (dv q.1)) ∧ RelV q.2 (dv q.1) := by
    refine ⟨fun n => ((PySem.W.nsIn K D n).join).getD .none, fun q hq => ?_⟩
    obtain ⟨u, e, r⟩ := hv q hq
    show _ = some (some (((PySem.W.nsIn K D q.1).join).getD .none)) ∧ RelV q.2 (((PySem.W.nsIn K D q.1).join).getD .none)
    rw [e]
    exact ⟨rfl, r⟩
  obtain ⟨dv, hdv⟩ := ex
  have b := bindKw (s := s) (u := u) (kw := ku) (dv := dv) X B.pos B.arg B.kwo B.var B.kwa B.dfs hD (fun q hq => by
      have : q.1 ∈ ku.map (·.1) := List.mem_map.mpr ⟨q, hq, rfl⟩
      rw [relK_keys rk] at this
      obtain ⟨q', hq', e⟩ := List.mem_map.mp this
      rw [← e]
      exact hk q' hq') (by rw [relK_keys rk]; exact hn) B.cn B.nd (fun n hn => by
      obtain ⟨q, hq, rfl⟩ := List.mem_map.mp hn
      exact (hdv q hq).1)
  refine ⟨u :: dfl.map fun q => (ku.lookup q.1).getD (dv q.1), ?_, .cons rv ?_⟩
  · have e : ((c :: dfl.map (·.1)).zip (u :: dfl.map fun q => (ku.lookup q.1).getD (dv q.1))) = (c, u) :: (dfl.map (·.1)).map fun n => (n, (ku.lookup n).getD (dv n)) := by
      rw [List.zip_cons_cons, zip_keys (fun q : Str × V => q.1) (fun n => (ku.lookup n).getD (dv n)) dfl]
    rw [e]
    exact b
  · exact vals_kw rk dfl fun q hq => (hdv q hq).2
end Xr
set_option Elab.async false
set_option linter.all false
set_option maxRecDepth 100000
set_option maxHeartbeats 4000000
namespace Xr
open PySem PySem.Spec PyProof.Rows L2 ClX
section
variable {X : Cx} {pins : List (Addr × Obj)} {σ : L2.St} {H : Hp} {s : Shared}
theorem kv_keys : ∀ {kvs : List (Key × V)} {vs : List (Key × Value)}, KV kvs vs → vs.map (·.1) = kvs.map (·.1)
  | _, _, .nil => rfl
  | _, _, .cons h t => by
    have e := kv_keys t
    have e1 := h.1
    rw [List.map_cons, List.map_cons, e, e1]
/-- o.m( **e): the attribute's value (no method form), then the call -/
theorem kwcall_of {M : Model} {A : Around} {E : Value → Shared → Prop} {s : Shared} {env : Env} {o e : Expr} {m : Str} {kp apos pos : Pos} {Q : Value → Shared → Prop} (hbase : attributeBase o m env (eval o env) = eval o env)
    (h : wpAny M A (eval o env) (fun ov s₁ => wpAny M A (getAttr ov m true) (fun f s₂ => wpAny M A (callWith pos f [] [] [(none, do let v ← eval e env; standAt pos; pure v)]) Q E s₂) E s₁) E s) :
    wpAny M A (eval (.Call (.Attribute o m apos) [] [⟨none, e, kp⟩] pos) env) Q E s := by
  have hse : starEach [] env = [] := rfl
  have hke : backToKw pos (keywordEach [⟨none, e, kp⟩] env) = [(none, do let v ← eval e env; standAt pos; pure v)] := rfl
  have hform : ∀ n, methodCallForm n (backTo pos []) [((none : Option Str), (do let v ← eval e env; standAt pos; pure v : Sem Value))] = false := fun _ => rfl
  have hpos : methodCallPos false o env apos pos = pure pos := rfl
  have hcal : ∀ ov, calleeOf false o env ov m = (getAttr ov m true >>= fun v => pure (v, [])) := fun _ => rfl
  rw [arm_eval_Call, hbase, hse, hke]
  refine wpAny_bind (wpAny_mono h (fun ov s₁ h₁ => ?_) fun _ _ x => x)
  refine wpAny_bind (wpAny_standAt ?_)
  unfold methodCall
  rw [hform, hpos, hcal]
  refine wpAny_bind (wpAny_holding (wpAny_bind (wpAny_mono h₁ (fun f s₂ h₂ => wpAny_pure ?_) fun _ _ x => x)))
  exact wpAny_bind (wpAny_pure h₂)
/-- the arguments **e, e a dict with text keys: an own dict is laid ahead of it (at d) and filled behind it -/
theorem kw_run {f : Value} {e : Expr} {te : TE} {pos : Pos} {Q : Args → Shared → Prop} {R : List (Str × V) → Hp → Prop} (he : PE X e te) (I : Inv X pins σ H s)
    (h : ∀ d, H d = none → te σ (upd H d (.dK [])) fun y H2 => H2 d = some (.dK []) ∧ ∃ a kvs kw, y = .ref a ∧ a ≠ d ∧ H2 a = some (.dK kvs) ∧ kwV kvs = some kw ∧ R kw (upd H2 d (.dK kvs)))
    (hQ : ∀ kw ku H3 s3, Inv X pins σ H3 s3 → RelK kw ku → (kw.map (·.1)).Nodup → R kw H3 → Q ⟨[], ku⟩ s3) :
    wpAny (model X.prog X.w) X.A (evalArgs f true [] [(none, do let v ← eval e X.env; standAt pos; pure v)]) Q X.xe s := by
  refine evalArgs_kw ?_
  have hn : H s.heap.objs.size = none := I.hok.fresh (Nat.le_refl _)
  have I1 : Inv X pins σ (upd H s.heap.objs.size (.dK [])) { s with heap := s.heap.push { cls := .type "dict", data := .dict #[] } } :=
    I.laid (t' := s.toks) (fun b u q => Heap.get?_push_of_some _ q) (Nat.le_refl _) (dk_empty _ I.big)
  refine wpAny_bind (thn (he.run pins _ σ _ _ I1 (h _ hn)) fun v s1 ⟨y, H2, I2, ry, hd, a, kvs, kw, ey, hne, ha, hkw, hR⟩ => ?_)
  subst ey
  obtain rfl : v = Value.ref a := ry
  refine wpAny_bind (wpAny_standAt (wpAny_pure ?_))
  obtain ⟨z, hS, vs, rel, dd⟩ := dk_of I2.hok ha
  obtain ⟨z0, hS0, vs0, rel0, dd0⟩ := dk_of I2.hok hd
  cases rel0
  obtain ⟨ku, hku, rk⟩ := kwV_of rel hkw
  have hlen : vs.length = kvs.length := (Paired.length rel).symm
  have hnd : (vs.map (·.1)).Nodup := by
    obtain ⟨o, es, ep, _, _, _, _, _, hn⟩ := dd
    exact hn
  have hkeys : vs.map (·.1) = kw.map fun q => (Sum.inr q.1 : Key) := by
    rw [← kwV_keys hkw]
    exact kv_keys rel
  refine ⟨a, vs, ku, rfl, hS, fun q => hne q.symm, dd0, dd, hnd, by rw [hlen]; exact z, hku, fun h' hd' hs' => ?_⟩
  have I3 : Inv X pins σ (upd H2 s.heap.objs.size (.dK kvs)) { s1 with heap := h' } := by
    have hex : ∃ u, h'.get? s.heap.objs.size = some u := by
      obtain ⟨o, _, _, ho, _⟩ := hd'
      exact ⟨o, ho⟩
    exact I2.write (t' := s1.toks) (x := s.heap.objs.size) (e := s.heap.objs.size) (o := .dK kvs) (by rw [hd]; exact True.intro) (.inl rfl) (fun b u hb q => (hs'.2 b hb).trans q) hex ⟨z, hS0, vs, rel, hd'⟩
  refine hQ kw ku _ _ I3 rk ?_ hR
  rw [hkeys] at hnd
  clear hR rk hku hkw hkeys I3
  induction kw with
  | nil => exact List.nodup_nil
  | cons q l ih =>
    rw [List.map_cons, List.nodup_cons] at hnd ⊢
    refine ⟨fun hm => hnd.1 ?_, ih hnd.2⟩
    obtain ⟨q', hq', e⟩ := List.mem_map.mp hm
    exact List.mem_map.mpr ⟨q', hq', by rw [e]⟩
/-- C.m( **e), C a class, m a classmethod m(cls, *, ..) -/
def tCMethKw (C : Addr) (c : Str) (dfl : List (Str × V)) (sp : Sp) (E : XK) (ta te : TE) : TE := fun σ H Q => ta σ H fun x H1 => x = .ref C ∧ ∀ d, H1 d = none →
  te σ (upd H1 d (.dK [])) fun y H2 => H2 d = some (.dK []) ∧ ∃ a kvs kw, y = .ref a ∧ a ≠ d ∧ H2 a = some (.dK kvs) ∧ kwV kvs = some kw ∧ (∀ q ∈ kw, q.1 ∈ dfl.map (·.1)) ∧ sp (kwVals dfl (.ref C) kw) (upd H2 d (.dK kvs)) Q E
theorem pe_cmethKw {CX : CXT} {k : Nat} {C p g : Addr} {mc : Value} {sp : Sp} {E : XK} {o e : Expr} {m c : Str} {pos apos kp : Pos} {ta te : TE} {fd : FuncData} {dfl : List (Str × V)} (he : PE X o ta) (r : CRead X.K C mc) (cm : CMet X.K C mc m p g)
    (F : FnOk X.prog X.w X.K X.mg X.base CX k g fd (c :: dfl.map (·.1)) sp) (B : KwB X.K fd c dfl) (hr : Room k X.A) (hx : Passes CX X E) (ha : PE X e te) (hbase : attributeBase o m X.env (eval o X.env) = eval o X.env := by rfl) :
    PE X (.Call (.Attribute o m apos) [] [⟨none, e, kp⟩] pos) (tCMethKw C c dfl sp E ta te) := by
  refine ⟨fun pins s σ H Q I h => ?_⟩
  refine kwcall_of hbase (thn (he.run pins s σ H _ I h) fun u s1 ⟨x, H1, I1, rx, ex, q⟩ => ?_)
  subst ex
  obtain rfl : u = Value.ref C := rx
  refine getcmet_ok I1 r cm fun s2 I2 => ?_
  have hb : X.base.get? s1.heap.objs.size = none := base_none I1 (Nat.le_refl _)
  refine callWith_kw (P := PySem.W.MethP X.K s1.heap.objs.size g (.ref C)) (PySem.W.keeps_M cm.fi) ?_
  refine kw_run (R := fun kw H3 => (∀ q ∈ kw, q.1 ∈ dfl.map (·.1)) ∧ sp (kwVals dfl (.ref C) kw) H3 Q E) ha I2 q fun kw ku H3 s3 I3 rk hn ⟨hk, hsp⟩ => ?_
  refine ⟨⟨pin_at I3, I3.kIn⟩, ?_⟩
  obtain ⟨us, hbind, rv⟩ := B.binds (s := s3) I3.kIn (show RelV (.ref C) (.ref C) from rfl) rk hk hn
  have z : wpAny (model X.prog X.w) X.A (call (.ref s1.heap.objs.size) ([] ++ []) ku) (EP X ((s1.heap.objs.size, PySem.W.methodObj (.ref g) (.ref C)) :: pins) σ Q) X.xe s3 := by
    refine wpAny_call (PySem.W.method_call (pin_at I3) (codeAny_mono (F.run X.A X.stack s3 H3 ⟨[.ref C], ku⟩ us _ Q E hr I3.env0 hbind rv hsp) fun r s' hq => ?_))
    cases r with
    | error e => exact hx _ σ H3 s3 e s' I3 hq
    | ok fl =>
      cases fl with
      | ret u => exact I3.after hq
      | next => exact False.elim hq
      | brk => exact False.elim hq
      | cont => exact False.elim hq
  exact thn z fun _ _ y => unpinE y
end
end Xr
set_option Elab.async false
set_option linter.all false
set_option maxRecDepth 100000
set_option maxHeartbeats 4000000
namespace Xr
open PySem PySem.Spec PyProof.Rows L2 ClX
section
variable {X : Cx} {pins : List (Addr × Obj)} {σ : L2.St} {H : Hp} {s : Shared}
theorem relK_zip : ∀ {ks : List Str} {zs : List V} {ws : List Value}, Vals zs ws → RelK (ks.zip zs) (ks.zip ws)
  | [], _, _, _ => .nil
  | _ :: _, [], _, .nil => .nil
  | k :: ks, _ :: _, _ :: _, .cons r t => .cons ⟨rfl, r⟩ (relK_zip t)
theorem zip_fst : ∀ {ks : List Str} {zs : List V}, zs.length = ks.length → (ks.zip zs).map (·.1) = ks
  | [], _, _ => rfl
  | k :: ks, [], h => by cases h
  | k :: ks, z :: zs, h => by
    have e := zip_fst (ks := ks) (zs := zs) (Nat.succ.inj h)
    rw [List.zip_cons_cons, List.map_cons, e]
/-- C.m(k = v, ..), C a class, m a classmethod m(cls, *, ..) -/
def tCMethN (C : Addr) (ks : List Str) (dfl : List (Str × V)) (sp : Sp) (E : XK) (ta : TE) (tk : TA) : TE := fun σ H Q => ta σ H fun x H1 => x = .ref C ∧ tk σ H1 fun zs H2 => zs.length = ks.length ∧ sp (kwVals dfl (.ref C) (ks.zip zs)) H2 Q E
theorem pe_cmethN {CX : CXT} {k : Nat} {C p g : Addr} {mc : Value} {sp : Sp} {E : XK} {o : Expr} {m c : Str} {pos apos : Pos} {ta : TE} {tk : TA} {fd : FuncData} {dfl : List (Str × V)} {kws : List Keyword} {ks : List Str} {pl : Sem Bool} (he : PE X o ta) (r : CRead X.K C mc) (cm : CMet X.K C mc m p g)
    (F : FnOk X.prog X.w X.K X.mg X.base CX k g fd (c :: dfl.map (·.1)) sp) (B : KwB X.K fd c dfl) (hr : Room k X.A) (hx : Passes CX X E) (hkw : PK X kws tk)
    (hsub : ∀ n ∈ ks, n ∈ dfl.map (·.1)) (hnd : ks.Nodup)
    (hall : (backToKw pos (keywordEach kws X.env)).all (·.1.isSome) = true := by rfl) (hks : (backToKw pos (keywordEach kws X.env)).filterMap (·.1) = ks := by rfl)
    (hpl : ((backTo pos (starEach [] X.env)).any (·.1) || (backToKw pos (keywordEach kws X.env)).any (·.1.isNone)) = false := by rfl)
    (ht : eval (.Call (.Attribute o m apos) [] kws pos) X.env = (do
      let ov ← eval o X.env
      standAt apos.atName
      let (f, first) ← holding [ov] (getMethod ov m pl)
      callWith pos f first (backTo pos (starEach [] X.env)) (backToKw pos (keywordEach kws X.env))) := by rfl) :
    PE X (.Call (.Attribute o m apos) [] kws pos) (tCMethN C ks dfl sp E ta tk) := by
  refine ⟨fun pins s σ H Q I h => ?_⟩
  refine PySem.W.methodCall_KW (pl := pl) (thn (he.run pins s σ H _ I h) fun u s1 ⟨x, H1, I1, rx, ex, q⟩ => ?_) ht
  subst ex
  obtain rfl : u = Value.ref C := rx
  refine getmethcm_ok I1 r cm fun s2 I2 => ?_
  refine PySem.W.callWith_of (P := PySem.W.MethP X.K s1.heap.objs.size g (.ref C)) hpl (PySem.W.keeps_M cm.fi) (PyProof.Rows.evalArgs_kw2_nil hall ?_)
  refine thn (hkw.run pos _ s2 σ H1 _ I2 q) fun ws s3 ⟨zs, H3, I3, rz, hl, hsp⟩ => ?_
  refine ⟨⟨pin_at I3, I3.kIn⟩, ?_⟩
  rw [hks]
  obtain ⟨us, hbind, rv⟩ := B.binds (s := s3) I3.kIn (show RelV (.ref C) (.ref C) from rfl) (relK_zip (ks := ks) rz) (fun q hq => hsub q.1 (by
    have z : q.1 ∈ (ks.zip zs).map (·.1) := List.mem_map.mpr ⟨q, hq, rfl⟩
    rw [zip_fst hl] at z
    exact z)) (by rw [zip_fst hl]; exact hnd)
  have z : wpAny (model X.prog X.w) X.A (call (.ref s1.heap.objs.size) ([] ++ []) (ks.zip ws)) (EP X ((s1.heap.objs.size, PySem.W.methodObj (.ref g) (.ref C)) :: pins) σ Q) X.xe s3 := by
    refine wpAny_call (PySem.W.method_call (pin_at I3) (codeAny_mono (F.run X.A X.stack s3 H3 ⟨[.ref C], ks.zip ws⟩ us _ Q E hr I3.env0 hbind rv hsp) fun r s' hq => ?_))
    cases r with
    | error e => exact hx _ σ H3 s3 e s' I3 hq
    | ok fl =>
      cases fl with
      | ret u => exact I3.after hq
      | next => exact False.elim hq
      | brk => exact False.elim hq
      | cont => exact False.elim hq
  exact thn z fun _ _ y => unpinE y
/-- x(e, ..), x a local name that holds a class -/
def tMakeV (i : Nat) (C : Addr) (sp : Sp) (E : XK) (t : TA) : TE := fun σ H Q => σ[i]? = some (some (.ref C)) ∧ t σ H fun vs H1 => ∀ x dx, H1 x = none → H1 dx = none → dx ≠ x →
  sp (V.ref x :: vs) (upd (upd H1 dx (.own x)) x (.ins C dx [])) (fun v H2 => v = .non ∧ Q (.ref x) H2) E
theorem pe_makeV {CX : CXT} {k i : Nat} {f C : Addr} {sp : Sp} {E : XK} {x : Str} {e : Expr} {es : List Expr} {t : TA} {p pos : Pos} (M : Mk X.K C f) (F : FnR X.prog X.w X.K X.mg X.base CX k f sp) (hr : Room (k + 1) X.A) (hx : Passes CX X E)
    (ha : PA X (e :: es) t) (hN : X.N[i]? = some x := by rfl) (hv : Vis X.env.scope x := by first | exact Or.inl rfl | exact Or.inr (Or.inl rfl) | exact Or.inr (Or.inr rfl)) (hd : (x == ("__debug__" : Str)) = false := by decide) (hcd : (x == ("__classdict__" : Str)) = false := by decide)
    (he : starEach (e :: es) X.env = (false, eval e X.env) :: starEach es X.env := by rfl) (hpl : (backTo pos (starEach es X.env)).any (·.1) = false := by rfl) : PE X (.Call (.Name x p) (e :: es) [] pos) (tMakeV i C sp E t) := by
  refine ⟨fun pins s σ H Q I h => ?_⟩
  obtain ⟨hs, h⟩ := h
  refine wpAny_Call_Name_kw (thn ((pe_var (pos := p) (i := i) hN hv hd hcd).run pins s σ H (fun v H1 => v = .ref C ∧ H1 = H) I ⟨.ref C, hs, rfl, rfl⟩) fun u s1 ⟨v, H1, I1, r1, ev, eH⟩ => ?_)
  subst ev
  rw [eH] at I1
  cases r1
  refine PySem.W.callWith_K (h₀ := X.base) I.ok.mod.kin M.kp (thn (ha.run pos pins s1 σ H _ I1 h) fun us s2 ⟨vs, H2, I2, r, q⟩ => ⟨I2.kIn, ?_⟩) he hpl
  exact StX.run_makeR M F hr hx I2 r q
end
end Xr
set_option Elab.async false
set_option linter.all false
set_option maxRecDepth 100000
set_option maxHeartbeats 4000000
namespace Xr
open PySem PySem.Spec PyProof.Rows L2
section
variable {X : Cx} {C f : Addr} {k : Nat} {sp : Sp}
/-- a special method of an own class, run at another around with the same frames; it lets nothing out -/
theorem run_sp {A : Around} {pins : List (Addr × Obj)} {σ : L2.St} {H : Hp} {s : Shared} {us : List Value} {vs : List V} {Q : VK} {E : Value → Shared → Prop} (F : FnR X.prog X.w X.K X.mg X.base CX0 k f sp) (hr : Room k A) (hA : A.frames = some X.stack) (I : Inv X pins σ H s) (r : Vals vs us) (h : sp vs H Q E0) :
    wpAny (model X.prog X.w) A (call (.ref f) us) (EP X pins σ Q) E s := by
  have e0 : Env0 X.prog X.w X.K X.mg X.base A X.stack s H := by
    have e := I.env0
    exact ⟨hA, e.mod, e.bs, e.bsz, e.funs, e.frf, e.hok, e.bare⟩
  refine wpAny_call (codeAny_mono (F A X.stack s H us vs Q E0 hr e0 r h) fun r s' hq => ?_)
  cases r with
  | error e => exact False.elim hq
  | ok fl =>
    cases fl with
    | ret u => exact I.after hq
    | next => exact False.elim hq
    | brk => exact False.elim hq
    | cont => exact False.elim hq
/-- the promise's way out is a text -/
def SpIns (C : Addr) (sp : Sp) (P : V → Prop) (xs : List V) (H : Hp) (Q : VK) : Prop := ∃ a dx fs, xs = [.ref a] ∧ H a = some (.ins C dx fs) ∧ sp [.ref a] H (fun v H' => P v ∧ Q v H') E0
def isStrV (v : V) : Prop := ∃ y, v = .str y
def isLenV (v : V) : Prop := ∃ n : Int, v = .int n ∧ 0 ≤ n ∧ n < 2 ^ 63
theorem call_len_ins (F : FnR X.prog X.w X.K X.mg X.base CX0 k f sp) (hr : Room (k + 1) X.A) (hs : PySem.W.findIn X.K (.ref C) "__len__" = some (some (.ref f))) (hf : PySem.W.isFn X.K (.ref f) = true) : CallR X (.builtin "len") (SpIns C sp isLenV) := by
  intro pins s σ H xs us Q I rs h
  obtain ⟨a, dx, fs, rfl, ea, h⟩ := h
  cases rs with
  | cons r rr =>
    cases rr
    cases r
    obtain ⟨mA, O, _, _, _, _⟩ := ins_get I.hok ea
    obtain ⟨od, J, _⟩ := O.look
    obtain ⟨m, hF⟩ := I.fr
    refine PySem.W.len_K hF I.ok.mod.kin J hs hf (wpAny_mono (run_sp (A := X.A.in1) (vs := [.ref a]) F hr.in1 I.ok.frames I (.cons rfl .nil) h) (fun v s' hv => ?_) fun _ _ e => e)
    obtain ⟨y, H', I', ry, ⟨n, rfl, h0, h1⟩, q⟩ := hv
    obtain ⟨t, rfl⟩ := ry
    exact ⟨⟨h0, h1⟩, .int n, H', I'.tok _, ⟨_, rfl⟩, q⟩
theorem call_repr_ins (F : FnR X.prog X.w X.K X.mg X.base CX0 k f sp) (hr : Room (k + 1) X.A) (hs : PySem.W.findIn X.K (.ref C) "__repr__" = some (some (.ref f))) (hf : PySem.W.isFn X.K (.ref f) = true) : CallR X (.builtin "repr") (SpIns C sp isStrV) := by
  intro pins s σ H xs us Q I rs h
  obtain ⟨a, dx, fs, rfl, ea, h⟩ := h
  cases rs with
  | cons r rr =>
    cases rr
    cases r
    obtain ⟨mA, O, _, _, _, _⟩ := ins_get I.hok ea
    obtain ⟨od, J, _⟩ := O.look
    obtain ⟨m, hF⟩ := I.fr
    refine PySem.W.repr_K hr.in1.units0 hF I.ok.mod.kin J hs hf (wpAny_mono (run_sp (A := X.A.in1) (vs := [.ref a]) F hr.in1 I.ok.frames I (.cons rfl .nil) h) (fun v s' hv => ?_) fun _ _ e => e)
    obtain ⟨y, H', I', ry, ⟨z, rfl⟩, q⟩ := hv
    obtain ⟨t, rfl⟩ := ry
    exact ⟨.str z, H', I', ⟨_, rfl⟩, q⟩
theorem call_str_ins (F : FnR X.prog X.w X.K X.mg X.base CX0 k f sp) (hr : Room (k + 2) X.A) (hs : PySem.W.findIn X.K (.ref C) "__str__" = some (some (.ref f))) (hf : PySem.W.isFn X.K (.ref f) = true) : CallR X (.type "str") (SpIns C sp isStrV) := by
  intro pins s σ H xs us Q I rs h
  obtain ⟨a, dx, fs, rfl, ea, h⟩ := h
  cases rs with
  | cons r rr =>
    cases rr
    cases r
    obtain ⟨mA, O, _, _, _, _⟩ := ins_get I.hok ea
    obtain ⟨od, J, _⟩ := O.look
    have key0 : wpAny (model X.prog X.w) X.A.in1.in1 (call (.ref f) [.ref a]) (PySem.W.StrBack (EP X pins σ Q)) X.xe s :=
      wpAny_mono (run_sp (A := X.A.in1.in1) (vs := [.ref a]) F hr.in1.in1 I.ok.frames I (.cons rfl .nil) h) (fun v s' hv => by
        obtain ⟨y, H', I', ry, ⟨z, rfl⟩, q⟩ := hv
        obtain ⟨t, rfl⟩ := ry
        exact ⟨.str z, H', I', ⟨_, rfl⟩, q⟩) fun _ _ e => e
    refine callType_codes (T := "str") (Bi := Builtin.«object.__init__») (Q₁ := fun r s₁ => ∃ y u, r = .str y u ∧ EP X pins σ Q r s₁) PySem.F.called_str (PySem.F.typeCall_str_1 _) PySem.F.entry_object_init ?_ ?_
    · refine codeAny_of_tree ?_
      show wpAny _ X.A.in1.in1 (do checkBuiltinCall "str.__new__" ⟨[.type "str", .ref a], []⟩; again (.builtin "str.__new__" ⟨[.type "str", .ref a], []⟩)) _ _ s
      refine wpAny_bind (wpAny_of_eq (PySem.F.newCall_str_1 _) (wpAny_pure ⟨plainId_quiet (by decide +kernel) _, codeAny_builtin PySem.F.entry_str_new ?_⟩))
      rw [Around.under_plainId (by decide +kernel) _]
      rw [str_new_tree]
      refine wpAny_bind (wpAny_pure ?_)
      refine wpAny_bind (wpAny_of_eq isSubtype_str_str ?_)
      have key : wpAny (model X.prog X.w) X.A.in1.in1 (PySem.Builtin.Str.strOf (.ref a)) (fun r s₁ => ∃ y u, r = .str y u ∧ EP X pins σ Q r s₁) X.xe s := by
        unfold PySem.Builtin.Str.strOf
        rw [show PySem.Builtin.Str.isExactStr (.ref a) = false from rfl]
        refine wpAny_bind (m := cRoomFor _ _) (wpAny_cRoomFor hr.in1.in1.units0 ?_)
        refine wpAny_bind (m := callSpecial? (.ref a) (Str.ofString "__str__")) (PySem.W.special_fn I.kIn J hs (beq_iff_eq.mp hf) (wpAny_mono key0 (fun r s' z => ?_) fun _ _ y => y))
        cases r <;> first | exact z.elim | exact wpAny_pure ⟨_, _, rfl, z⟩
      exact wpAny_bind (wpAny_mono key (fun r s₁ hr => wpAny_pure hr) fun _ _ y => y)
    · rintro obj s₁ ⟨y, u, rfl, hq⟩
      exact ⟨typeIs_str _ _ _, PySem.F.args_object_init_2 _ _, object_init_meets PySem.F.called_str.init.lookup PySem.F.called_str.made (by decide) X.prog X.w X.A.in1 _ s₁ ⟨typeIs_str _ _ _, rfl, hq⟩⟩
end
end Xr
set_option Elab.async false
set_option linter.all false
set_option maxRecDepth 100000
set_option maxHeartbeats 4000000
/-! Xs: readings that compute: a slot, an operator, a subscript, a length by the values' own kinds, so that a straight text's reading unfolds by itself to its side conditions. -/
namespace Xs
open PySem PySem.Spec PyProof.Rows L2
theorem PE.imp {X : Cx} {e : Expr} {t t' : TE} (h : PE X e t) (i : ∀ σ H Q, t' σ H Q → t σ H Q) : PE X e t' := ⟨fun pins s σ H Q I q => h.run pins s σ H Q I (i σ H Q q)⟩
theorem PT.imp {X : Cx} {e : Expr} {t t' : TT} (h : PT X e t) (i : ∀ σ H Q, t' σ H Q → t σ H Q) : PT X e t' := ⟨fun pins s σ H Q I q => h.run pins s σ H Q I (i σ H Q q)⟩
theorem PS.imp {X : Cx} {st : Stmt} {t t' : TS} (h : PS X st t) (i : ∀ D σ H, t' D σ H → t D σ H) : PS X st t' := ⟨fun pins s σ H D I q => h.run pins s σ H D I (i D σ H q)⟩
theorem OpR.imp {X : Cx} {f : Value → Value → Sem Value} {r r' : R2} (h : OpR X f r) (i : ∀ x y H Q, r' x y H Q → r x y H Q) : OpR X f r' := fun pins s σ H x y v u Q I rx ry q => h pins s σ H x y v u Q I rx ry (i x y H Q q)
section
variable {X : Cx}
/-! ### slots, tests -/
def cVar (i : Nat) : TE := fun σ H Q => match σ[i]? with
  | some (some v) => Q v H
  | _ => False
theorem cv (i : Nat) {x : Str} {pos : Pos} (hN : X.N[i]? = some x := by rfl) (hv : Vis X.env.scope x := by first | exact Or.inl rfl | exact Or.inr (Or.inl rfl) | exact Or.inr (Or.inr rfl)) (hd : (x == ("__debug__" : Str)) = false := by decide)
    (hcd : (x == ("__classdict__" : Str)) = false := by decide) : PE X (.Name x pos) (cVar i) := PE.imp (pe_var hN hv hd hcd) fun σ H Q q => by
  unfold cVar at q
  split at q
  · exact ⟨_, ‹_›, q⟩
  · exact q.elim
def cBl (te : TE) : TT := fun σ H Q => te σ H fun x H' => match x with
  | .bl b => Q b H'
  | _ => False
end
theorem bl_eq {x : V} {H : Hp} {Q : Bool → Hp → Prop} : (∃ k, x = .bl k ∧ Q k H) = (match x with | .bl b => Q b H | _ => False) := propext ⟨fun ⟨k, e, q⟩ => by subst e; exact q, fun h => by cases x <;> first | exact h.elim | exact ⟨_, rfl, h⟩⟩
def cTru (K : PySem.W.Frag) (te : TE) : TT := fun σ H Q => te σ H fun x H' => match x with
  | .non => Q false H'
  | .bl b => Q b H'
  | .int i => Q (i != 0) H'
  | .str y => y.length ≤ sizeLine ∧ Q ((y.length : Int) != 0) H'
  | .ref p => ∃ k, TruV K (.ref p) H' k ∧ Q k H'
  | _ => False
theorem tru_eq {K : PySem.W.Frag} {x : V} {H : Hp} {Q : Bool → Hp → Prop} (hb : ∀ b, x ≠ .byt b) : (∃ k, TruV K x H k ∧ Q k H) = (match x with
  | .non => Q false H
  | .bl b => Q b H
  | .int i => Q (i != 0) H
  | .str y => y.length ≤ sizeLine ∧ Q ((y.length : Int) != 0) H
  | .ref p => ∃ k, TruV K (.ref p) H k ∧ Q k H
  | _ => False) := propext ⟨fun ⟨k, e, q⟩ => by
    cases x with
    | non => have e' : k = false := e; subst e'; exact q
    | bl b => have e' : k = b := e; subst e'; exact q
    | int i => have e' : k = (i != 0) := e; subst e'; exact q
    | str y => obtain ⟨h, e'⟩ : _ ∧ _ := e; subst e'; exact ⟨h, q⟩
    | ref p => exact ⟨k, e, q⟩
    | byt b => exact absurd rfl (hb b)
    | flt b => exact e.elim
    | ty n => exact e.elim, fun h => by
    cases x with
    | non => exact ⟨_, rfl, h⟩
    | bl b => exact ⟨_, rfl, h⟩
    | int i => exact ⟨_, rfl, h⟩
    | str y => exact ⟨_, ⟨h.1, rfl⟩, h.2⟩
    | ref p => exact h
    | _ => exact h.elim⟩
section
variable {X : Cx}
/-- an expression that gives True or False, as a test -/
theorem ct {e : Expr} {te : TE} (h : PE X e te) (hb : ∀ whole : Sem Value, PySem.isTrue e X.env whole = (do
      let v ← whole
      standAt e.pos
      holding [v] (truthy v)) := by intro _; rfl) : PT X e (cBl te) := PT.imp (pt_val h hb) fun σ H Q q => by
  unfold tB
  simp only [bl_eq]
  exact q
/-- a comparison as a test -/
theorem ctc {op : CmpOp} {r : R2} {a b : Expr} {ta tb : TE} {pos : Pos} (ho : OpR X (compareOp op) r) (ha : PE X a ta) (hb : PE X b tb) (hm : behindInMarks op b = false) : PT X (.Compare a [op] [b] pos) (cBl (tOp r ta tb)) := PT.imp (pt_cmpR ho ha hb hm) fun σ H Q q => by
  unfold tTest
  simp only [bl_eq]
  exact q
/-! ### operators -/
def cI (g : Int → Int → V) : R2 := fun x y H Q => match x, y with
  | .int i, .int j => Q (g i j) H
  | _, _ => False
theorem cI_imp {g : Int → Int → V} {x y : V} {H : Hp} {Q : VK} (h : cI g x y H Q) : rI0 g x y H Q := by
  cases x <;> cases y <;> first | exact h.elim | exact ⟨_, _, rfl, rfl, h⟩
def cIc (C : Int → Int → Prop) (g : Int → Int → V) : R2 := fun x y H Q => match x, y with
  | .int i, .int j => C i j ∧ Q (g i j) H
  | _, _ => False
theorem cIc_imp {C : Int → Int → Prop} {g : Int → Int → V} {x y : V} {H : Hp} {Q : VK} (h : cIc C g x y H Q) : rI C g x y H Q := by
  cases x <;> cases y <;> first | exact h.elim | exact ⟨_, _, rfl, rfl, h.1, h.2⟩
def cAdd (K : PySem.W.Frag) : R2 := fun x y H Q => match x, y with
  | .int i, .int j => Q (.int (i + j)) H
  | .str a, .str b => a.length + b.length ≤ sizeLine ∧ Q (.str (a ++ b)) H
  | .ref a, .ref b => rCat (.ref a) (.ref b) H Q ∨ rCatT K (.ref a) (.ref b) H Q
  | _, _ => False
theorem co_add : OpR X (binaryOp .Add) (cAdd X.K) := by
  intro pins s σ H x y v u Q I rx ry q
  cases x <;> cases y <;> first
    | exact q.elim
    | exact op_add pins s σ H _ _ v u Q I rx ry ⟨_, _, rfl, rfl, q⟩
    | exact op_add_str pins s σ H _ _ v u Q I rx ry ⟨_, _, rfl, rfl, q.1, q.2⟩
    | (rcases q with q | q
       · exact op_cat pins s σ H _ _ v u Q I rx ry q
       · exact op_catT pins s σ H _ _ v u Q I rx ry q)
theorem co_sub : OpR X (binaryOp .Sub) (cI fun i j => .int (i - j)) := OpR.imp op_sub fun _ _ _ _ q => cI_imp q
theorem co_mul : OpR X (binaryOp .Mult) (cIc CMul fun i j => .int (i * j)) := OpR.imp op_mul fun _ _ _ _ q => cIc_imp q
theorem co_mod : OpR X (binaryOp .Mod) (cIc (fun _ j => j ≠ 0) fun i j => .int (i.fmod j)) := OpR.imp op_modN fun _ _ _ _ q => cIc_imp q
theorem co_fdiv : OpR X (binaryOp .FloorDiv) (cIc CDivN fun i j => .int (i.fdiv j)) := OpR.imp op_fdivN fun _ _ _ _ q => cIc_imp q
theorem co_pow : OpR X (binaryOp .Pow) (cIc CPow fun i j => .int (i ^ j.toNat)) := OpR.imp op_pow fun _ _ _ _ q => cIc_imp q
theorem co_lt : OpR X (compareOp .Lt) (cI fun i j => .bl (decide (i < j))) := OpR.imp op_lt fun _ _ _ _ q => cI_imp q
theorem co_le : OpR X (compareOp .LtE) (cI fun i j => .bl (decide (i ≤ j))) := OpR.imp op_le fun _ _ _ _ q => cI_imp q
theorem co_gt : OpR X (compareOp .Gt) (cI fun i j => .bl (decide (j < i))) := OpR.imp op_gt fun _ _ _ _ q => cI_imp q
theorem co_ge : OpR X (compareOp .GtE) (cI fun i j => .bl (decide (j ≤ i))) := OpR.imp op_ge fun _ _ _ _ q => cI_imp q
/-- is None, is not None -/
def cIsN (neg : Bool) : R2 := fun x y H Q => match y with
  | .non => Q (.bl (if neg then !decide (x = .non) else decide (x = .non))) H
  | _ => False
theorem co_isN : OpR X (compareOp .Is) (cIsN false) := OpR.imp op_isN fun x y H Q q => by
  cases y <;> first | exact q.elim | exact ⟨rfl, q⟩
theorem co_notN : OpR X (compareOp .IsNot) (cIsN true) := OpR.imp op_notN fun x y H Q q => by
  cases y <;> first | exact q.elim | exact ⟨rfl, q⟩
/-- ==, != of flat values; of lists and tuples of data at any depth -/
def cEq (K : PySem.W.Frag) (neg : Bool) : R2 := fun x y H Q => match x, y with
  | .ref a, .ref b => ∃ d e, Dp K H (.ref a) d ∧ Dp K H (.ref b) e ∧ SeqAt.shaped d = true ∧ SeqAt.shaped e = true ∧ Q (.bl (if neg then !PyData.eqv d e else PyData.eqv d e)) H
  | x, y => scal x y = true ∧ Q (.bl (if neg then !decide (x = y) else decide (x = y))) H
theorem co_eq (hu : X.A.units + 64 < cLine) : OpR X (compareOp .Eq) (cEq X.K false) := by
  intro pins s σ H x y v u Q I rx ry q
  by_cases hr : ∃ a b, x = .ref a ∧ y = .ref b
  · obtain ⟨a, b, rfl, rfl⟩ := hr
    exact op_eqD hu pins s σ H _ _ v u Q I rx ry q
  · have q' : scal x y = true ∧ Q (.bl (decide (x = y))) H := by
      cases x <;> cases y <;> first | exact q | exact absurd ⟨_, _, rfl, rfl⟩ hr
    exact op_eq pins s σ H _ _ v u Q I rx ry q'
theorem co_ne (hu : X.A.units + 64 < cLine) : OpR X (compareOp .NotEq) (cEq X.K true) := by
  intro pins s σ H x y v u Q I rx ry q
  by_cases hr : ∃ a b, x = .ref a ∧ y = .ref b
  · obtain ⟨a, b, rfl, rfl⟩ := hr
    exact op_neD hu pins s σ H _ _ v u Q I rx ry q
  · have q' : scal x y = true ∧ Q (.bl (!decide (x = y))) H := by
      cases x <;> cases y <;> first | exact q | exact absurd ⟨_, _, rfl, rfl⟩ hr
    exact op_ne pins s σ H _ _ v u Q I rx ry q'
/-- x in y, x not in y: texts; a flat value in a list or tuple of such -/
def inTx (a b : Str) : Bool := !(Builtin.Str.occurrences b a 0 b.length 1).isEmpty
def cIn (K : PySem.W.Frag) (neg : Bool) : R2 := fun x y H Q => match y with
  | .str b => (match x with
    | .str a => Q (.bl (if neg then !inTx a b else inTx a b)) H
    | _ => False)
  | .ref p => ∃ xs, (SqL K H p xs ∨ SqT K H p xs) ∧ flatV x = true ∧ xs.all flatV = true ∧ Q (.bl (if neg then !inV x xs else inV x xs)) H
  | _ => False
theorem co_in : OpR X (compareOp .In) (cIn X.K false) := by
  intro pins s σ H x y v u Q I rx ry q
  cases y with
  | str b => cases x with
    | str a => exact op_in_str pins s σ H _ _ v u Q I rx ry ⟨_, _, rfl, rfl, q⟩
    | _ => exact q.elim
  | ref p =>
    obtain ⟨xs, h1, h2, h3, h4⟩ := q
    exact op_in_seq pins s σ H _ _ v u Q I rx ry ⟨p, xs, rfl, h1, h2, h3, h4⟩
  | _ => exact q.elim
theorem co_notIn : OpR X (compareOp .NotIn) (cIn X.K true) := by
  intro pins s σ H x y v u Q I rx ry q
  cases y with
  | str b => cases x with
    | str a => exact L2.op_notin_str pins s σ H _ _ v u Q I rx ry ⟨_, _, rfl, rfl, q⟩
    | _ => exact q.elim
  | ref p =>
    obtain ⟨xs, h1, h2, h3, h4⟩ := q
    exact op_notIn_seq pins s σ H _ _ v u Q I rx ry ⟨p, xs, rfl, h1, h2, h3, h4⟩
  | _ => exact q.elim
/-! ### subscripts, slices -/
def cIx (K : PySem.W.Frag) : R2 := fun x y H Q => match x, y with
  | .str z, .int i => z.length ≤ sizeLine ∧ ∃ c, atI z.cps.toList i = some c ∧ Q (.str ⟨#[c]⟩) H
  | .ref p, .int i => ∃ xs v, (SqL K H p xs ∨ SqT K H p xs) ∧ atI xs i = some v ∧ Q v H
  | _, _ => False
theorem ci_any : IxR X (cIx X.K) := by
  intro value slice pins s σ H x y v u Q I rx ry q hs
  cases x <;> cases y <;> first
    | exact q.elim
    | (obtain ⟨hz, c, h1, h2⟩ := q
       exact ix_str value slice pins s σ H _ _ v u Q I rx ry ⟨_, _, c, rfl, rfl, hz, h1, h2⟩ hs)
    | (obtain ⟨xs, z, h1, h2, h3⟩ := q
       rcases h1 with h1 | h1
       · exact ix_list value slice pins s σ H _ _ v u Q I rx ry ⟨_, xs, _, z, rfl, rfl, h1, h2, h3⟩ hs
       · exact ix_tup value slice pins s σ H _ _ v u Q I rx ry ⟨_, xs, _, z, rfl, rfl, h1, h2, h3⟩ hs)
/-- e[i] -/
theorem cix {a b : Expr} {ta tb : TE} {pos : Pos} (ha : PE X a ta) (hb : PE X b tb) (hp : PlainIx b := by exact fun _ _ => rfl) : PE X (.Subscript a b pos) (tOp (cIx X.K) ta tb) := pe_ix ci_any ha hb hp
def cSl (K : PySem.W.Frag) : V → Option Int → Option Int → Hp → VK → Prop := fun x lo hi H Q => match x with
  | .str z => z.length ≤ sizeLine ∧ Q (.str (cutS z lo hi)) H
  | .ref a => ∃ xs, SqL K H a xs ∧ ∀ p, H p = none → Q (.ref p) (upd H p (.lst (cutV xs lo hi)))
  | _ => False
theorem cs_any : SlR X (cSl X.K) := by
  intro pins s σ H x v vl vu lo hi sl Q I rx hs pl pu h
  cases x <;> first
    | exact h.elim
    | exact sl_str pins s σ H _ v vl vu lo hi sl Q I rx hs pl pu ⟨_, rfl, h.1, h.2⟩
    | (obtain ⟨xs, h1, h2⟩ := h
       exact sl_list pins s σ H _ v vl vu lo hi sl Q I rx hs pl pu ⟨_, xs, rfl, h1, h2⟩)
/-! ### built-ins -/
def cLen (K : PySem.W.Frag) : List V → Hp → VK → Prop := fun xs H Q => match xs with
  | [.str z] => z.length ≤ sizeLine ∧ Q (.int (z.length : Nat)) H
  | [.ref p] => ∃ ys, (SqL K H p ys ∨ SqT K H p ys) ∧ Q (.int (ys.length : Nat)) H
  | _ => False
theorem cc_len : CallR X (.builtin "len") (cLen X.K) := by
  intro pins s σ H xs us Q I rs h
  have z : ∃ x n, xs = [x] ∧ LenV X.K x H n ∧ Q (.int n) H := by
    match xs, h with
    | [.str z], h => exact ⟨_, z.length, rfl, ⟨h.1, rfl⟩, h.2⟩
    | [.ref p], h =>
      obtain ⟨ys, h1 | h1, q⟩ := h
      · exact ⟨_, ys.length, rfl, .inl ⟨ys, h1, rfl⟩, q⟩
      · exact ⟨_, ys.length, rfl, .inr ⟨ys, h1, rfl⟩, q⟩
  exact call_len pins s σ H xs us Q I rs z
def cAbs : List V → Hp → VK → Prop := fun xs H Q => match xs with
  | [.int i] => Q (.int (if i < 0 then -i else i)) H
  | _ => False
theorem cc_abs : CallR X (.builtin "abs") cAbs := by
  intro pins s σ H xs us Q I rs h
  refine call_abs pins s σ H xs us Q I rs ?_
  match xs, h with
  | [.int i], h => exact ⟨i, rfl, h⟩
def cMin2 : List V → Hp → VK → Prop := fun xs H Q => match xs with
  | [.int i, .int j] => Q (.int (if j < i then j else i)) H
  | _ => False
theorem cc_min2 (hc : X.calm = true) : CallR X (.builtin "min") cMin2 := by
  intro pins s σ H xs us Q I rs h
  refine call_min2 hc pins s σ H xs us Q I rs ?_
  match xs, h with
  | [.int i, .int j], h => exact ⟨i, j, rfl, h⟩
end
end Xs
set_option Elab.async false
set_option linter.all false
set_option maxRecDepth 100000
set_option maxHeartbeats 4000000
/-! Xt: a def's promise as one bundle (OkF), its call; texts' methods by values. -/
namespace Xs
open PySem PySem.Spec PyProof.Rows L2
/-- the def at f keeps the promise sp, called by place -/
def OkF (P : Program) (w : World) (K : PySem.W.Frag) (mg : Str → Option Value) (base : Heap) (CX : CXT) (k : Nat) (f : Addr) (ps : List Str) (sp : Sp) : Prop := ∃ fd, FnOk P w K mg base CX k f fd ps sp ∧ Binds K fd ps []
section
variable {P : Program} {w : World} {K : PySem.W.Frag} {mg : Str → Option Value} {base : Heap} {CX : CXT} {j k : Nat} {f : Addr} {ps : List Str} {sp sp' : Sp}
theorem OkF.mono (F : OkF P w K mg base CX j f ps sp) (h : j ≤ k) : OkF P w K mg base CX k f ps sp := ⟨F.choose, F.choose_spec.1.mono h, F.choose_spec.2⟩
theorem OkF.imp (F : OkF P w K mg base CX k f ps sp) (h : ∀ vs H Q E, sp' vs H Q E → sp vs H Q E) : OkF P w K mg base CX k f ps sp' := ⟨F.choose, F.choose_spec.1.imp h, F.choose_spec.2⟩
theorem OkF.r (F : OkF P w K mg base CX k f ps sp) : FnR P w K mg base CX k f sp := by
  obtain ⟨fd, F, b⟩ := F
  have z := F.raw b (.nil : Vals [] [])
  exact z.imp fun vs H Q E q => by rw [List.append_nil]; exact q
end
section
variable {X : Cx} {CX : CXT} {k : Nat} {f : Addr} {ps : List Str} {sp : Sp} {E : XK} {x : Str} {e : Expr} {es : List Expr} {t : TA} {p pos : Pos}
def tCallF (sp : Sp) (E : XK) (t : TA) : TE := fun σ H Q => t σ H fun vs H1 => sp vs H1 Q E
/-- f(e, ..), f a def of the text -/
theorem pf (F : OkF X.prog X.w X.K X.mg X.base CX k f ps sp) (hr : Room k X.A) (hm : X.mg x = some (.ref f)) (hk : PySem.W.keepIn X.K (.ref f) = true) (hx : Passes CX X E) (ha : PA X (e :: es) t) (hg : Gl X x := by rfl) (hdb : (x == ("__debug__" : Str)) = false := by decide)
    (he : starEach (e :: es) X.env = (false, eval e X.env) :: starEach es X.env := by rfl) (hpl : (backTo pos (starEach es X.env)).any (·.1) = false := by rfl) : PE X (.Call (.Name x p) (e :: es) [] pos) (tCallF sp E t) := by
  refine ⟨fun pins s σ H Q I h => ?_⟩
  refine wpAny_Call_Name_kw (ld_glob I hg hm ?_ hdb)
  refine PySem.W.callWith_K (h₀ := X.base) I.ok.mod.kin hk (thn (ha.run pos pins s σ H _ I h) fun us s1 ⟨vs, H1, I1, r, q⟩ => ⟨I1.kIn, ?_⟩) he hpl
  exact wpAny_call (run_fnR F.r hr hx I1 r q)
theorem pf0 (F : OkF X.prog X.w X.K X.mg X.base CX k f ps sp) (hr : Room k X.A) (hm : X.mg x = some (.ref f)) (hk : PySem.W.keepIn X.K (.ref f) = true) (hx : Passes CX X E) (hg : Gl X x := by rfl) (hdb : (x == ("__debug__" : Str)) = false := by decide) :
    PE X (.Call (.Name x p) [] [] pos) (tCallF sp E tNil) := by
  refine ⟨fun pins s σ H Q I h => ?_⟩
  refine wpAny_Call_Name_kw (ld_glob I hg hm ?_ hdb)
  exact PySem.W.callWith_K0 I.kIn hk (wpAny_call (run_fnR (us := []) F.r hr hx I .nil h))
/-- f(e, ..) within a try's body -/
def tCallFS (sp : Sp) (E : L2.St → XK) (t : TA) : TE := fun σ H Q => t σ H fun vs H1 => sp vs H1 Q (E σ)
theorem pfS {E : L2.St → XK} (F : OkF X.prog X.w X.K X.mg X.base CX k f ps sp) (hr : Room k X.A) (hm : X.mg x = some (.ref f)) (hk : PySem.W.keepIn X.K (.ref f) = true) (hx : ∀ σ, PassesAt CX X σ (E σ)) (ha : PA X (e :: es) t) (hg : Gl X x := by rfl) (hdb : (x == ("__debug__" : Str)) = false := by decide)
    (he : starEach (e :: es) X.env = (false, eval e X.env) :: starEach es X.env := by rfl) (hpl : (backTo pos (starEach es X.env)).any (·.1) = false := by rfl) : PE X (.Call (.Name x p) (e :: es) [] pos) (tCallFS sp E t) := by
  obtain ⟨fd, G, b⟩ := F
  exact pe_callS (E := E) G hr hg hm hk b hx ha hdb he hpl
end
/-! ### methods of texts by values -/
def cT1 (C : Str → Str → Prop) (g : Str → Str → V) : V → List V → Hp → VK → Prop := fun x xs H Q => match x, xs with
  | .str a, [.str b] => C a b ∧ Q (g a b) H
  | _, _ => False
def cT1f (g : Str → Str → V) : V → List V → Hp → VK → Prop := fun x xs H Q => match x, xs with
  | .str a, [.str b] => Q (g a b) H
  | _, _ => False
section
variable {X : Cx}
theorem MtR.imp {id : String} {r r' : V → List V → Hp → VK → Prop} (h : MtR X id r) (i : ∀ x xs H Q, r' x xs H Q → r x xs H Q) : MtR X id r' := fun pins s σ H x xs v us Q I rx rs q => h pins s σ H x xs v us Q I rx rs (i x xs H Q q)
theorem cT1_ex {C : Str → Str → Prop} {g : Str → Str → V} {x : V} {xs : List V} {H : Hp} {Q : VK} (h : cT1 C g x xs H Q) : ∃ a b, x = .str a ∧ xs = [.str b] ∧ C a b ∧ Q (g a b) H := by
  unfold cT1 at h
  split at h
  · exact ⟨_, _, rfl, rfl, h.1, h.2⟩
  · exact h.elim
theorem cT1f_ex {g : Str → Str → V} {x : V} {xs : List V} {H : Hp} {Q : VK} (h : cT1f g x xs H Q) : ∃ a b, x = .str a ∧ xs = [.str b] ∧ Q (g a b) H := by
  unfold cT1f at h
  split at h
  · exact ⟨_, _, rfl, rfl, h⟩
  · exact h.elim
theorem cm_startswith : MtR X "str.startswith" (cT1f fun a b => .bl (Txt.startswith a b)) := MtR.imp mt_startswith fun _ _ _ _ q => cT1f_ex q
theorem cm_find : MtR X "str.find" (cT1f fun a b => .int (Txt.find a b)) := MtR.imp mt_find fun _ _ _ _ q => cT1f_ex q
theorem cm_rfind : MtR X "str.rfind" (cT1f fun a b => .int (Txt.rfind a b)) := MtR.imp mt_rfind fun _ _ _ _ q => cT1f_ex q
theorem cm_lstripChars : MtR X "str.lstrip" (cT1 (fun a _ => a.length ≤ sizeLine) fun a b => .str (Txt.lstripChars a b)) := MtR.imp mt_lstripChars fun _ _ _ _ q => cT1_ex q
def cFind3 : V → List V → Hp → VK → Prop := fun x xs H Q => match x, xs with
  | .str a, [.str b, .int i] => Q (.int (Txt.find3 a b i)) H
  | .str a, [.str b, .int i, .int j] => Q (.int (Txt.findIn a b i j)) H
  | _, _ => False
theorem cm_find3 : MtR X "str.find" cFind3 := by
  intro pins s σ H x xs v us Q I rx rs h
  unfold cFind3 at h
  split at h
  · exact mt_find3 pins s σ H _ _ v us Q I rx rs ⟨_, _, _, rfl, rfl, h⟩
  · exact mt_find4 pins s σ H _ _ v us Q I rx rs ⟨_, _, _, _, rfl, rfl, h⟩
  · exact h.elim
def cSplit : V → List V → Hp → VK → Prop := fun x xs H Q => match x, xs with
  | .str a, [.str b] => (b.length == 0) = false ∧ a.length + 2 ≤ sizeLine ∧ rNewStrs (Txt.split a b) H Q
  | _, _ => False
theorem cm_split : MtR X "str.split" cSplit := MtR.imp mt_split fun x xs H Q q => by
  unfold cSplit at q
  split at q
  · exact ⟨_, _, rfl, rfl, q.1, q.2.1, q.2.2⟩
  · exact q.elim
def cPart : V → List V → Hp → VK → Prop := fun x xs H Q => match x, xs with
  | .str a, [.str b] => (b.length == 0) = false ∧ a.length ≤ sizeLine ∧ ∀ p, H p = none → Q (.ref p) (upd H p (.tup [.str (Txt.partition a b).1, .str (Txt.partition a b).2.1, .str (Txt.partition a b).2.2]))
  | _, _ => False
theorem cm_partition : MtR X "str.partition" cPart := MtR.imp mt_partition fun x xs H Q q => by
  unfold cPart at q
  split at q
  · exact ⟨_, _, rfl, rfl, q.1, q.2.1, q.2.2⟩
  · exact q.elim
/-- a text's method with any arguments -/
def cM (r : V → List V → Hp → VK → Prop) (to : TE) (t : TA) : TE := fun σ H Q => to σ H fun x H1 => (∃ a, x = .str a) ∧ t σ H1 fun xs H2 => r x xs H2 Q
end
end Xs
set_option Elab.async false
set_option linter.all false
set_option maxRecDepth 100000
set_option maxHeartbeats 4000000
/-! Xc: readings that look into the heap by themselves, heaps that grow, loops over enumerate. -/
namespace Xs
open PySem PySem.Spec PyProof.Rows L2
theorem nox_K {CX : CXT} {P : Program} {w : World} {K : PySem.W.Frag} {mg : Str → Option Value} {base : Heap} {N : List Str} {qual : Str} {scope : Scope} {f : Addr} {cdv : Value} {A : Around} {outer : List Env} {s : Shared} {H : Hp} {E : XK} : (cxOf CX P w K mg base N qual scope f cdv A outer s H E).nox.K = K := rfl
theorem cx_K {CX : CXT} {P : Program} {w : World} {K : PySem.W.Frag} {mg : Str → Option Value} {base : Heap} {N : List Str} {qual : Str} {scope : Scope} {f : Addr} {cdv : Value} {A : Around} {outer : List Env} {s : Shared} {H : Hp} {E : XK} : (cxOf CX P w K mg base N qual scope f cdv A outer s H E).K = K := rfl
section
variable {X : Cx}
/-! ### by the heap -/
def seqAt (H : Hp) (p : Addr) (i : Int) : Option V := match H p with
  | some (.lst xs) => atI xs i
  | some (.tup xs) => atI xs i
  | _ => none
def hIx (K : PySem.W.Frag) : R2 := fun x y H Q => match x, y with
  | .str z, .int i => z.length ≤ sizeLine ∧ (match atI z.cps.toList i with
    | some c => Q (.str ⟨#[c]⟩) H
    | none => False)
  | .ref p, .int i => (match seqAt H p i with
    | some v => Q v H
    | none => cIx K (.ref p) (.int i) H Q)
  | _, _ => False
theorem seqAt_lst {H : Hp} {p : Addr} {i : Int} {xs : List V} (h : H p = some (.lst xs)) : seqAt H p i = atI xs i := by
  unfold seqAt; rw [h]
theorem seqAt_tup {H : Hp} {p : Addr} {i : Int} {xs : List V} (h : H p = some (.tup xs)) : seqAt H p i = atI xs i := by
  unfold seqAt; rw [h]
theorem hIx_imp {K : PySem.W.Frag} {x y : V} {H : Hp} {Q : VK} (h : hIx K x y H Q) : cIx K x y H Q := by
  unfold hIx at h
  split at h
  · obtain ⟨h0, h⟩ := h
    split at h
    · exact ⟨h0, _, ‹_›, h⟩
    · exact h.elim
  · split at h
    · rename_i v hv
      unfold seqAt at hv
      split at hv
      · exact ⟨_, _, .inl (.inl (Rd.of ‹_›)), hv, h⟩
      · exact ⟨_, _, .inr (.inl (Rd.of ‹_›)), hv, h⟩
      · cases hv
    · exact h
  · exact h.elim
theorem hix {a b : Expr} {ta tb : TE} {pos : Pos} (ha : PE X a ta) (hb : PE X b tb) (hp : PlainIx b := by exact fun _ _ => rfl) : PE X (.Subscript a b pos) (tOp (hIx X.K) ta tb) :=
  pe_ix (fun value slice pins s σ H x y v u Q I rx ry q hs => ci_any value slice pins s σ H x y v u Q I rx ry (hIx_imp q) hs) ha hb hp
def hLen (K : PySem.W.Frag) : List V → Hp → VK → Prop := fun xs H Q => match xs with
  | [.str z] => z.length ≤ sizeLine ∧ Q (.int (z.length : Nat)) H
  | [.ref p] => (match H p with
    | some (.lst ys) => Q (.int (ys.length : Nat)) H
    | some (.tup ys) => Q (.int (ys.length : Nat)) H
    | _ => cLen K [.ref p] H Q)
  | _ => False
theorem hLen_imp {K : PySem.W.Frag} {xs : List V} {H : Hp} {Q : VK} (h : hLen K xs H Q) : cLen K xs H Q := by
  unfold hLen at h
  split at h
  · exact h
  · split at h
    · exact ⟨_, .inl (.inl (Rd.of ‹_›)), h⟩
    · exact ⟨_, .inr (.inl (Rd.of ‹_›)), h⟩
    · exact h
  · exact h.elim
theorem hc_len : CallR X (.builtin "len") (hLen X.K) := fun pins s σ H xs us Q I rs h => cc_len pins s σ H xs us Q I rs (hLen_imp h)
def hSl (K : PySem.W.Frag) : V → Option Int → Option Int → Hp → VK → Prop := fun x lo hi H Q => match x with
  | .str z => z.length ≤ sizeLine ∧ Q (.str (cutS z lo hi)) H
  | .ref a => (match H a with
    | some (.lst xs) => ∀ p, H p = none → Q (.ref p) (upd H p (.lst (cutV xs lo hi)))
    | _ => cSl K (.ref a) lo hi H Q)
  | _ => False
theorem hSl_imp {K : PySem.W.Frag} {x : V} {lo hi : Option Int} {H : Hp} {Q : VK} (h : hSl K x lo hi H Q) : cSl K x lo hi H Q := by
  unfold hSl at h
  split at h
  · exact h
  · split at h
    · exact ⟨_, .inl (Rd.of ‹_›), h⟩
    · exact h
  · exact h.elim
theorem hs_any : SlR X (hSl X.K) := fun pins s σ H x v vl vu lo hi sl Q I rx hs pl pu h => cs_any pins s σ H x v vl vu lo hi sl Q I rx hs pl pu (hSl_imp h)
def hTru (K : PySem.W.Frag) (te : TE) : TT := fun σ H Q => te σ H fun x H' => match x with
  | .non => Q false H'
  | .bl b => Q b H'
  | .int i => Q (i != 0) H'
  | .str y => y.length ≤ sizeLine ∧ Q ((y.length : Int) != 0) H'
  | .ref p => ∃ k, TruV K (.ref p) H' k ∧ Q k H'
  | .byt b => ∃ k, TruV K (.byt b) H' k ∧ Q k H'
  | _ => False
theorem truH_eq {K : PySem.W.Frag} {x : V} {H : Hp} {Q : Bool → Hp → Prop} : (∃ k, TruV K x H k ∧ Q k H) = (match x with
  | .non => Q false H
  | .bl b => Q b H
  | .int i => Q (i != 0) H
  | .str y => y.length ≤ sizeLine ∧ Q ((y.length : Int) != 0) H
  | .ref p => ∃ k, TruV K (.ref p) H k ∧ Q k H
  | .byt b => ∃ k, TruV K (.byt b) H k ∧ Q k H
  | _ => False) := propext ⟨fun ⟨k, e, q⟩ => by
    cases x with
    | non => have e' : k = false := e; subst e'; exact q
    | bl b => have e' : k = b := e; subst e'; exact q
    | int i => have e' : k = (i != 0) := e; subst e'; exact q
    | str y => obtain ⟨h, e'⟩ : _ ∧ _ := e; subst e'; exact ⟨h, q⟩
    | ref p => exact ⟨k, e, q⟩
    | byt b => exact ⟨k, e, q⟩
    | flt b => exact e.elim
    | ty n => exact e.elim, fun h => by
    cases x with
    | non => exact ⟨_, rfl, h⟩
    | bl b => exact ⟨_, rfl, h⟩
    | int i => exact ⟨_, rfl, h⟩
    | str y => exact ⟨_, ⟨h.1, rfl⟩, h.2⟩
    | ref p => exact h
    | byt b => exact h
    | _ => exact h.elim⟩
/-- a value as a test -/
theorem hTr {e : Expr} {te : TE} (h : PE X e te) (hb : ∀ whole : Sem Value, PySem.isTrue e X.env whole = (do
      let v ← whole
      standAt e.pos
      holding [v] (truthy v)) := by intro _; rfl) : PT X e (hTru X.K te) := PT.imp (pt_truth h hb) fun σ H Q q => by
  unfold hTru at q
  simp only [← truH_eq] at q
  exact q
theorem ps_dead {st : Stmt} : PS X st (fun _ _ _ => False) := ⟨fun _ _ _ _ _ _ h => h.elim⟩
/-! ### a text's method by values -/
/-- xs[d], d a drawn place -/
theorem hIx_all {K : PySem.W.Frag} {xs : List V} {d : Int} {p : Addr} {H : Hp} {Q : VK} (hp : H p = some (.lst xs)) (h0 : 0 ≤ d) (h1 : d < xs.length) (h : ∀ v ∈ xs, Q v H) : hIx K (.ref p) (.int d) H Q := by
  show (match seqAt H p d with
    | some v => Q v H
    | none => cIx K (.ref p) (.int d) H Q)
  rw [seqAt_lst hp]
  have e : atI xs d = some xs[d.toNat] := by
    unfold atI ixN
    rw [if_pos h0, if_pos h1]
    simp
  simp only [e]
  exact h _ (List.getElem_mem _)
theorem setL_at {H : Hp} {p : Addr} {xs : List V} {k : Int} {j : Nat} {v : V} {Q : Hp → Prop} (hp : H p = some (.lst xs)) (hj : ixN xs.length k = some j) (q : Q (upd H p (.lst (xs.set j v)))) : rSetL (.ref p) (.int k) v H Q := ⟨p, xs, k, j, rfl, rfl, hp, hj, q⟩
theorem hIx_chr {K : PySem.W.Frag} {z : Str} {d : Int} {H : Hp} {Q : VK} (hz : z.length ≤ sizeLine) (h0 : 0 ≤ d) (h1 : d < (z.length : Nat)) (h : ∀ c ∈ z.cps.toList, Q (.str ⟨#[c]⟩) H) : hIx K (.str z) (.int d) H Q := by
  refine ⟨hz, ?_⟩
  have hl : (z.length : Nat) = z.cps.toList.length := by simp [Str.length]
  have h1' : d < z.cps.toList.length := by rw [← hl]; exact h1
  have hj : d.toNat < z.cps.toList.length := by omega
  have e : atI z.cps.toList d = some (z.cps.toList[d.toNat]'hj) := by
    unfold atI ixN
    rw [if_pos h0, if_pos h1']
    show z.cps.toList[d.toNat]? = _
    exact List.getElem?_eq_getElem hj
  rw [e]
  exact h _ (List.getElem_mem _)
end
/-! ### heaps that grow, but for the object at a -/
def Kp (a : Addr) (H H' : Hp) : Prop := ∀ p o, p ≠ a → H p = some o → H' p = some o
theorem Kp.refl {a : Addr} {H : Hp} : Kp a H H := fun _ _ _ h => h
theorem Kp.trans {a : Addr} {H H' H'' : Hp} (h : Kp a H H') (h' : Kp a H' H'') : Kp a H H'' := fun p o n e => h' p o n (h p o n e)
theorem Kp.fresh {a p : Addr} {H H' : Hp} {o : HO} (h : Kp a H H') (hp : H' p = none) : Kp a H (upd H' p o) := fun q o' n e => by
  have z := h q o' n e
  unfold upd
  split
  · subst q; rw [hp] at z; cases z
  · exact z
theorem Kp.at {a : Addr} {H H' : Hp} {o : HO} (h : Kp a H H') : Kp a H (upd H' a o) := fun q o' n e => by
  unfold upd
  rw [if_neg n]
  exact h q o' n e
theorem upd_self {H : Hp} {a : Addr} {o : HO} : upd H a o a = some o := if_pos rfl
theorem upd_old {H : Hp} {a p : Addr} {o o' : HO} (h : H a = some o') (hp : H p = none) : upd H p o a = some o' := by
  rw [upd_ne, h]
  intro e; subst e; rw [h] at hp; cases hp
theorem _root_.L2.Ext.rf {H : Hp} : Ext H H := fun _ _ h => h
theorem _root_.L2.Ext.tr {H H' H'' : Hp} (h : Ext H H') (h' : Ext H' H'') : Ext H H'' := fun a o e => h' a o (h a o e)
theorem _root_.L2.Ext.fresh {H H' : Hp} {p : Addr} {o : HO} (h : Ext H H') (hp : H' p = none) : Ext H (upd H' p o) := fun a o' e => upd_old (h a o' e) hp
theorem Kp.ext {a : Addr} {H H' H'' : Hp} (h : Kp a H H') (h' : Ext H' H'') : Kp a H H'' := fun p o n e => h' p o (h p o n e)
theorem ne_none {H : Hp} {a p : Addr} {o : HO} (h : H a = some o) (hp : H p = none) : a ≠ p := fun e => by subst e; rw [h] at hp; cases hp
/-! ### enumerate -/
theorem for_enum {K : PySem.W.Frag} {a : Addr} {xs : List V} {g : TG} {tb : TS} {D : Ends} {σ : L2.St} {H : Hp} (Pv : Nat → L2.St → Hp → Prop) (h0 : Pv 0 σ H) (hl : ∀ i σ H, i ≤ xs.length → Pv i σ H → SqL K H a xs)
    (hs : ∀ i x σ H T, xs[i]? = some x → Pv i σ H → H T = none → g (.ref T) σ (upd H T (.tup [.int (i : Nat), x])) fun σ2 H2 => tb { D with nx := Pv (i + 1), ct := Pv (i + 1), bk := D.nx } σ2 H2) (hd : ∀ σ H, Pv xs.length σ H → D.nx σ H) :
    ∃ W : Nat → Nat → L2.St → Hp → Prop, (∃ m, W 0 m σ H) ∧ ∀ i m σ H, W i m σ H →
      ((Ite K a).stop i H ∧ D.nx σ H) ∨ ((Ite K a).go i H ∧ ∃ N : L2.St → Hp → Prop, (∀ σ' H', N σ' H' → ∃ m', m' < m ∧ W (i + 1) m' σ' H') ∧ ∀ x H', (Ite K a).yld i H x H' → g x σ H' fun σ2 H2 => tb { D with nx := N, ct := N, bk := D.nx } σ2 H2) := by
  refine ⟨fun i m σ H => m = xs.length - i ∧ i ≤ xs.length ∧ Pv i σ H, ⟨xs.length, by simp, Nat.zero_le _, h0⟩, ?_⟩
  rintro i m σ H ⟨rfl, hi, p⟩
  have q := hl i σ H hi p
  by_cases hlt : i < xs.length
  · refine .inr ⟨⟨xs, xs[i], q, by simp [hlt]⟩, Pv (i + 1), fun σ' H' p' => ⟨xs.length - (i + 1), by omega, rfl, hlt, p'⟩, fun x H' y => ?_⟩
    obtain ⟨T, z, e, hT, e2, y⟩ := y
    subst e e2
    exact hs i z σ _ T (y xs q) p hT
  · have e : i = xs.length := by omega
    subst e
    exact .inl ⟨⟨xs, q, Nat.le_refl _⟩, hd σ H p⟩
/-- a loop from its state on -/
def Lp (J : It) (g : TG) (tb : TS) (D : Ends) (σ : L2.St) (H : Hp) : Prop := ∃ W : Nat → Nat → L2.St → Hp → Prop, (∃ m, W 0 m σ H) ∧ ∀ i m σ H, W i m σ H →
  (J.stop i H ∧ D.nx σ H) ∨ (J.go i H ∧ ∃ N : L2.St → Hp → Prop, (∀ σ' H', N σ' H' → ∃ m', m' < m ∧ W (i + 1) m' σ' H') ∧ ∀ x H', J.yld i H x H' → g x σ H' fun σ2 H2 => tb { D with nx := N, ct := N, bk := D.nx } σ2 H2)
theorem tFor_eq {wi : TI} {g : TG} {tb : TS} {D : Ends} {σ : L2.St} {H : Hp} : tFor wi g tb D σ H = wi σ H fun J H1 => Lp J g tb D σ H1 := rfl
/-- the ends of a loop's body: on to Nx, out to the end behind the loop -/
abbrev inL (D : Ends) (Nx : L2.St → Hp → Prop) : Ends := { D with nx := Nx, ct := Nx, bk := D.nx }
theorem lp_enum {K : PySem.W.Frag} {a : Addr} {xs : List V} {g : TG} {tb : TS} {D : Ends} {σ : L2.St} {H : Hp} (Pv : Nat → L2.St → Hp → Prop) (h0 : Pv 0 σ H) (hl : ∀ i σ H, i ≤ xs.length → Pv i σ H → SqL K H a xs)
    (hs : ∀ i x σ H T, xs[i]? = some x → Pv i σ H → H T = none → g (.ref T) σ (upd H T (.tup [.int (i : Nat), x])) fun σ2 H2 => tb (inL D (Pv (i + 1))) σ2 H2) (hd : ∀ σ H, Pv xs.length σ H → D.nx σ H) : Lp (Ite K a) g tb D σ H := for_enum Pv h0 hl hs hd
theorem lp_list {K : PySem.W.Frag} {a : Addr} {xs : List V} {g : TG} {tb : TS} {D : Ends} {σ : L2.St} {H : Hp} (Pv : Nat → L2.St → Hp → Prop) (h0 : Pv 0 σ H) (hl : ∀ i σ H, i ≤ xs.length → Pv i σ H → SqL K H a xs)
    (hs : ∀ i x σ H, xs[i]? = some x → Pv i σ H → g x σ H fun σ2 H2 => tb (inL D (Pv (i + 1))) σ2 H2) (hd : ∀ σ H, Pv xs.length σ H → D.nx σ H) : Lp (Itl K a) g tb D σ H := for_list Pv h0 hl hs hd
theorem lp_tup {K : PySem.W.Frag} {a : Addr} {xs : List V} {g : TG} {tb : TS} {D : Ends} {σ : L2.St} {H : Hp} (Pv : Nat → L2.St → Hp → Prop) (h0 : Pv 0 σ H) (hl : ∀ i σ H, i ≤ xs.length → Pv i σ H → SqT K H a xs)
    (hs : ∀ i x σ H, xs[i]? = some x → Pv i σ H → g x σ H fun σ2 H2 => tb (inL D (Pv (i + 1))) σ2 H2) (hd : ∀ σ H, Pv xs.length σ H → D.nx σ H) : Lp (Itt K a) g tb D σ H := for_tup Pv h0 hl hs hd
theorem lp_zipT {K : PySem.W.Frag} {a b : Addr} {xs ys : List V} {g : TG} {tb : TS} {D : Ends} {σ : L2.St} {H : Hp} (hl : xs.length = ys.length) (Pv : Nat → L2.St → Hp → Prop) (h0 : Pv 0 σ H) (hq : ∀ i σ H, Pv i σ H → SqT K H a xs ∧ SqT K H b ys)
    (hs : ∀ (i : Nat) (x y : V) (T : Addr) (σ : L2.St) (H : Hp), xs[i]? = some x → ys[i]? = some y → Pv i σ H → H T = none → g (.ref T) σ (upd H T (.tup [x, y])) fun σ2 H2 => tb (inL D (Pv (i + 1))) σ2 H2) (hd : ∀ σ H, Pv xs.length σ H → D.nx σ H) : Lp (RZ.ItzT K a b) g tb D σ H := RZ.for_zipT hl Pv h0 hq hs hd
theorem lp_range {lo : Int} {n : Nat} {g : TG} {tb : TS} {D : Ends} {σ : L2.St} {H : Hp} (Pv : Nat → L2.St → Hp → Prop) (h0 : Pv 0 σ H)
    (hs : ∀ i σ H, i < n → Pv i σ H → g (.int (lo + i)) σ H fun σ2 H2 => tb (inL D (Pv (i + 1))) σ2 H2) (hd : ∀ σ H, Pv n σ H → D.nx σ H) : Lp (Itr lo n) g tb D σ H := for_range Pv h0 hs hd
theorem lp_while {c : TT} {tb : TS} {D : Ends} {σ : L2.St} {H : Hp} (Pv : L2.St → Hp → Prop) (μ : L2.St → Hp → Nat) (h0 : Pv σ H)
    (hs : ∀ σ H, Pv σ H → c σ H fun b H1 => if b = true then ∃ N : L2.St → Hp → Prop, (∀ σ' H', N σ' H' → ∃ m', m' < μ σ H ∧ m' = μ σ' H' ∧ Pv σ' H') ∧ tb { D with nx := N, ct := N, bk := D.nx } σ H1 else D.nx σ H1) : tWhile c tb D σ H :=
  ⟨fun m σ H => m = μ σ H ∧ Pv σ H, ⟨_, rfl, h0⟩, by rintro m σ H ⟨rfl, p⟩; exact hs σ H p⟩
/-- a comprehension's run -/
def LcP (J : It) (g : TG) (tt : TT) (te : TE) (vs : List Nat) (σ : L2.St) (H1 : Hp) (D : Addr) (Qd : Hp → Prop) : Prop := ∃ W : Nat → Nat → Hp → Prop, (∃ m, W 0 m (upd H1 D (.lst []))) ∧ ∀ i m H, W i m H →
  (J.stop i H ∧ Qd H) ∨ (J.go i H ∧ ∃ Nx : Hp → Prop, (∀ H', Nx H' → ∃ m', m' < m ∧ W (i + 1) m' H') ∧ ∀ x H', J.yld i H x H' → g x (wipe σ vs) H' fun σ2 H2 => wipe σ2 vs = wipe σ vs ∧ tt σ2 H2 fun b H3 =>
    if b = true then te σ2 H3 fun y H4 => ∃ acc, H4 D = some (.lst acc) ∧ acc.length < sizeLine ∧ Nx (upd H4 D (.lst (acc ++ [y]))) else Nx H3)
theorem tLc_eq {wi : TI} {g : TG} {tt : TT} {te : TE} {vs : List Nat} {σ : L2.St} {H : Hp} {Q : VK} : tLc wi g tt te vs σ H Q = wi σ H fun J H1 => ∀ D, H1 D = none → LcP J g tt te vs σ H1 D (Q (.ref D)) := rfl
theorem lc_its {x : Str} {g : TG} {tt : TT} {te : TE} {vs : List Nat} {σ : L2.St} {H1 : Hp} {D : Addr} {Qd : Hp → Prop} (Pv : Nat → Hp → Prop) (h0 : Pv 0 (upd H1 D (.lst [])))
    (hs : ∀ i c H, (TL.tl x)[i]? = some c → Pv i H → g (.str ⟨#[c]⟩) (wipe σ vs) H fun σ2 H2 => wipe σ2 vs = wipe σ vs ∧ tt σ2 H2 fun b H3 =>
      if b = true then te σ2 H3 fun y H4 => ∃ acc, H4 D = some (.lst acc) ∧ acc.length < sizeLine ∧ Pv (i + 1) (upd H4 D (.lst (acc ++ [y]))) else Pv (i + 1) H3) (hd : ∀ H, Pv (TL.tl x).length H → Qd H) : LcP (Its x) g tt te vs σ H1 D Qd := by
  have hl : (TL.tl x).length = x.cps.size := by simp [TL.tl]
  refine ⟨fun i m H => m = x.cps.size - i ∧ i ≤ x.cps.size ∧ Pv i H, ⟨x.cps.size, by simp, Nat.zero_le _, h0⟩, ?_⟩
  rintro i m H ⟨rfl, hi, p⟩
  by_cases hlt : i < x.cps.size
  · refine .inr ⟨hlt, Pv (i + 1), fun H' p' => ⟨x.cps.size - (i + 1), by omega, rfl, hlt, p'⟩, fun v H' y => ?_⟩
    obtain ⟨e, c, hc, e2⟩ := y
    subst e e2
    exact hs i c _ (by rw [show (TL.tl x)[i]? = x.cps.toList[i]? from rfl, Array.getElem?_toList]; exact hc) p
  · have e : i = x.cps.size := by omega
    subst e
    exact .inl ⟨Nat.le_refl _, hd H (by rw [hl]; exact p)⟩
theorem cps {R : VK → Prop} {Q : VK} (Pp : V → Hp → Prop) (h1 : ∀ v H, Pp v H → Q v H) (h2 : ∀ Q' : VK, (∀ v H, Pp v H → Q' v H) → R Q') : R Q := h2 Q h1
section
variable {X : Cx}
/-! ### ==, != by kinds -/
def hEq (K : PySem.W.Frag) : R2 := fun x y H Q => match x, y with
  | .int i, .int j => Q (.bl (decide (i = j))) H
  | .str a, .str b => Q (.bl (decide (a = b))) H
  | x, y => cEq K false x y H Q
def hNe (K : PySem.W.Frag) : R2 := fun x y H Q => match x, y with
  | .int i, .int j => Q (.bl (decide (¬ i = j))) H
  | .str a, .str b => Q (.bl (decide (¬ a = b))) H
  | x, y => cEq K true x y H Q
theorem hEq_imp {K : PySem.W.Frag} {x y : V} {H : Hp} {Q : VK} (h : hEq K x y H Q) : cEq K false x y H Q := by
  unfold hEq at h
  split at h
  · refine ⟨rfl, ?_⟩
    rw [if_neg (by decide)]
    rename_i i j
    have e : decide (V.int i = V.int j) = decide (i = j) := by simp
    rw [e]; exact h
  · refine ⟨rfl, ?_⟩
    rw [if_neg (by decide)]
    rename_i i j
    have e : decide (V.str i = V.str j) = decide (i = j) := by simp
    rw [e]; exact h
  · exact h
theorem hNe_imp {K : PySem.W.Frag} {x y : V} {H : Hp} {Q : VK} (h : hNe K x y H Q) : cEq K true x y H Q := by
  unfold hNe at h
  split at h
  · refine ⟨rfl, ?_⟩
    rw [if_pos rfl]
    rename_i i j
    have e : (!decide (V.int i = V.int j)) = decide (¬ i = j) := by simp
    rw [e]; exact h
  · refine ⟨rfl, ?_⟩
    rw [if_pos rfl]
    rename_i i j
    have e : (!decide (V.str i = V.str j)) = decide (¬ i = j) := by simp
    rw [e]; exact h
  · exact h
theorem ho_eq (hu : X.A.units + 64 < cLine) : OpR X (compareOp .Eq) (hEq X.K) := OpR.imp (co_eq hu) fun _ _ _ _ q => hEq_imp q
theorem ho_ne (hu : X.A.units + 64 < cLine) : OpR X (compareOp .NotEq) (hNe X.K) := OpR.imp (co_ne hu) fun _ _ _ _ q => hNe_imp q
end
/-- "..".join(a list of texts) -/
def cJoin (K : PySem.W.Frag) : V → List V → Hp → VK → Prop := fun x xs H Q => match x, xs with
  | .str a, [.ref p] => ∃ ys : List Str, (SqL K H p (ys.map V.str) ∨ SqT K H p (ys.map V.str)) ∧ (ys.map (·.length)).sum + ys.length * a.length ≤ 16777216 ∧ Q (.str (Txt.join a ys)) H
  | _, _ => False
theorem hm_join {X : Cx} : MtR X "str.join" (cJoin X.K) := MtR.imp mt_join fun x xs H Q h => by
  unfold cJoin at h
  split at h
  · obtain ⟨ys, h1, h2, h3⟩ := h
    exact ⟨_, _, ys, rfl, rfl, h1, h2, h3⟩
  · exact h.elim
/-- isinstance(x, str) -/
def hIsS : List V → Hp → VK → Prop := fun xs H Q => match xs with
  | [x, .ty n] => n = "str" ∧ (match x with
    | .str _ => Q (.bl true) H
    | .non => Q (.bl false) H
    | .bl _ => Q (.bl false) H
    | .int _ => Q (.bl false) H
    | .ref p => (match H p with
      | some (.lst _) => Q (.bl false) H
      | some (.tup _) => Q (.bl false) H
      | _ => False)
    | _ => False)
  | _ => False
theorem hc_isS {X : Cx} : CallR X (.builtin "isinstance") hIsS := by
  intro pins s σ H xs us Q I rs h
  refine call_isi pins s σ H xs us Q I rs ?_
  unfold hIsS at h
  split at h
  · rename_i x n
    obtain ⟨rfl, h⟩ := h
    split at h
    · exact ⟨_, _, _, _, true, rfl, .ty _, .base (.str _), rfl, h⟩
    · exact ⟨_, _, _, _, false, rfl, .ty _, .base .non, rfl, h⟩
    · exact ⟨_, _, _, _, false, rfl, .ty _, .base (.bl _), rfl, h⟩
    · exact ⟨_, _, _, _, false, rfl, .ty _, .base (.int _), rfl, h⟩
    · split at h
      · exact ⟨_, _, _, _, false, rfl, .ty _, .base (.lst ‹_›), rfl, h⟩
      · exact ⟨_, _, _, _, false, rfl, .ty _, .base (.tup ‹_›), rfl, h⟩
      · exact h.elim
    · exact h.elim
  · exact h.elim
theorem hEq_nil {K : PySem.W.Frag} {H : Hp} {p q : Addr} {xs : List V} {ds : List PyData} {Q : VK} (hp : H p = some (.lst xs)) (hq : H q = some (.lst [])) (hd : DpAll K H xs ds) (hs : SeqAt.shaped (.list ds) = true) (h : Q (.bl ds.isEmpty) H) : hEq K (.ref p) (.ref q) H Q := by
  refine ⟨_, _, .lst (.inl (Rd.of hp)) hd, .lst (.inl (Rd.of hq)) .nil, hs, rfl, ?_⟩
  rw [if_neg (by decide)]
  have e : PyData.eqv (.list ds) (.list []) = ds.isEmpty := by cases ds <;> rfl
  rw [e]
  exact h
theorem hIx_lit {K : PySem.W.Frag} {H : Hp} {p : Addr} {i : Int} {xs : List V} {v : V} {Q : VK} (h : H p = some (.lst xs)) (e : atI xs i = some v) (q : Q v H) : hIx K (.ref p) (.int i) H Q := by
  show (match seqAt H p i with
    | some v => Q v H
    | none => cIx K (.ref p) (.int i) H Q)
  rw [seqAt_lst h, e]; exact q
theorem hIx_tup {K : PySem.W.Frag} {H : Hp} {p : Addr} {i : Int} {xs : List V} {v : V} {Q : VK} (h : H p = some (.tup xs)) (e : atI xs i = some v) (q : Q v H) : hIx K (.ref p) (.int i) H Q := by
  show (match seqAt H p i with
    | some v => Q v H
    | none => cIx K (.ref p) (.int i) H Q)
  rw [seqAt_tup h, e]; exact q
theorem hIx_str {K : PySem.W.Frag} {H : Hp} {z : Str} {i : Int} {c : Nat} {Q : VK} (hz : z.length ≤ sizeLine) (e : atI z.cps.toList i = some c) (q : Q (.str ⟨#[c]⟩) H) : hIx K (.str z) (.int i) H Q := ⟨hz, by rw [e]; exact q⟩
theorem sl : 1000000 ≤ sizeLine := by decide
theorem la (a b : Str) : (a ++ b).length = a.length + b.length := PySem.Str.length_append a b
theorem l1 (c : Nat) : (Str.mk #[c]).length = 1 := rfl
theorem tyL {K : PySem.W.Frag} {H : Hp} {p : Addr} {xs : List V} (h : H p = some (.lst xs)) : tyV K "list" (.ref p) H := .inl ⟨rfl, _, .inl (Rd.of h)⟩
theorem append_at {H : Hp} {p : Addr} {xs : List V} {y : V} {Q : VK} (h : H p = some (.lst xs)) (hl : xs.length < sizeLine) (q : Q .non (upd H p (.lst (xs ++ [y])))) : rAppend (.ref p) [y] H Q := ⟨p, xs, y, rfl, rfl, h, hl, q⟩
theorem dpStrs {K : PySem.W.Frag} {H : Hp} : ∀ ys : List Str, DpAll K H (ys.map V.str) (ys.map PyData.str)
  | [] => .nil
  | y :: ys => .cons (.str y) (dpStrs ys)
theorem spl_ne (S : List Nat) : ∀ (l acc : List Nat) (k : Nat), TL.spl S k acc l ≠ []
  | [], acc, k => by rw [TL.spl_nil]; exact List.cons_ne_nil _ _
  | c :: r, acc, 0 => by
    show (if TL.pre S (c :: r) = true then acc :: TL.spl S (S.length - 1) [] r else TL.spl S 0 (acc ++ [c]) r) ≠ []
    split
    · exact List.cons_ne_nil _ _
    · exact spl_ne S r _ _
  | c :: r, acc, k + 1 => spl_ne S r acc k
theorem split_ne {x y : Str} (hy : TL.tl y ≠ []) (hk : y.cps.all (· < 256) = true) : ∃ z zs, Txt.split x y = z :: zs := by
  have h := TL.split_spl x y hy (TL.kind_ok hk)
  cases e : Txt.split x y with
  | nil => rw [e] at h; exact absurd h.symm (spl_ne _ _ _ _)
  | cons z zs => exact ⟨z, zs, rfl⟩
/-- a text of signs below 256 -/
def Sg (t : Str) : Prop := ∀ c ∈ TL.tl t, c < 256
theorem Sg.app {a b : Str} (h : Sg a) (h' : Sg b) : Sg (a ++ b) := fun c hc => by
  rw [TL.tl_append] at hc
  exact (List.mem_append.mp hc).elim (h c) (h' c)
theorem Sg.one {c : Nat} (h : c < 256) : Sg ⟨#[c]⟩ := fun d hd => by
  rw [List.mem_singleton.mp (show d ∈ [c] from hd)]; exact h
theorem Sg.cut {z : Str} {lo hi : Option Int} (h : Sg z) : Sg (cutS z lo hi) := fun c hc => h c (List.mem_of_mem_drop (List.mem_of_mem_take hc))
theorem Sg.lit {s : String} (h : (TL.tl (Str.ofString s)).all (· < 256) = true) : Sg (Str.ofString s) := fun c hc => of_decide_eq_true (List.all_eq_true.mp h c hc)
theorem sgJ (S : List Nat) (hS : ∀ c ∈ S, c < 256) : ∀ ps : List (List Nat), (∀ p ∈ ps, ∀ c ∈ p, c < 256) → ∀ c ∈ TL.joinL S ps, c < 256
  | [], _ => fun c hc => nomatch hc
  | [p], h => fun c hc => h p (List.mem_cons_self ..) c (by simpa only [TL.joinL] using hc)
  | p :: q :: r, h => fun c hc => by
    simp only [TL.joinL, List.mem_append] at hc
    rcases hc with hc | hc | hc
    · exact h p (List.mem_cons_self ..) c hc
    · exact hS c hc
    · exact sgJ S hS (q :: r) (fun x hx => h x (List.mem_cons_of_mem _ hx)) c hc
theorem Sg.join {y : Str} {ys : List Str} (h : Sg y) (h' : ∀ z ∈ ys, Sg z) : Sg (Txt.join y ys) := by
  unfold Sg
  rw [TL.join_eq, TL.tl_join]
  refine sgJ _ h _ fun p hp => ?_
  obtain ⟨z, hz, rfl⟩ := List.mem_map.mp hp
  exact h' z hz
theorem Sg.ok {t : Str} (h : Sg t) : PyData.strOk t = true := by
  unfold PyData.strOk
  rw [← Array.all_toList]
  exact List.all_eq_true.mpr fun c hc => decide_eq_true (Nat.lt_trans (h c hc) (by decide))
theorem canStrs : ∀ {ys : List Str}, (∀ y ∈ ys, Sg y) → PyData.canLayAll0 (ys.map PyData.str) = true
  | [], _ => rfl
  | y :: ys, h => by
    show (PyData.canLay0 (.str y) && PyData.canLayAll0 (ys.map PyData.str)) = true
    rw [Bool.and_eq_true]
    exact ⟨by simp only [PyData.canLay0]; exact (h y (List.mem_cons_self ..)).ok, canStrs fun z hz => h z (List.mem_cons_of_mem _ hz)⟩
theorem depStrs : ∀ ys : List Str, PyData.depthAll (ys.map PyData.str) ≤ 1
  | [] => by simp [PyData.depthAll]
  | y :: ys => by
    have := depStrs ys
    simp only [List.map_cons, PyData.depthAll, PyData.depth]
    omega
theorem shStrs {ys : List Str} (h : ∀ y ∈ ys, Sg y) : SeqAt.shaped (.list (ys.map PyData.str)) = true := by
  have := depStrs ys
  unfold SeqAt.shaped
  rw [Bool.and_eq_true]
  refine ⟨by simp only [PyData.canLay0]; exact canStrs h, decide_eq_true ?_⟩
  simp only [PyData.depth]
  omega
theorem atI_zero {α : Type} (x : α) (xs : List α) : atI (x :: xs) 0 = some x := by
  unfold atI ixN
  rw [if_pos (by decide), if_pos (by simp only [List.length_cons]; omega)]
  rfl
/-- a sign in a text; other texts in a text -/
def isIn (a b : Str) : Bool := match a.cps.toList with
  | [c] => decide (c ∈ b.cps.toList)
  | _ => inTx a b
def hIn (K : PySem.W.Frag) : R2 := fun x y H Q => match x, y with
  | .str a, .str b => Q (.bl (isIn a b)) H
  | x, y => cIn K false x y H Q
def hNotIn (K : PySem.W.Frag) : R2 := fun x y H Q => match x, y with
  | .str a, .str b => Q (.bl (!isIn a b)) H
  | x, y => cIn K true x y H Q
section
variable {X : Cx}
theorem ho_in : OpR X (compareOp .In) (hIn X.K) := by
  intro pins s σ H x y v u Q I rx ry h
  unfold hIn at h
  split at h
  · rename_i a b
    unfold isIn at h
    split at h
    · rename_i c e
      have ea : a = ⟨#[c]⟩ := TL.ext_tl e
      subst ea
      exact op_in_sign pins s σ H _ _ v u Q I rx ry ⟨c, b, rfl, rfl, h⟩
    · exact co_in pins s σ H _ _ v u Q I rx ry h
  · exact co_in pins s σ H _ _ v u Q I rx ry h
theorem ho_notIn : OpR X (compareOp .NotIn) (hNotIn X.K) := by
  intro pins s σ H x y v u Q I rx ry h
  unfold hNotIn at h
  split at h
  · rename_i a b
    unfold isIn at h
    split at h
    · rename_i c e
      have ea : a = ⟨#[c]⟩ := TL.ext_tl e
      subst ea
      exact op_notIn_sign pins s σ H _ _ v u Q I rx ry ⟨c, b, rfl, rfl, h⟩
    · exact co_notIn pins s σ H _ _ v u Q I rx ry h
  · exact co_notIn pins s σ H _ _ v u Q I rx ry h
end
def tlen (o : Option (Option V)) : Nat := match o with
  | some (some (.str t)) => t.length
  | _ => 0
theorem cpsT {R : (Bool → Hp → Prop) → Prop} {Q : Bool → Hp → Prop} (Pp : Bool → Hp → Prop) (h1 : ∀ v H, Pp v H → Q v H) (h2 : ∀ Q' : Bool → Hp → Prop, (∀ v H, Pp v H → Q' v H) → R Q') : R Q := h2 Q h1
theorem seqCps {t u : TS} {D : Ends} {σ : L2.St} {H : Hp} (Pp : L2.St → Hp → Prop) (h1 : ∀ Nx : L2.St → Hp → Prop, (∀ σ H, Pp σ H → Nx σ H) → t { D with nx := Nx } σ H) (h2 : ∀ σ H, Pp σ H → u D σ H) : tSeq t u D σ H := h1 (u D) h2
theorem seqStep {t u : TS} {D : Ends} {σ : L2.St} {H : Hp} (h : t { D with nx := u D } σ H) : tSeq t u D σ H := h
theorem _root_.Xs.Kp.new {a p : Addr} {H H' : Hp} {o : HO} (h : Kp a H H') (hp : H p = none) : Kp a H (upd H' p o) := fun q o' n e => by
  unfold upd
  split
  · subst q; rw [hp] at e; cases e
  · exact h q o' n e
theorem _root_.L2.Ext.new {p : Addr} {H H' : Hp} {o : HO} (h : Ext H H') (hp : H p = none) : Ext H (upd H' p o) := fun q o' e => by
  unfold upd
  split
  · subst q; rw [hp] at e; cases e
  · exact h q o' e
theorem joinL_len (S : List Nat) (m : Nat) : ∀ ps : List (List Nat), (∀ p ∈ ps, p.length ≤ m) → (TL.joinL S ps).length ≤ ps.length * (m + S.length)
  | [], _ => Nat.zero_le _
  | [p], h => by
    have := h p (List.mem_cons_self ..)
    show (TL.joinL S [p]).length ≤ 1 * (m + S.length)
    simp only [TL.joinL]
    omega
  | p :: q :: r, h => by
    have h1 := h p (List.mem_cons_self ..)
    have h2 := joinL_len S m (q :: r) fun x hx => h x (List.mem_cons_of_mem _ hx)
    simp only [TL.joinL, List.length_append, List.length_cons] at h2 ⊢
    have e : (r.length + 1 + 1) * (m + S.length) = (r.length + 1) * (m + S.length) + (m + S.length) := Nat.succ_mul _ _
    omega
theorem join_len {y : Str} {m : Nat} {ys : List Str} (h : ∀ z ∈ ys, z.length ≤ m) : (Txt.join y ys).length ≤ ys.length * (m + y.length) := by
  rw [TL.join_eq, TL.len_tl, TL.tl_join, TL.len_tl y]
  have := joinL_len (TL.tl y) m (ys.map TL.tl) fun p hp => by
    obtain ⟨z, hz, rfl⟩ := List.mem_map.mp hp
    have := h z hz
    rw [TL.len_tl] at this
    exact this
  rw [List.length_map] at this
  exact this
theorem sum_len {m : Nat} : ∀ {ys : List Str}, (∀ z ∈ ys, z.length ≤ m) → (ys.map (·.length)).sum ≤ ys.length * m
  | [], _ => Nat.zero_le _
  | y :: ys, h => by
    have h1 := h y (List.mem_cons_self ..)
    have h2 := sum_len (ys := ys) fun x hx => h x (List.mem_cons_of_mem _ hx)
    simp only [List.map_cons, List.sum_cons, List.length_cons, Nat.succ_mul]
    omega
end Xs
set_option Elab.async false
set_option linter.all false
set_option maxRecDepth 100000
set_option maxHeartbeats 4000000
namespace Xr
open PySem PySem.Spec PyProof.Rows L2 ClX
/-- C.m(k = v, ..) within a try's body -/
def tCMethNS (C : Addr) (ks : List Str) (dfl : List (Str × V)) (sp : Sp) (E : L2.St → XK) (ta : TE) (tk : TA) : TE := fun σ H Q => ta σ H fun x H1 => x = .ref C ∧ tk σ H1 fun zs H2 => zs.length = ks.length ∧ sp (kwVals dfl (.ref C) (ks.zip zs)) H2 Q (E σ)
theorem pe_cmethNS {X : Cx} {CX : CXT} {k : Nat} {C p g : Addr} {mc : Value} {sp : Sp} {E : L2.St → XK} {o : Expr} {m c : Str} {pos apos : Pos} {ta : TE} {tk : TA} {fd : FuncData} {dfl : List (Str × V)} {kws : List Keyword} {ks : List Str} {pl : Sem Bool} (he : PE X o ta) (r : CRead X.K C mc) (cm : CMet X.K C mc m p g)
    (F : FnOk X.prog X.w X.K X.mg X.base CX k g fd (c :: dfl.map (·.1)) sp) (B : KwB X.K fd c dfl) (hr : Room k X.A) (hx : ∀ σ, PassesAt CX X σ (E σ)) (hkw : PK X kws tk)
    (hsub : ∀ n ∈ ks, n ∈ dfl.map (·.1)) (hnd : ks.Nodup)
    (hall : (backToKw pos (keywordEach kws X.env)).all (·.1.isSome) = true := by rfl) (hks : (backToKw pos (keywordEach kws X.env)).filterMap (·.1) = ks := by rfl)
    (hpl : ((backTo pos (starEach [] X.env)).any (·.1) || (backToKw pos (keywordEach kws X.env)).any (·.1.isNone)) = false := by rfl)
    (ht : eval (.Call (.Attribute o m apos) [] kws pos) X.env = (do
      let ov ← eval o X.env
      standAt apos.atName
      let (f, first) ← holding [ov] (getMethod ov m pl)
      callWith pos f first (backTo pos (starEach [] X.env)) (backToKw pos (keywordEach kws X.env))) := by rfl) :
    PE X (.Call (.Attribute o m apos) [] kws pos) (tCMethNS C ks dfl sp E ta tk) := by
  refine ⟨fun pins s σ H Q I h => ?_⟩
  refine PySem.W.methodCall_KW (pl := pl) (thn (he.run pins s σ H _ I h) fun u s1 ⟨x, H1, I1, rx, ex, q⟩ => ?_) ht
  subst ex
  obtain rfl : u = Value.ref C := rx
  refine getmethcm_ok I1 r cm fun s2 I2 => ?_
  refine PySem.W.callWith_of (P := PySem.W.MethP X.K s1.heap.objs.size g (.ref C)) hpl (PySem.W.keeps_M cm.fi) (PyProof.Rows.evalArgs_kw2_nil hall ?_)
  refine thn (hkw.run pos _ s2 σ H1 _ I2 q) fun ws s3 ⟨zs, H3, I3, rz, hl, hsp⟩ => ?_
  refine ⟨⟨pin_at I3, I3.kIn⟩, ?_⟩
  rw [hks]
  obtain ⟨us, hbind, rv⟩ := B.binds (s := s3) I3.kIn (show RelV (.ref C) (.ref C) from rfl) (relK_zip (ks := ks) rz) (fun q hq => hsub q.1 (by
    have z : q.1 ∈ (ks.zip zs).map (·.1) := List.mem_map.mpr ⟨q, hq, rfl⟩
    rw [zip_fst hl] at z
    exact z)) (by rw [zip_fst hl]; exact hnd)
  have z : wpAny (model X.prog X.w) X.A (call (.ref s1.heap.objs.size) ([] ++ []) (ks.zip ws)) (EP X ((s1.heap.objs.size, PySem.W.methodObj (.ref g) (.ref C)) :: pins) σ Q) X.xe s3 := by
    refine wpAny_call (PySem.W.method_call (pin_at I3) (codeAny_mono (F.run X.A X.stack s3 H3 ⟨[.ref C], ks.zip ws⟩ us _ Q (E σ) hr I3.env0 hbind rv hsp) fun r s' hq => ?_))
    cases r with
    | error e => exact hx σ _ H3 s3 e s' I3 hq
    | ok fl =>
      cases fl with
      | ret u => exact I3.after hq
      | next => exact False.elim hq
      | brk => exact False.elim hq
      | cont => exact False.elim hq
  exact thn z fun _ _ y => unpinE y
end Xr
set_option Elab.async false
set_option linter.all false
set_option maxRecDepth 100000
set_option maxHeartbeats 4000000
/-! R9: == and != of instances by the class's own __eq__; repr of texts and bools; a try whose body raises nothing. -/
namespace Xr
open PySem PySem.Spec PyProof.Rows L2 ClX
section
variable {X : Cx}
def cRepr : List V → Hp → VK → Prop := fun xs H Q => match xs with
  | [.str a] => (reprText a).length ≤ sizeLine ∧ Q (.str (reprText a)) H
  | [.bl b] => Q (.str (if b then "True" else "False")) H
  | _ => False
theorem call_reprV : CallR X (.builtin "repr") cRepr := by
  intro pins s σ H xs us Q I r h
  unfold cRepr at h
  split at h
  · obtain ⟨hz, q⟩ := h
    obtain ⟨u, rfl, t, rfl⟩ := vals1 r
    exact PySem.P.repr_of_str (Q := EP X pins σ Q) ⟨.str _, H, I.tok _, ⟨_, rfl⟩, q⟩ hz
  · rename_i b
    obtain ⟨u, rfl, hu⟩ := vals1 r
    obtain rfl : u = Value.bool b := hu
    exact PySem.P.repr_of_bool (Q := EP X pins σ Q) ⟨.str _, H, I.tok _, ⟨_, rfl⟩, h⟩
  · exact h.elim
end
/-! ### == and != of own instances -/
section
variable {prog : Program} {w : World} {A : Around} {E : Value → Shared → Prop} {s : Shared} {K : PySem.W.Frag} {x C L f : Addr} {h₀ : Heap} {m : Str → Option Value} {ox : Obj} {od : Option Obj} {b tb : Value}
open PySem.W in
theorem objNe_run (hu : A.units < cLine) (X : K.In s.heap) (I : InstAt s.heap x ox C od) (hs : findIn K (.ref C) "__eq__" = some (some (.ref f))) (hf : isFn K (.ref f) = true) {Q : Fin → Shared → Prop}
    (hcall : wpAny (model prog w) A (call (.ref f) [.ref x, b]) (fun v s' => ∃ c, v = .bool c ∧ Q (.done (.ret (.bool (!c)))) s') E s) :
    wpAny (model prog w) A (Builtin.«object.__ne__» ⟨[.ref x, b], []⟩) Q E s := by
  unfold Builtin.«object.__ne__»
  repeat (first
    | with_reducible refine wpAny_cRoomFor hu ?_
    | (refine wpAny_bind (m := callSpecialIfBound? (.ref x) (Str.ofString "__eq__") [b])
        (ifBound_K X I hs hf (wpAny_mono hcall (fun r s' hr => by
          obtain ⟨c, rfl, hq⟩ := hr
          repeat (first | exact hq | exact wpAny_pure hq | exact wpAny_truthy_bool hq | (refine wpAny_bind (m := truthy (.bool _)) (wpAny_truthy_bool ?_)) | wp_step)) fun _ _ e => e)))
    | wp_step)
open PySem.W in
theorem ne_K {Q : Value → Shared → Prop} (hu : A.units + 1 < cLine) (F : Fr h₀ L s.heap m) (X₀ : K.In h₀) (I : InstAt s.heap x ox C od) (hb : Looks (model prog w) s.heap (typeOf b) tb) (hn : notFirst K C tb = true)
    (hne : findIn K (.ref C) "__ne__" = some (some (.builtin "object.__ne__"))) (hob : subIn K (.ref C) (.type "object") = some true)
    (hs : findIn K (.ref C) "__eq__" = some (some (.ref f))) (hf : isFn K (.ref f) = true)
    (h : wpAny (model prog w) A.in1 (call (.ref f) [.ref x, b]) (fun v s' => ∃ c, v = .bool c ∧ Q (.bool (!c)) s') E s) : wpAny (model prog w) A (richCompare .NotEq (.ref x) b) Q E s := by
  have X := X₀.keeps F.keep
  have one : wpAny (model prog w) A (tryCompare (.ref x) "__ne__" b) (fun r s' => ∃ v, r = some v ∧ Q v s') E s := by
    unfold tryCompare
    refine wpAny_bind ?_
    simp only [callSpecialIfBound?, bindSpecialIfBound?]
    have fin : wpAny (model prog w) A (call (.builtin "object.__ne__") ([.ref x] ++ [b]) >>= fun v => pure (some v)) (fun r s' => wpAny (model prog w) A (match r with
        | some .notImplemented | none => pure none
        | some v => pure (some v) : Sem (Option Value)) (fun r s' => ∃ v, r = some v ∧ Q v s') E s') E s := by
      refine wpAny_bind (wpAny_call (codeAny_call_builtin PySem.F.cmp_object.ne.plain PySem.F.cmpEntry_ne
        (check_slot PySem.F.cmpKind_ne PySem.F.cmpSplit_ne (I.type.andThen (looks_subIn X hob)) (PySem.F.cmpArgs_ne _ _)
          (objNe_run (A := A.in1) hu X I hs hf (wpAny_mono h (fun v s' hv => ?_) fun _ _ e => e)))))
      obtain ⟨c, rfl, hq⟩ := hv
      exact ⟨c, rfl, wpAny_pure (wpAny_pure ⟨_, rfl, hq⟩)⟩
    refine wpAny_holding (wpAny_bind (wpAny_bind (wpAny_bind (I.type.here ((looks_findIn X hne).here ?_)))))
    refine wpAny_bind (wpAny_askSetting (wpAny_ite ?_))
    split
    · exact wpAny_bind ((Looks.of_pure (PySem.F.cmp_object.ne.bind _)).here (wpAny_pure (by exact fin)))
    · exact wpAny_tryCatch (wpAny_bind ((Looks.of_pure (PySem.F.cmp_object.ne.bind _)).here (wpAny_pure (by exact fin))))
  unfold richCompare
  simp only [oneThing_ref]
  refine wpAny_holding (wpAny_bind (wpAny_cRoomFor (Nat.lt_of_succ_lt hu) ?_))
  rw [cmpInfo_NotEq]
  dsimp only
  refine wpAny_bind (I.type.here (wpAny_bind (hb.here ?_)))
  split
  · rename_i q
    have e : subIn K tb (.ref C) = some false := by
      rcases Bool.or_eq_true_iff.mp hn with e | e
      · rw [beq_iff_eq.mp e] at q; simp at q
      · exact beq_iff_eq.mp e
    refine wpAny_bind ((looks_subIn X e).here ?_)
    simp only [Bool.false_eq_true, if_false]
    refine wpAny_bind (wpAny_mono one (fun r s' z => ?_) fun _ _ e => e)
    obtain ⟨v, rfl, hq⟩ := z
    exact wpAny_pure hq
  · refine wpAny_bind (wpAny_pure ?_)
    simp only [Bool.false_eq_true, if_false]
    refine wpAny_bind (wpAny_mono one (fun r s' z => ?_) fun _ _ e => e)
    obtain ⟨v, rfl, hq⟩ := z
    exact wpAny_pure hq
end
/-- what the class's facts must say -/
structure EqC (K : PySem.W.Frag) (C f : Addr) : Prop where
  eq : PySem.W.findIn K (.ref C) "__eq__" = some (some (.ref f))
  fn : PySem.W.isFn K (.ref f) = true
  ne : PySem.W.findIn K (.ref C) "__ne__" = some (some (.builtin "object.__ne__"))
  ob : PySem.W.subIn K (.ref C) (.type "object") = some true
  s : PySem.W.notFirst K C (.type "str") = true
  i : PySem.W.notFirst K C (.type "int") = true
  n : PySem.W.notFirst K C (.type "NoneType") = true
  ks : PySem.W.kitOne K (.type "str") (.ref C) = some false
  ki : PySem.W.kitOne K (.type "int") (.ref C) = some false
  kn : PySem.W.kitOne K (.type "NoneType") (.ref C) = some false
  kc : PySem.W.kitOne K (.ref C) (.ref C) = some true
  ca : PySem.W.findIn K (.ref C) "__class__" = some (some (.builtin "object.__class__"))
  cn : PySem.W.specialIn K (.builtin "object.__class__") "__get__" = some (some (.builtin "getset_descriptor.__get__"))
  ct : PySem.W.takesIn K (.builtin "object.__class__") = some true
  cm : PySem.W.mroIn K C (.type "object") = some true
def eqcB (K : PySem.W.Frag) (C f : Addr) : Bool := decide (PySem.W.findIn K (.ref C) "__eq__" = some (some (.ref f))) && (PySem.W.isFn K (.ref f) && (decide (PySem.W.findIn K (.ref C) "__ne__" = some (some (.builtin "object.__ne__"))) && (decide (PySem.W.subIn K (.ref C) (.type "object") = some true) &&
  (PySem.W.notFirst K C (.type "str") && (PySem.W.notFirst K C (.type "int") && (PySem.W.notFirst K C (.type "NoneType") && (decide (PySem.W.kitOne K (.type "str") (.ref C) = some false) && (decide (PySem.W.kitOne K (.type "int") (.ref C) = some false) &&
  (decide (PySem.W.kitOne K (.type "NoneType") (.ref C) = some false) && (decide (PySem.W.kitOne K (.ref C) (.ref C) = some true) && (decide (PySem.W.findIn K (.ref C) "__class__" = some (some (.builtin "object.__class__"))) &&
  (decide (PySem.W.specialIn K (.builtin "object.__class__") "__get__" = some (some (.builtin "getset_descriptor.__get__"))) && (decide (PySem.W.takesIn K (.builtin "object.__class__") = some true) && decide (PySem.W.mroIn K C (.type "object") = some true))))))))))))))
theorem eqcB_ok {K : PySem.W.Frag} {C f : Addr} (h : eqcB K C f = true) : EqC K C f := by
  unfold eqcB at h
  simp only [Bool.and_eq_true] at h
  obtain ⟨h1, h2, h3, h4, h5, h6, h7, h8, h9, h10, h11, h12, h13, h14, h15⟩ := h
  exact ⟨of_decide_eq_true h1, h2, of_decide_eq_true h3, of_decide_eq_true h4, h5, h6, h7, of_decide_eq_true h8, of_decide_eq_true h9, of_decide_eq_true h10, of_decide_eq_true h11, of_decide_eq_true h12, of_decide_eq_true h13, of_decide_eq_true h14, of_decide_eq_true h15⟩
/-- isinstance(x, C): an instance of C, or a flat value -/
def cIsC (C : Addr) : List V → Hp → VK → Prop := fun xs H Q => ∃ x, xs = [x, .ref C] ∧ ((∃ b dy gs, x = .ref b ∧ H b = some (.ins C dy gs) ∧ Q (.bl true) H) ∨ (((∃ t, x = .str t) ∨ (∃ i, x = .int i) ∨ x = .non) ∧ Q (.bl false) H))
theorem call_isC9 {X : Cx} {C f : Addr} (T : EqC X.K C f) (cl : Cls X.K C) : CallR X (.builtin "isinstance") (cIsC C) := by
  intro pins s σ H xs us Q I rs h
  refine call_isi pins s σ H xs us Q I rs ?_
  obtain ⟨x, rfl, h⟩ := h
  rcases h with ⟨b, dy, gs, rfl, e, q⟩ | ⟨h, q⟩
  · exact ⟨_, _, .ref C, _, true, rfl, .own C, .base (.ins e cl T.ca T.cn T.ct T.cm), T.kc, q⟩
  · rcases h with ⟨t, rfl⟩ | ⟨i, rfl⟩ | rfl
    · exact ⟨_, _, _, _, false, rfl, .own C, .base (.str _), T.ks, q⟩
    · exact ⟨_, _, _, _, false, rfl, .own C, .base (.int _), T.ki, q⟩
    · exact ⟨_, _, _, _, false, rfl, .own C, .base .non, T.kn, q⟩
/-- the values beside which an instance of C may stand here -/
def Beside (C : Addr) (y : V) (H : Hp) : Prop := (∃ b dy gs, y = .ref b ∧ H b = some (.ins C dy gs)) ∨ (∃ t, y = .str t) ∨ (∃ i, y = .int i) ∨ y = .non
section
variable {X : Cx} {C f : Addr} {n : Nat} {sp : Sp}
theorem beside_type {pins : List (Addr × Obj)} {σ : L2.St} {H : Hp} {s : Shared} {y : V} {u : Value} (T : EqC X.K C f) (I : Inv X pins σ H s) (ry : RelV y u) (h : Beside C y H) : ∃ tb, PySem.W.Looks (model X.prog X.w) s.heap (typeOf u) tb ∧ PySem.W.notFirst X.K C tb = true := by
  rcases h with ⟨b, dy, gs, rfl, hb⟩ | ⟨t, rfl⟩ | ⟨i, rfl⟩ | rfl
  · cases ry
    obtain ⟨mB, J', _⟩ := ins_get I.hok hb
    obtain ⟨od', J', _⟩ := J'.look
    exact ⟨.ref C, J'.type, by simp [PySem.W.notFirst]⟩
  · obtain ⟨k, rfl⟩ := ry
    exact ⟨.type "str", PySem.W.Looks.of_pure (by kernel_rfl), T.s⟩
  · obtain ⟨k, rfl⟩ := ry
    exact ⟨.type "int", PySem.W.Looks.of_pure (by kernel_rfl), T.i⟩
  · cases ry
    exact ⟨.type "NoneType", PySem.W.Looks.of_pure (by kernel_rfl), T.n⟩
/-- x == y, x != y, x an instance of C -/
def rEqO (C : Addr) (sp : Sp) (neg : Bool) : R2 := fun x y H Q => ∃ a dx fs, x = .ref a ∧ H a = some (.ins C dx fs) ∧ Beside C y H ∧ sp [.ref a, y] H (fun v H' => ∃ c, v = .bl c ∧ Q (.bl (if neg then !c else c)) H') E0
theorem op_eqO (F : FnR X.prog X.w X.K X.mg X.base CX0 n f sp) (hr : Room n X.A) (T : EqC X.K C f) : OpR X (compareOp .Eq) (rEqO C sp false) := by
  intro pins s σ H x y v u Q I rx ry h
  obtain ⟨a, dx, fs, rfl, ea, hy, h⟩ := h
  cases rx
  obtain ⟨mA, O, _⟩ := ins_get I.hok ea
  obtain ⟨od, J, _⟩ := O.look
  obtain ⟨m, hF⟩ := I.fr
  obtain ⟨tb, hl, hn⟩ := beside_type T I ry hy
  show wpAny (model X.prog X.w) X.A (richCompare .Eq (.ref a) u) (EP X pins σ Q) X.xe s
  refine PySem.W.cmp_K (op := .Eq) hr.units0 hF I.ok.mod.kin J hl hn T.eq T.fn (wpAny_mono (run_sp (A := X.A) (vs := [.ref a, y]) F hr I.ok.frames I (.cons rfl (.cons ry .nil)) h) (fun r s' hv => ?_) fun _ _ e => e)
  obtain ⟨z, H', I', rz, c, rfl, q⟩ := hv
  cases rz
  exact ⟨.bl c, H', I', rfl, q⟩
theorem op_neO (F : FnR X.prog X.w X.K X.mg X.base CX0 n f sp) (hr : Room (n + 1) X.A) (T : EqC X.K C f) : OpR X (compareOp .NotEq) (rEqO C sp true) := by
  intro pins s σ H x y v u Q I rx ry h
  obtain ⟨a, dx, fs, rfl, ea, hy, h⟩ := h
  cases rx
  obtain ⟨mA, O, _⟩ := ins_get I.hok ea
  obtain ⟨od, J, _⟩ := O.look
  obtain ⟨m, hF⟩ := I.fr
  obtain ⟨tb, hl, hn⟩ := beside_type T I ry hy
  show wpAny (model X.prog X.w) X.A (richCompare .NotEq (.ref a) u) (EP X pins σ Q) X.xe s
  refine ne_K (by have := hr.un; omega) hF I.ok.mod.kin J hl hn T.ne T.ob T.eq T.fn (wpAny_mono (run_sp (A := X.A.in1) (vs := [.ref a, y]) F hr.in1 I.ok.frames I (.cons rfl (.cons ry .nil)) h) (fun r s' hv => ?_) fun _ _ e => e)
  obtain ⟨z, H', I', rz, c, rfl, q⟩ := hv
  cases rz
  exact ⟨c, rfl, .bl (!c), H', I', rfl, q⟩
end
/-! ### a try whose body raises nothing -/
theorem ps_try_quiet {X : Cx} {body : List Stmt} {h₀ : ExceptHandler} {hds : List ExceptHandler} {pos : Pos} {t : TS}
    (hb : ∀ (pn : List (Addr × Obj)) (xe : Value → Shared → Prop), PassesOwn (model X.prog X.w) X.A X.env xe → PSs (X.tr pn xe) body t) : PS X (.Try body (h₀ :: hds) [] [] pos) t := by
  refine ⟨fun pins s σ H D I h => ?_⟩
  have ok := I.ok
  refine wpAny_Try_except ?_
  refine wpAny_mono ((hb (X.pn ++ pins) (fun e s₁ => wpAny (model X.prog X.w) X.A (noteFrame e X.env) (fun _ s₂ => wpAny (model X.prog X.w) X.A (setFlight e none) (fun _ s₃ =>
    wpAny (model X.prog X.w) X.A (handleBy e X.env (h₀ :: hds)) (SP X pins D) X.xe s₃) X.xe s₂) X.xe s₁) PassesOwn.looking).run [] s σ H D (I.toTry _) h) (fun f s1 hsp => ?_) (fun e s1 he => he)
  cases f with
  | next =>
    obtain ⟨σ', H', J', q⟩ := hsp
    exact wpAny_execs_nil ⟨σ', H', J'.ofTry ok, q⟩
  | brk =>
    obtain ⟨σ', H', J', q⟩ := hsp
    exact ⟨σ', H', J'.ofTry ok, q⟩
  | cont =>
    obtain ⟨σ', H', J', q⟩ := hsp
    exact ⟨σ', H', J'.ofTry ok, q⟩
  | ret u =>
    obtain ⟨v, σ', H', J', r, q⟩ := hsp
    exact ⟨v, σ', H', J'.ofTry ok, r, q⟩
end Xr
set_option Elab.async false
set_option linter.all false
set_option maxRecDepth 100000
set_option maxHeartbeats 4000000
/-! Hc: facts of classes as Bools of the fragment: properties, classmethods, constants of a class, own errors. -/
namespace Hc
open PySem PySem.Spec PyProof.Rows L2 ClX
def oo (a : Option (Option Value)) (b : Value) : Bool := decide (a = some (some b))
theorem oo_ok {a : Option (Option Value)} {b : Value} (h : oo a b = true) : a = some (some b) := of_decide_eq_true h
/-- a property: its record -/
def propP (K : PySem.W.Frag) (C : Addr) (f : Str) : Addr := match PySem.W.findIn K (.ref C) f with
  | some (some (.ref p)) => p
  | _ => 0
def propB (K : PySem.W.Frag) (C : Addr) (f : Str) (g : Addr) : Bool := oo (PySem.W.findIn K (.ref C) f) (.ref (propP K C f)) && (oo (PySem.W.specialIn K (.ref (propP K C f)) "__get__") (.builtin "property.__get__") &&
  (decide (PySem.W.takesIn K (.ref (propP K C f)) = some true) && (match PySem.W.recIn K (propP K C f) "property" with
    | some (.ref q :: _) => decide (q = g)
    | _ => false)))
theorem propB_ok {K : PySem.W.Frag} {C : Addr} {f : Str} {g : Addr} (h : propB K C f g = true) : PropOf K C f (propP K C f) g := by
  unfold propB at h
  simp only [Bool.and_eq_true] at h
  obtain ⟨h1, h2, h3, h4⟩ := h
  refine ⟨oo_ok h1, oo_ok h2, of_decide_eq_true h3, ?_⟩
  split at h4
  · rename_i q rest e
    have eq : q = g := of_decide_eq_true h4
    exact ⟨rest, by rw [e, eq]⟩
  · cases h4
/-- reading attributes of the class itself -/
def readB (K : PySem.W.Frag) (C : Addr) : Bool := PySem.W.readsIn K C (.type "type") && oo (PySem.W.specialIn K (.ref C) "__getattribute__") (.builtin "type.__getattribute__")
theorem readB_ok {K : PySem.W.Frag} {C : Addr} (h : readB K C = true) : CRead K C (.type "type") := by
  unfold readB at h
  rw [Bool.and_eq_true] at h
  exact ⟨h.1, oo_ok h.2⟩
/-- a constant of the class that is an object: its address -/
def cvalP (K : PySem.W.Frag) (C : Addr) (f : Str) : Addr := match PySem.W.findCls K (.ref C) (.type "type") f with
  | some (.val (.ref p)) => p
  | _ => 0
def cvalB (K : PySem.W.Frag) (C : Addr) (f : Str) : Bool := match PySem.W.findCls K (.ref C) (.type "type") f with
  | some (.val (.ref _)) => true
  | _ => false
theorem cvalB_ok {K : PySem.W.Frag} {C : Addr} {f : Str} (h : cvalB K C f = true) : CVal K C (.type "type") f (.ref (cvalP K C f)) (.ref (cvalP K C f)) := by
  unfold cvalB at h
  split at h
  · rename_i p e
    refine ⟨?_, rfl⟩
    rw [e]
    unfold cvalP
    rw [e]
  · cases h
/-- a tuple of texts in the fragment -/
def strsB : List Value → List Str → Bool
  | [], [] => true
  | .str x _ :: r, y :: s => decide (x = y) && strsB r s
  | _, _ => false
theorem strsB_ok : ∀ {us : List Value} {ys : List Str}, strsB us ys = true → Vals (ys.map V.str) us
  | [], [], _ => .nil
  | .str x t :: r, y :: s, h => by
    have h' : (decide (x = y) && strsB r s) = true := h
    rw [Bool.and_eq_true] at h'
    have e : x = y := of_decide_eq_true h'.1
    subst e
    exact .cons ⟨t, rfl⟩ (strsB_ok h'.2)
def tupSB (K : PySem.W.Frag) (a : Addr) (ys : List Str) : Bool := match K.lookup a with
  | some ⟨.type c, _, .seq its _, _⟩ => decide (c = "tuple") && (decide (its.size ≤ 1000) && strsB its.toList ys)
  | _ => false
theorem tupSB_ok {K : PySem.W.Frag} {a : Addr} {ys : List Str} (h : tupSB K a ys = true) (H : Hp) : SqT K H a (ys.map V.str) := by
  unfold tupSB at h
  split at h
  · rename_i c d its n sl e
    simp only [Bool.and_eq_true] at h
    obtain ⟨h1, h2, h3⟩ := h
    have ec : c = "tuple" := of_decide_eq_true h1
    subst ec
    exact .inr ⟨_, its, n, e, rfl, rfl, Nat.le_trans (of_decide_eq_true h2) (by decide), strsB_ok h3⟩
  · cases h
/-- a classmethod: its record, its def -/
def cmP (K : PySem.W.Frag) (C : Addr) (m : Str) : Addr := match PySem.W.findCls K (.ref C) (.type "type") m with
  | some (.get _ (.ref p) _ _) => p
  | _ => 0
def cmB (K : PySem.W.Frag) (C : Addr) (m : Str) (g : Addr) : Bool := (match PySem.W.findCls K (.ref C) (.type "type") m with
  | some (.get (.builtin n) (.ref _) .none (.ref C')) => decide (n = "classmethod.__get__") && decide (C' = C)
  | _ => false) && ((match PySem.W.recIn K (cmP K C m) "classmethod" with
    | some (.ref q :: _) => decide (q = g)
    | _ => false) && PySem.W.fnIn K g)
theorem cmB_ok {K : PySem.W.Frag} {C : Addr} {m : Str} {g : Addr} (h : cmB K C m g = true) : CMet K C (.type "type") m (cmP K C m) g := by
  unfold cmB at h
  simp only [Bool.and_eq_true] at h
  obtain ⟨h1, h2, h3⟩ := h
  refine ⟨?_, ?_, h3⟩
  · split at h1
    · rename_i n p C' e
      rw [Bool.and_eq_true] at h1
      have e1 : n = "classmethod.__get__" := of_decide_eq_true h1.1
      have e2 : C' = C := of_decide_eq_true h1.2
      subst e1 e2
      rw [e]
      unfold cmP
      rw [e]
    · cases h1
  · split at h2
    · rename_i q rest e
      have eq : q = g := of_decide_eq_true h2
      exact ⟨rest, by rw [e, eq]⟩
    · cases h2
/-- an own error right under ValueError, with an __init__ of its own -/
def oexB (K : PySem.W.Frag) (C : Addr) : Bool := (match K.lookup C with
  | some ⟨.type T, _, .cls cd, sl⟩ => (match cd.mro, sl.toList with
    | .ref C' :: bm, [_, _, _, _, some (.builtin n), _] => decide (T = "type") && (decide (C' = C) && (decide (n = "ValueError.__new__") && (!cd.hasDel && (cd.hasDict && PySem.HandSPX.refsVE bm))))
    | _, _ => false)
  | _ => false) && (oo (PySem.W.findIn K (.ref C) "__setattr__") (.builtin "object.__setattr__") && (decide (PySem.W.subIn K (.ref C) (.type "BaseException") = some true) && (decide (PySem.W.typeIn K (.ref C) = some (.type "type")) && PySem.W.keepIn K (.ref C))))
theorem oexB_ok {K : PySem.W.Frag} {C : Addr} (h : oexB K C = true) : OexC K C := by
  unfold oexB at h
  simp only [Bool.and_eq_true] at h
  obtain ⟨h1, h2, h3, h4, h5⟩ := h
  refine ⟨?_, oo_ok h2, of_decide_eq_true h3, of_decide_eq_true h4, h5⟩
  split at h1
  · rename_i T dd cd sl ho
    split at h1
    · rename_i C' bm k0 k1 k2 k3 n k5 hm hs
      simp only [Bool.and_eq_true, Bool.not_eq_true'] at h1
      obtain ⟨e1, e2, e3, hdel, hd, hr⟩ := h1
      have e1 : T = "type" := of_decide_eq_true e1
      have e2 : C' = C := of_decide_eq_true e2
      have e3 : n = "ValueError.__new__" := of_decide_eq_true e3
      subst e1 e2 e3
      obtain ⟨nm, bs, mro, ns, qn, hdd, sn, sub, ab, col, del⟩ := cd
      dsimp only at hm hdel hd
      subst hm hdel hd
      have hsl : sl = #[k0, k1, k2, k3, some (.builtin "ValueError.__new__"), k5] := by
        obtain ⟨l⟩ := sl
        simp only at hs
        rw [hs]
      subst hsl
      exact ⟨nm, qn, ns, bs, bm, sn, sub, ab, col, dd, k0, k1, k2, k3, k5, ho, hr⟩
    · cases h1
  · cases h1
/-- __init__ of the class -/
def iniB (K : PySem.W.Frag) (C f : Addr) : Bool := oo (PySem.W.findIn K (.ref C) "__init__") (.ref f) && decide (PySem.W.typeIn K (.ref f) = some (.type "function"))
/-- any special method -/
def spcB (K : PySem.W.Frag) (C : Addr) (m : Str) (f : Addr) : Bool := oo (PySem.W.findIn K (.ref C) m) (.ref f) && PySem.W.isFn K (.ref f)
theorem iniB_ok {K : PySem.W.Frag} {C f : Addr} (h : iniB K C f = true) : PySem.W.findIn K (.ref C) "__init__" = some (some (.ref f)) ∧ PySem.W.typeIn K (.ref f) = some (.type "function") := by
  unfold iniB at h
  rw [Bool.and_eq_true] at h
  exact ⟨oo_ok h.1, of_decide_eq_true h.2⟩
theorem spcB_ok {K : PySem.W.Frag} {C f : Addr} {m : Str} (h : spcB K C m f = true) : PySem.W.findIn K (.ref C) m = some (some (.ref f)) ∧ PySem.W.isFn K (.ref f) = true := by
  unfold spcB at h
  rw [Bool.and_eq_true] at h
  exact ⟨oo_ok h.1, h.2⟩
end Hc
set_option Elab.async false
set_option linter.all false
set_option maxRecDepth 100000
set_option maxHeartbeats 4000000
/-! R10: a method m(self, **rest) called by keywords. -/
namespace Xr
open PySem PySem.Spec PyProof.Rows L2 ClX StX
open PySem.W (dictOf kwEs kwEs_key)
theorem fillKw {prog : Program} {w : World} {A : Around} {E : Value → Shared → Prop} {d : Addr} {Q : PUnit → Shared → Prop} : ∀ (ex : List (Str × Value)) (s : Shared) (es : List DictEntry) (n : Nat), s.heap.get? d = some (dictOf es n) →
    (∀ e ∈ es, ∀ x ∈ ex, e.key.isStr x.1 = false) → (∀ e ∈ es, e.refKey = false) → (ex.map (·.1)).Nodup →
    (∀ h' : Heap, (∀ b, b ≠ d → h'.get? b = s.heap.get? b) → h'.objs.size = s.heap.objs.size → h'.get? d = some (dictOf (es ++ kwEs w.params s.toks ex) (n + ex.length)) → Q ⟨⟩ { s with heap := h', toks := s.toks + ex.length }) →
    wpAny (model prog w) A (forIn ex PUnit.unit fun x _ => (nsSet d x.1 x.2 >>= fun _ => pure (ForInStep.yield PUnit.unit))) Q E s
  | [], s, es, n, D, _, _, _, h => by
    rw [List.forIn_nil]
    refine wpAny_pure (h s.heap (fun _ _ => rfl) rfl ?_)
    show s.heap.get? d = some (dictOf (es ++ []) n)
    rw [List.append_nil]
    exact D
  | x :: r, s, es, n, D, hs, hr, hn, h => by
    obtain ⟨hn1, hn2⟩ := List.nodup_cons.mp (show (x.1 :: r.map (·.1)).Nodup from hn)
    rw [List.forIn_cons]
    have hsx : ∀ e ∈ es, e.key.isStr x.1 = false := fun e he => hs e he x (.head _)
    have e1 : es.any (·.key.isStr x.1) = false := by
      cases q : es.any (·.key.isStr x.1) with
      | false => rfl
      | true => obtain ⟨e, he, z⟩ := List.any_eq_true.mp q; rw [hsx e he] at z; cases z
    have e2 : es.any (·.refKey) = false := by
      cases q : es.any (·.refKey) with
      | false => rfl
      | true => obtain ⟨e, he, z⟩ := List.any_eq_true.mp q; rw [hr e he] at z; cases z
    have e : Obj.putName x.1 (PyData.keyHash w.params x.1) (.str x.1 s.toks) x.2 (dictOf es n) = dictOf (es ++ [⟨PyData.keyHash w.params x.1, .str x.1 s.toks, x.2⟩]) (n + 1) := by
      rw [PySem.W.putName_dict, PySem.W.putL_new hsx]
      show dictOf _ (if es.any (·.key.isStr x.1) then n else n + 1) = _
      rw [e1, if_neg Bool.false_ne_true]
    have c : aRefKeyMayBeTheName x.1 es.toArray = false := by
      rw [aRefKeyMayBeTheName_at, ← Array.any_toList, ← Array.any_toList]
      show (!es.any (·.key.isStr x.1) && es.any (·.refKey)) = false
      rw [e2, Bool.and_false]
    refine wpAny_bind (wpAny_bind ?_)
    unfold nsSet
    refine wpAny_bind (wpAny_bind (wpAny_askSetting (wpAny_pure (wpAny_bind (wpAny_mkText (wpAny_bind (wpAny_loadPart D ?_)))))))
    dsimp only
    rw [c]
    refine wpAny_updatePart D (wpAny_pure ?_)
    refine fillKw r _ (es ++ [⟨PyData.keyHash w.params x.1, .str x.1 s.toks, x.2⟩]) (n + 1) ?_ (fun e he y hy => ?_) (fun e he => ?_) hn2 fun h'' o1 o2 o3 => ?_
    · show (s.heap.update d (Obj.putName x.1 (PyData.keyHash w.params x.1) (.str x.1 s.toks) x.2)).get? d = _
      rw [Heap.get?_update_self _ D (by rw [e]; rfl), e]
    · rcases List.mem_append.mp he with he | he
      · exact hs e he y (.tail _ hy)
      · obtain rfl := List.mem_singleton.mp he
        show (x.1 == y.1) = false
        exact beq_eq_false_iff_ne.mpr fun q => hn1 (by rw [q]; exact List.mem_map_of_mem hy)
    · rcases List.mem_append.mp he with he | he
      · exact hr e he
      · obtain rfl := List.mem_singleton.mp he
        rfl
    · have t1 : s.toks + 1 + r.length = s.toks + (r.length + 1) := by omega
      have t2 : n + 1 + r.length = n + (r.length + 1) := by omega
      have h1 := h h'' (fun b hb => (o1 b hb).trans (Heap.get?_update_other _ _ (Ne.symm hb))) (o2.trans (Heap.size_update _ _ _)) (by
        rw [t2, List.append_assoc] at o3
        exact o3)
      rw [show s.toks + (x :: r).length = s.toks + 1 + r.length by simp only [List.length_cons]; omega] at h1
      exact h1
theorem kwEs_mix {prog : Program} {w : World} : ∀ (ex : List (Str × Value)) (t : Tok), Pairs (mixKind prog w) (kwEs w.params t ex) (ex.map fun q => ((Sum.inr q.1 : Key), q.2))
  | [], _ => Pairs.nil
  | x :: r, t => Pairs.cons (keyIs_str x.1 t) rfl (kwEs_mix r (t + 1))
theorem kwDict {prog : Program} {w : World} {ex : List (Str × Value)} (t : Tok) (n : Nat) (hn : (ex.map (·.1)).Nodup) : (dictOf (kwEs w.params t ex) n).IsDictOf (mixKind prog w) (ex.map fun q => ((Sum.inr q.1 : Key), q.2)) :=
  ⟨(kwEs w.params t ex).toArray, n, ⟨rfl, rfl, rfl⟩, rfl, fun e he => by
    obtain ⟨k, u, hk, hh⟩ := kwEs_key ex t e (List.mem_toArray.mp he)
    exact ⟨.inr k, by rw [hk]; exact keyIs_str k u, hh.trans rfl⟩, kwEs_mix ex t, by
    rw [List.map_map]
    exact List.pairwise_map.mpr (List.pairwise_map.mp hn |>.imp fun h z => h (Sum.inr.inj z))⟩
def kvI (kw : List (Str × V)) : List (Key × V) := kw.map fun q => ((Sum.inr q.1 : Key), q.2)
theorem kvI_rel : ∀ {kw : List (Str × V)} {ku : List (Str × Value)}, RelK kw ku → KV (kvI kw) (ku.map fun q => ((Sum.inr q.1 : Key), q.2))
  | _, _, .nil => .nil
  | _, _, .cons h t => .cons ⟨congrArg Sum.inr h.1, h.2⟩ (kvI_rel t)
/-- the def at f, called with one argument by place and others by keywords, keeps sp: behind the first argument a new dict -/
def FnKw (P : Program) (w : World) (K : PySem.W.Frag) (mg : Str → Option Value) (base : Heap) (CX : CXT) (k : Nat) (f : Addr) (c : Str) (sp : Sp) : Prop :=
  ∀ (A : Around) (outer : List Env) (s : Shared) (H : Hp) (u : Value) (ku : List (Str × Value)) (y : V) (kw : List (Str × V)) (Q : VK) (E : XK), Room k A → Env0 P w K mg base A outer s H → RelV y u → RelK kw ku → (kw.map (·.1)).Nodup → (∀ q ∈ kw, q.1 ≠ c) → kw.length ≤ 1000 →
    (∀ p, H p = none → sp [y, .ref p] (upd H p (.dK (kvI kw))) Q E) → codeAny (model P w) A (.call (.ref f) ⟨[u], ku⟩) (CR CX outer P w H s Q E) s
section
variable {CX : CXT} {P : Program} {w : World} {K : PySem.W.Frag} {mg : Str → Option Value} {base : Heap} {k : Nat} {x qual c a : Str} {params : Arguments} {body : List Stmt} {scope : Scope} {f : Addr} {fd : FuncData} {N : List Str} {sp : Sp}
theorem fn_kwargs (F : FunD K x qual params body scope [] [] f fd) (S : FnScope N [c, a] scope) (hCX : CXUp CX) (h1 : params.posonlyargs.map (·.arg) = []) (h2 : params.args.map (·.arg) = [c]) (h3 : params.kwonlyargs.map (·.arg) = []) (h4 : params.vararg = none) (h5 : ∃ g, params.kwarg = some g ∧ g.arg = a)
    (hbody : ∀ (cdv : Value) (A : Around) (outer : List Env) (s : Shared) (H : Hp) (vs : List V) (Q : VK) (E : XK), Room k (A.deeper (envOfC qual scope s.heap.objs.size f cdv)) → sp vs H Q E →
      ∃ t, PSs (cxOf CX P w K mg base N qual scope f cdv A outer s H E) body t ∧ t { nx := fun _ H' => Q .non H', rt := Q } (start N vs) H) : FnKw P w K mg base CX (k + 1) f c sp := by
  intro A outer s H u ku y kw Q E hr e0 ry rk hnd hc hlen hq
  obtain ⟨oc, od, dV, kV, doc, pm, an, cdv, ct, osl, rfl, lk, hcd, hD, _⟩ := F.ex
  obtain rfl : dV = .none := by
    rcases hD with ⟨_, e⟩ | ⟨e, _⟩
    · exact e
    · exact absurd rfl e
  obtain ⟨g, h5, rfl⟩ := h5
  have hn : H s.heap.objs.size = Option.none := e0.hok.fresh (Nat.le_refl _)
  have hku : ku.map (·.1) = kw.map (·.1) := relK_keys rk
  have hcu : ∀ q ∈ ku, q.1 ≠ c := fun q hm e => by
    have : q.1 ∈ kw.map (·.1) := by rw [← hku]; exact List.mem_map_of_mem hm
    obtain ⟨z, hz, e2⟩ := List.mem_map.mp this
    exact hc z hz (e2.trans e)
  have hklen : ku.length = kw.length := by
    have := congrArg List.length hku
    simpa using this
  refine run_bnd lk hcd S hr e0 (G := fun xs H2 => ∃ p, H p = Option.none ∧ xs = [y, V.ref p] ∧ H2 = upd H p (.dK (kvI kw))) (fun A' Ex Q' h => ?_) fun s2 H2 xs ⟨p, hp, ex, eH⟩ hr' => ?_
  · delta bindArgs
    dsimp only [PySem.W.fnOf]
    rw [h1, h2, h3, h4, h5]
    refine wpAny_bind ?_
    refine wpAny_forIn_list _ (fun rest b s' => s' = s ∧ ∃ done, ku = done ++ rest ∧ b = ([(c, u)], done)) _ ?_ ?_ _ _ ⟨rfl, [], rfl, rfl⟩
    · rintro ⟨k1, v1⟩ rest b s' ⟨rfl, done, he, rfl⟩
      have hne : k1 ≠ c := hcu (k1, v1) (by rw [he]; exact List.mem_append_right _ List.mem_cons_self)
      have hcont : ((([c] : List Str).contains k1 || ([] : List Str).contains k1) = true) = False := by
        simp [hne]
      rw [if_neg (by rw [hcont]; exact id)]
      rw [if_pos (show (some g).isSome = true from rfl)]
      exact wpAny_pure ⟨rfl, done ++ [(k1, v1)], by rw [he]; simp, rfl⟩
    · rintro b s' ⟨rfl, done, he, rfl⟩
      rw [List.append_nil] at he
      subst he
      refine wpAny_bind (seqNone ?_)
      rw [if_neg (by simp)]
      rw [if_neg (by simp [List.lookup])]
      refine wpAny_bind (wpAny_pure ?_)
      dsimp only
      rw [List.forIn_nil]
      refine wpAny_bind (wpAny_pure ?_)
      dsimp only
      have sl : 1000000 ≤ sizeLine := by decide
      rw [if_neg (by simp), if_neg (by omega)]
      refine wpAny_bind (wpAny_alloc ?_)
      have hnd' : (ku.map (·.1)).Nodup := by rw [hku]; exact hnd
      refine wpAny_bind (fillKw ku _ [] 0 (Heap.get?_push_size _ rfl) (fun e he => nomatch he) (fun e he => nomatch he) hnd' fun h' o1 o2 o3 => wpAny_pure ?_)
      have kp : ∀ b o, s'.heap.get? b = some o → h'.get? b = some o := fun b o e => (o1 b (Nat.ne_of_lt (Heap.lt_size e))).trans (Heap.get?_push_of_some _ e)
      have new : ObjOk P w (upd H s'.heap.objs.size (.dK (kvI kw))) h' s'.heap.objs.size (.dK (kvI kw)) :=
        ⟨by unfold kvI; rw [List.length_map]; omega, beq_eq_false_iff_ne.mpr (Ne.symm (Nat.ne_of_lt (env0_big e0))), _, kvI_rel rk, Heap.dictOf_iff.mpr ⟨_, o3, kwDict _ _ hnd'⟩⟩
      have un : Un (frs outer) [] H (upd H s'.heap.objs.size (.dK (kvI kw))) s'.heap h' := Un.laid kp (Nat.le_refl _) hn
      have e2 : Env0 P w K mg base A outer { s' with heap := h', toks := s'.toks + ku.length } (upd H s'.heap.objs.size (.dK (kvI kw))) := by
        refine ⟨e0.frames, e0.mod, fun b x e => ⟨kp b x (e0.bs b x e).1, ?_⟩, ?_, Heap.FunFrames.of_keeps (fun b x e _ => ⟨x, kp b x e, rfl⟩) e0.funs, fun b hb => ?_, e0.hok.laid kp (Nat.le_refl _) new, e0.bare⟩
        · rw [upd_ne (Nat.ne_of_lt (Heap.lt_size (e0.bs b x e).1))]
          exact (e0.bs b x e).2
        · show base.objs.size ≤ h'.objs.size
          rw [o2]
          show base.objs.size ≤ (s'.heap.push _).objs.size
          rw [Heap.size_push]
          exact Nat.le_succ_of_le e0.bsz
        · obtain ⟨_, x, hx, _⟩ := e0.funs.mem hb
          rw [upd_ne (Nat.ne_of_lt (Heap.lt_size hx))]
          exact e0.frf b hb
      have z := h _ _ [y, V.ref s'.heap.objs.size] [u, Value.ref s'.heap.objs.size] e2 un rfl (fun e s'' => hCX outer s' H _ _ E e s'' un kp rfl) (.cons ry (.cons rfl .nil)) rfl ⟨_, hn, rfl, rfl⟩
      have ef : List.filterMap (fun n => Option.map (fun x => (n, x)) (List.lookup n [(c, u)])) ([] ++ [c] ++ []) ++ [(g.arg, Value.ref s'.heap.objs.size)] = [c, g.arg].zip [u, Value.ref s'.heap.objs.size] := by simp [List.lookup]
      rw [ef]
      exact z
  · subst ex eH
    exact hbody cdv A outer s2 _ _ Q E hr' (hq p hp)
end
end Xr
set_option Elab.async false
set_option linter.all false
set_option maxRecDepth 100000
set_option maxHeartbeats 4000000
/-! R11: dict(zip(a, b)) of two tuples. -/
namespace Xr
open PySem PySem.Spec PyProof.Rows L2 ClX StX RZ
section
variable {prog : Program} {w : World} {A : Around} {E : Value → Shared → Prop} {s : Shared}
/-- the two tuples' iterators at turn i, and what stands still -/
structure ZtS (h : Heap) (TI i1 i2 l1 l2 : Addr) (xs ys : Array Value) (i : Nat) : Prop where
  ti : IsPair h TI (.ref i1) (.ref i2)
  h1 : h.IsTupleIter i1 l1 i
  h2 : h.IsTupleIter i2 l2 i
  a1 : h.IsTuple l1 xs
  a2 : h.IsTuple l2 ys
theorem ZtS.keep {h h' : Heap} {TI i1 i2 l1 l2 : Addr} {xs ys : Array Value} {i : Nat} (S : ZtS h TI i1 i2 l1 l2 xs ys i) (k : ∀ b ∈ [TI, i1, i2, l1, l2], ∀ o, h.get? b = some o → h'.get? b = some o) : ZtS h' TI i1 i2 l1 l2 xs ys i :=
  ⟨k TI (by simp) _ S.ti, S.h1.at fun o => k i1 (by simp) o, S.h2.at fun o => k i2 (by simp) o, S.a1.at fun o => k l1 (by simp) o, S.a2.at fun o => k l2 (by simp) o⟩
/-- the first tuple given out is still there: the next pair is a new one -/
theorem zt_next {z TI TO T i1 i2 l1 l2 : Addr} {f : Bool} {oT : Obj} {i : Nat} {xs ys : Array Value} {x y : Value} {Q : Option Value → Shared → Prop} (D : ZipApart z TI TO i1 i2 l1 l2) (hz : IsZipHeld s.heap z TI TO T f) (hT : s.heap.get? T = some oT)
    (S : ZtS s.heap TI i1 i2 l1 l2 xs ys i) (hx : xs[i]? = some x) (hy : ys[i]? = some y)
    (hQ : ∀ h', IsZipHeld h' z TI TO T true → ZtS h' TI i1 i2 l1 l2 xs ys (i + 1) → IsPair h' s.heap.objs.size x y → (∀ c o, c ≠ z → c ≠ i1 → c ≠ i2 → s.heap.get? c = some o → h'.get? c = some o) → Q (some (.ref s.heap.objs.size)) { s with heap := h' }) :
    wpAny (model prog w) A (pyNext (.ref z)) Q E s := by
  have ty : s.TypeIs (.ref z) "zip" := ⟨_, hz, rfl⟩
  unfold pyNext
  refine wpAny_bind (wpAny_attempt (wpAny_callSpecial?_slot (name := Str.ofString "__next__") ty F.slot_zip_next (wpAny_call_entry F.slot_zip_next ty F.entry_zip_next ?_ (F.args_zip_next_1 _))))
  show wpAny _ _ (field (.ref z) 2 >>= _) _ _ _
  refine wpAny_bind (wpAny_field hz rfl (x := .bool false) rfl ?_)
  show wpAny _ _ (field (.ref z) 3 >>= _) _ _ _
  refine wpAny_bind (wpAny_field hz rfl (x := .ref TI) rfl (wpAny_bind (wpAny_seqItems S.ti rfl ?_)))
  show wpAny _ _ (Builtin.SmallTypes.ownedTupleIsFree (.ref z) >>= _) _ _ _
  refine wpAny_bind (wpAny_tupleHeld_zip hz hT fun g1 z1 b1 => ?_)
  rw [if_neg Bool.false_ne_true]
  refine wpAny_bind ?_
  rw [← Array.forIn_toList]
  simp only [List.forIn_cons, List.forIn_nil]
  refine wpAny_bind (wpAny_bind (wpAny_holding ?_))
  show wpAny _ _ (Builtin.SmallTypes.nextOf (.ref i1) >>= _) _ _ _
  refine wpAny_bind (nextOf_tuple_item (s := { s with heap := g1 }) (S.h1.extBut b1.extBut D.i1z) (S.a1.extBut b1.extBut D.l1z) hx fun g2 t1 b2 => wpAny_pure (wpAny_pure (wpAny_bind (wpAny_bind (wpAny_holding ?_)))))
  show wpAny _ _ (Builtin.SmallTypes.nextOf (.ref i2) >>= _) _ _ _
  refine wpAny_bind (nextOf_tuple_item (s := { s with heap := g2 }) ((S.h2.extBut b1.extBut D.i2z).extBut b2.extBut D.i12.symm) ((S.a2.extBut b1.extBut D.l2z).extBut b2.extBut D.l2i1) hy fun g3 t2 b3 => wpAny_pure (wpAny_pure (wpAny_pure ?_)))
  show wpAny _ _ (newTuple [x, y] >>= _) _ _ _
  refine wpAny_bind (wpAny_newTuple (wpAny_pure ⟨_, rfl, wpAny_pure ?_⟩))
  have sz : g3.objs.size = s.heap.objs.size := b3.1.trans (b2.1.trans b1.1)
  have kp : ∀ c o, c ≠ z → c ≠ i1 → c ≠ i2 → s.heap.get? c = some o → (g3.push { cls := .type "tuple", data := .seq #[x, y] }).get? c = some o := fun c o c1 c2 c3 e => Heap.get?_push_of_some _ (b3.extBut _ _ c3 (b2.extBut _ _ c2 (b1.extBut _ _ c1 e)))
  show Q (some (.ref g3.objs.size)) _
  rw [sz]
  refine hQ _ (Heap.get?_push_of_some _ (b3.extBut _ _ D.i2z.symm (b2.extBut _ _ D.i1z.symm z1))) ⟨kp _ _ D.TIz D.TIi1 D.TIi2 S.ti, (t1.extBut b3.extBut D.i12).at fun o e => Heap.get?_push_of_some _ e, t2.at fun o e => Heap.get?_push_of_some _ e, S.a1.at fun o e => kp _ o D.l1z D.l1i1 D.l1i2 e, S.a2.at fun o e => kp _ o D.l2z D.l2i1 D.l2i2 e⟩ ?_ kp
  have e : (g3.push { cls := .type "tuple", data := .seq #[x, y] }).get? g3.objs.size = some { cls := .type "tuple", data := .seq #[x, y] } := Heap.get?_push_size _ rfl
  rw [sz] at e
  exact e
theorem zt_end {z TI TO T i1 i2 l1 l2 : Addr} {f : Bool} {oT : Obj} {i : Nat} {xs ys : Array Value} {Q : Option Value → Shared → Prop} (hh : A.handled = none) (D : ZipApart z TI TO i1 i2 l1 l2) (hz : IsZipHeld s.heap z TI TO T f) (hT : s.heap.get? T = some oT)
    (S : ZtS s.heap TI i1 i2 l1 l2 xs ys i) (hend : xs[i]? = none)
    (hQ : ∀ h', (∀ c o, c ≠ z → c ≠ i1 → c ≠ i2 → s.heap.get? c = some o → h'.get? c = some o) → Q none { s with heap := h' }) : wpAny (model prog w) A (pyNext (.ref z)) Q E s := by
  have ty : s.TypeIs (.ref z) "zip" := ⟨_, hz, rfl⟩
  unfold pyNext
  refine wpAny_bind (wpAny_attempt (wpAny_callSpecial?_slot (name := Str.ofString "__next__") ty F.slot_zip_next (wpAny_call_entry F.slot_zip_next ty F.entry_zip_next ?_ (F.args_zip_next_1 _))))
  show wpAny _ _ (field (.ref z) 2 >>= _) _ _ _
  refine wpAny_bind (wpAny_field hz rfl (x := .bool false) rfl ?_)
  show wpAny _ _ (field (.ref z) 3 >>= _) _ _ _
  refine wpAny_bind (wpAny_field hz rfl (x := .ref TI) rfl (wpAny_bind (wpAny_seqItems S.ti rfl ?_)))
  show wpAny _ _ (Builtin.SmallTypes.ownedTupleIsFree (.ref z) >>= _) _ _ _
  refine wpAny_bind (wpAny_tupleHeld_zip hz hT fun g1 z1 b1 => ?_)
  rw [if_neg Bool.false_ne_true]
  refine wpAny_bind ?_
  rw [← Array.forIn_toList]
  simp only [List.forIn_cons, List.forIn_nil]
  refine wpAny_bind (wpAny_bind (wpAny_holding ?_))
  show wpAny _ _ (Builtin.SmallTypes.nextOf (.ref i1) >>= _) _ _ _
  refine wpAny_bind (nextOf_tuple_end (s := { s with heap := g1 }) hh (S.h1.extBut b1.extBut D.i1z) (S.a1.extBut b1.extBut D.l1z) hend fun g2 e b2 he => ?_)
  obtain ⟨o, ho, hc⟩ := he
  refine wpAny_bind (wpAny_isInstance (T := "StopIteration") (b := true) ⟨o, ho, hc⟩ isSubtype_stop (wpAny_pure (hQ _ fun c o c1 c2 _ x => b2 _ _ c2 (b1.extBut _ _ c1 x))))
/-- zip(l1, l2) of two tuples of one length, as what dict() may be given -/
theorem zt_arg {z TI TO i1 i2 l1 l2 : Addr} (D : ZipApart z TI TO i1 i2 l1 l2) {xs ys : Array Value} (hl : xs.size = ys.size) :
    PairArg prog w "zip" z [z, TI, TO, i1, i2, l1, l2] [z, TO, i1, i2] xs.size (fun i k v => xs[i]? = some k ∧ ys[i]? = some v) (fun h => IsZip h z TI TO .none ∧ (∃ a b, IsPair h TO a b) ∧ ZtS h TI i1 i2 l1 l2 xs ys 0) where
  type := fun s ok => ⟨_, ok.1, rfl⟩
  notDict := by decide
  keep := fun h h' ok k => ⟨k _ _ ok.1, ok.2.1.imp fun a ⟨b, e⟩ => ⟨b, k _ _ e⟩, ok.2.2.keep fun b _ o => k b o⟩
  there := fun h ok b hb => by
    obtain ⟨hz, ⟨a, c, hO⟩, S⟩ := ok
    obtain ⟨o1, e1, _⟩ := S.h1
    obtain ⟨o2, e2, _⟩ := S.h2
    obtain ⟨o3, e3, _⟩ := S.a1
    obtain ⟨o4, e4, _⟩ := S.a2
    have e : b = z ∨ b = TI ∨ b = TO ∨ b = i1 ∨ b = i2 ∨ b = l1 ∨ b = l2 := by simpa using hb
    rcases e with e | e | e | e | e | e | e <;> rw [e]
    · exact ⟨_, hz⟩
    · exact ⟨_, S.ti⟩
    · exact ⟨_, hO⟩
    · exact ⟨_, e1⟩
    · exact ⟨_, e2⟩
    · exact ⟨_, e3⟩
    · exact ⟨_, e4⟩
  sub := fun b hb => by
    have e : b = z ∨ b = TO ∨ b = i1 ∨ b = i2 := by simpa using hb
    rcases e with e | e | e | e <;> rw [e] <;> simp
  noKeys := fun A s Q E hA ok h => getAttrOr_miss_zip ok.1 rfl rfl rfl zip_no_keys (by decide +kernel) hA h
  iter := fun A s d Q E hA ok hd hdf h => by
    obtain ⟨hz, ⟨a, b, hO⟩, S⟩ := ok
    have hdf' : d ≠ z ∧ d ≠ TI ∧ d ≠ TO ∧ d ≠ i1 ∧ d ≠ i2 ∧ d ≠ l1 ∧ d ≠ l2 := by simpa using hdf
    obtain ⟨dz, dT, dO, d1, d2, d3, d4⟩ := hdf'
    have off : ∀ {h h' : Heap} {n : Nat}, ZtS h TI i1 i2 l1 l2 xs ys n → (∀ b o, b ≠ d → h.get? b = some o → h'.get? b = some o) → ZtS h' TI i1 i2 l1 l2 xs ys n := fun S k => S.keep fun b hb o => k b o (by
      have e : b = TI ∨ b = i1 ∨ b = i2 ∨ b = l1 ∨ b = l2 := by simpa using hb
      rcases e with e | e | e | e | e <;> rw [e] <;> exact Ne.symm (by assumption))
    refine wpAny_pyIter_zip hz (h z [z, TO, i1, i2] (fun n g => ZtS g TI i1 i2 l1 l2 xs ys n ∧ ((IsZip g z TI TO .none ∧ ∃ a b, IsPair g TO a b) ∨ ∃ T f oT, IsZipHeld g z TI TO T f ∧ g.get? T = some oT ∧ T ≠ z ∧ T ≠ i1 ∧ T ≠ i2 ∧ T ≠ d)) s.heap s.toks
      ⟨by simp; exact ⟨dz, dO, d1, d2⟩, fun n g g' st k => ⟨off st.1 k, st.2.imp (fun q => ⟨k _ _ (Ne.symm dz) q.1, q.2.imp fun a ⟨b, e⟩ => ⟨b, k _ _ (Ne.symm dO) e⟩⟩) fun ⟨T, f, oT, q1, q2, r1, r2, r3, r4⟩ => ⟨T, f, oT, k _ _ (Ne.symm dz) q1, k _ _ r4 q2, r1, r2, r3, r4⟩⟩, ?_, ?_⟩
      ⟨S, .inl ⟨hz, a, b, hO⟩⟩ (fun _ _ e => e) fun b hb => .inl hb)
    · intro n t Qn En hn st hds q
      obtain ⟨S, st⟩ := st
      obtain ⟨x, hx⟩ : ∃ x, xs[n]? = some x := ⟨_, Array.getElem?_eq_getElem hn⟩
      obtain ⟨y, hy⟩ : ∃ y, ys[n]? = some y := ⟨_, Array.getElem?_eq_getElem (hl ▸ hn)⟩
      have lt : ∀ {c o}, t.heap.get? c = some o → t.heap.objs.size ≠ c := fun e => Nat.ne_of_gt (Heap.lt_size e)
      have n1 : t.heap.objs.size ≠ i1 := let ⟨_, e, _⟩ := S.h1; lt e
      have n2 : t.heap.objs.size ≠ i2 := let ⟨_, e, _⟩ := S.h2; lt e
      rcases st with ⟨kz, a, b, kO⟩ | ⟨T, f, oT, kz, kT, r1, r2, r3, r4⟩
      · refine pyNext_zipT_item D kz S.ti kO S.h1 S.h2 S.a1 S.a2 hx hy fun h' c1 c2 c3 c4 c5 c6 k => ?_
        exact q _ x y h' t.toks ⟨hx, hy⟩ (.inl ⟨_, c5, rfl, _, rfl⟩) ⟨⟨k _ _ D.TIz D.TITO D.TIi1 D.TIi2 S.ti, c3, c4, S.a1.at fun o => k _ o D.l1z D.l1TO D.l1i1 D.l1i2, S.a2.at fun o => k _ o D.l2z D.l2TO D.l2i1 D.l2i2⟩, .inr ⟨_, false, _, c1, c5, lt kz, n1, n2, Nat.ne_of_gt hds⟩⟩
          fun c o hc e => k c o (fun x => hc (by simp [x])) (fun x => hc (by simp [x])) (fun x => hc (by simp [x])) (fun x => hc (by simp [x])) e
      · refine zt_next D kz kT S hx hy fun h' c1 c2 c3 k => ?_
        exact q _ x y h' t.toks ⟨hx, hy⟩ (.inl ⟨_, c3, rfl, _, rfl⟩) ⟨c2, .inr ⟨T, true, oT, c1, k _ _ r1 r2 r3 kT, r1, r2, r3, r4⟩⟩
          fun c o hc e => k c o (fun x => hc (by simp [x])) (fun x => hc (by simp [x])) (fun x => hc (by simp [x])) e
    · intro t Qn En st q
      obtain ⟨S, st⟩ := st
      have hx : xs[xs.size]? = none := Array.getElem?_eq_none (Nat.le_refl _)
      rcases st with ⟨kz, a, b, kO⟩ | ⟨T, f, oT, kz, kT, r1, r2, r3, r4⟩
      · exact pyNext_zipT_end hA D kz S.ti kO S.h1 S.h2 S.a1 S.a2 (.inl hx) fun h' k => q h' t.toks fun c o hc e => k c o (fun x => hc (by simp [x])) (fun x => hc (by simp [x])) (fun x => hc (by simp [x])) (fun x => hc (by simp [x])) e
      · exact zt_end hA D kz kT S hx fun h' k => q h' t.toks fun c o hc e => k c o (fun x => hc (by simp [x])) (fun x => hc (by simp [x])) (fun x => hc (by simp [x])) e
end
/-- the pairs of names and values -/
theorem zt_kv : ∀ {ns : List Str} {zs : List V} {us vs : List Value} {P : Program} {w : World}, Vals (ns.map V.str) us → Vals zs vs → us.length = vs.length →
    ∃ ku : List (Key × Value), KV (kvI (ns.zip zs)) ku ∧ PairsHave (mixKind P w) us.length (fun i k v => us.toArray[i]? = some k ∧ vs.toArray[i]? = some v) ku := by
  intro ns
  induction ns with
  | nil =>
    intro zs us vs P w r q hl
    cases r
    exact ⟨[], .nil, rfl, fun i k v e => by simp at e⟩
  | cons n ns ih =>
    intro zs us vs P w r q hl
    cases r with
    | @cons a u as us h t =>
      cases q with
      | nil => cases hl
      | @cons y v zs vs hy tq =>
        obtain ⟨ku, rk, ek, hk⟩ := ih (P := P) (w := w) t tq (Nat.succ.inj hl)
        refine ⟨(.inr n, v) :: ku, .cons ⟨rfl, hy⟩ rk, congrArg Nat.succ ek, fun i k v' e => ?_⟩
        cases i with
        | zero =>
          obtain ⟨e1, e2⟩ := e
          have e1' : u = k := by simpa using e1
          have e2' : v = v' := by simpa using e2
          subst e1' e2'
          obtain ⟨tk, rfl⟩ := (show ∃ t, u = Value.str n t from h)
          exact ⟨.inr n, rfl, keyIs_str n tk⟩
        | succ i => exact hk i k v' ⟨by simpa using e.1, by simpa using e.2⟩
/-- dict(zip(a, b)), a a tuple of names, b another one as long -/
def tDictZip (K : PySem.W.Frag) (t : TA) : TE := fun σ H Q => t σ H fun vs H1 => ∃ (a b : Addr) (ns : List Str) (zs : List V), vs = [.ref a, .ref b] ∧ SqT K H1 a (ns.map V.str) ∧ SqT K H1 b zs ∧ ns.length = zs.length ∧ ∀ p, H1 p = none → Q (.ref p) (upd H1 p (.dK (mergeK [] (kvI (ns.zip zs)))))
theorem pe_dictZip {X : Cx} {e e2 : Expr} {ta : TA} {p pos p2 pos2 : Pos} (hc : X.calm = true) (hg : Gl X "dict") (hm : X.mg "dict" = none) (hg2 : Gl X "zip") (hm2 : X.mg "zip" = none) (ha : PA X [e, e2] ta)
    (hs : starEach [e, e2] X.env = (false, eval e X.env) :: starEach [e2] X.env := by rfl) (hpl : (backTo pos2 (starEach [e2] X.env)).any (·.1) = false := by rfl)
    (hs1 : starEach [(.Call (.Name "zip" p2) [e, e2] [] pos2)] X.env = (false, eval (.Call (.Name "zip" p2) [e, e2] [] pos2) X.env) :: starEach [] X.env := by rfl) :
    PE X (.Call (.Name "dict" p) [.Call (.Name "zip" p2) [e, e2] [] pos2] [] pos) (tDictZip X.K ta) := by
  refine ⟨fun pins s σ H R I h => ?_⟩
  refine wpAny_Call_Name_kw (ld_blt I hg hm PyProof.Rows.boot_dict ?_)
  refine PyProof.Rows.callWith_type1 ?_ hs1 rfl
  rw [hs1]
  show wpAny _ _ (spliced ((false, eval (.Call (.Name "zip" p2) [e, e2] [] pos2) X.env) :: backTo pos (starEach [] X.env))) _ _ s
  refine Calls.spliced_cons ?_
  refine Call_ (ld_blt I hg2 hm2 PyProof.Rows.boot_zip (PyProof.Rows.callWith_type1 (thn (ha.run pos2 pins s σ H _ I h) fun us s1 ⟨vs, H1, I1, r1, q1⟩ => ?_) hs hpl))
  obtain ⟨a, b, ns, zs, ex, ta', tb', hl, q⟩ := q1
  subst ex
  obtain ⟨u, v, eu, ru, rv⟩ := vals2 r1
  subst eu
  cases ru
  cases rv
  obtain ⟨its, r2, p1, z1⟩ := I1.tuple ta'
  obtain ⟨its2, r3, p2', z2⟩ := I1.tuple tb'
  obtain ⟨o1, ho1, _⟩ := id p1
  obtain ⟨o2, ho2, _⟩ := id p2'
  have el : its.length = its2.length := by rw [← r2.length, ← r3.length, List.length_map, hl]
  refine call_zipT (show s1.heap.IsTuple a its.toArray from p1) (show s1.heap.IsTuple b its2.toArray from p2') fun h' hz hTI hTO h1 h2 hsz hk => ?_
  have D := PySem.W.ktu_apart s1.heap.objs.size a b (Heap.lt_size ho1) (Heap.lt_size ho2)
  have I2 : Inv X pins σ H1 { s1 with heap := h' } := I1.kept (t' := s1.toks) hk
  refine Calls.spliced_nil ?_
  obtain ⟨ku, rk, hp⟩ := zt_kv (P := X.prog) (w := X.w) r2 r3 el
  have ex : its.toArray.size = its.length := by simp
  have hp' : PairsHave (mixKind X.prog X.w) its.toArray.size (fun i k v => its.toArray[i]? = some k ∧ its2.toArray[i]? = some v) ku := by rw [ex]; exact hp
  refine PySem.call_dict_pairs (zt_arg D (xs := its.toArray) (ys := its2.toArray) (by simp [el])) (I2.ok.hd hc) ⟨hz, ⟨_, _, hTO⟩, hTI, h1, h2, Heap.IsTuple.at (h := s1.heap) p1 fun o e => hk _ o e, Heap.IsTuple.at (h := s1.heap) p2' fun o e => hk _ o e⟩ hp' ?_ fun h2 tk hd k => ?_
  · rw [ex, ← r2.length]; exact z1
  · have hb : (h'.objs.size == sysModules) = false := beq_eq_false_iff_ne.mpr (Nat.ne_of_gt I2.big)
    have hle : s1.heap.objs.size ≤ h'.objs.size := by rw [hsz]; omega
    have hlen : (mergeK [] (kvI (ns.zip zs))).length ≤ sizeLine := by
      refine Nat.le_trans (length_mergeK _ []) ?_
      have e1 : (kvI (ns.zip zs)).length = its.length := by rw [rk.length, hp.1]
      have e2 : its.length ≤ sizeLine := by rw [← r2.length]; exact z1
      rw [e1]
      simpa using e2
    refine ⟨.ref h'.objs.size, upd H1 h'.objs.size (.dK (mergeK [] (kvI (ns.zip zs)))), I1.laid (t' := tk) (fun c o e => k c o ?_ (hk _ _ e)) hle (show ObjOk X.prog X.w _ _ _ (.dK (mergeK [] (kvI (ns.zip zs)))) from ⟨hlen, hb, merged [] ku, KV.merge rk .nil, hd⟩), rfl, q _ (I1.hok.fresh hle)⟩
    have lt : c < s1.heap.objs.size := Heap.lt_size e
    intro hm
    have hm' : c = s1.heap.objs.size + 4 ∨ c = s1.heap.objs.size + 3 ∨ c = s1.heap.objs.size ∨ c = s1.heap.objs.size + 1 := by simpa using hm
    have l2 : @LT.lt Nat _ c s1.heap.objs.size := lt
    rcases hm' with z | z | z | z
    · have z2 : @Eq Nat c (s1.heap.objs.size + 4) := z
      omega
    · have z2 : @Eq Nat c (s1.heap.objs.size + 3) := z
      omega
    · have z2 : @Eq Nat c s1.heap.objs.size := z
      omega
    · have z2 : @Eq Nat c (s1.heap.objs.size + 1) := z
      omega
end Xr
set_option Elab.async false
set_option linter.all false
set_option maxRecDepth 100000
set_option maxHeartbeats 4000000
/-! R12: {**a, **b}. -/
namespace Xr
open PySem PySem.Spec PyProof.Rows L2 ClX StX
section
variable {X : Cx} {pins : List (Addr × Obj)} {σ : L2.St} {H : Hp} {s : Shared}
/-- the dict at a, merged into the one at d -/
theorem mergeD {d a : Addr} {kd ka : List (Key × V)} {Q : Unit → Shared → Prop} {E : Value → Shared → Prop} (I : Inv X pins σ H s) (hd : H d = some (.dK kd)) (ha : H a = some (.dK ka)) (hne : a ≠ d) (hsz : kd.length + ka.length ≤ sizeLine)
    (h : ∀ h', Inv X pins σ (upd H d (.dK (mergeK kd ka))) { s with heap := h' } → Q () { s with heap := h' }) : wpAny (model X.prog X.w) X.A (mergeMapping d (.ref a) false) Q E s := by
  obtain ⟨z, hS, vs, rel, dd⟩ := dk_of I.hok ha
  obtain ⟨z0, hS0, vs0, rel0, dd0⟩ := dk_of I.hok hd
  refine wpAny_mergeMapping (fun q => hne q.symm) hS dd0 dd (fun e => nomatch e) (fun h' hd' hs' => h h' ?_) (by rw [← rel0.length, ← rel.length]; exact hsz)
  have hex : ∃ u, h'.get? d = some u := by
    obtain ⟨o, _, _, ho, _⟩ := hd'
    exact ⟨o, ho⟩
  exact I.write (t' := s.toks) (x := d) (e := d) (o := .dK (mergeK kd ka)) (by rw [hd]; exact True.intro) (.inl rfl) (fun b u hb q => (hs'.2 b hb).trans q) hex ⟨Nat.le_trans (length_mergeK ka kd) hsz, hS0, _, rel.merge rel0, hd'⟩
end
/-- {**a, **b}: a new dict, which a and b are merged into -/
def tMerge2 (ta tb : TE) : TE := fun σ H Q => ∀ d, H d = none → ta σ (upd H d (.dK [])) fun x H1 => H1 d = some (.dK []) ∧ ∃ a ka, x = .ref a ∧ a ≠ d ∧ H1 a = some (.dK ka) ∧ ka.length ≤ 1000 ∧
  tb σ (upd H1 d (.dK (mergeK [] ka))) fun y H2 => H2 d = some (.dK (mergeK [] ka)) ∧ ∃ b kb, y = .ref b ∧ b ≠ d ∧ H2 b = some (.dK kb) ∧ kb.length ≤ 1000 ∧ Q (.ref d) (upd H2 d (.dK (mergeK (mergeK [] ka) kb)))
theorem pe_merge2 {X : Cx} {e1 e2 : Expr} {ta tb : TE} {pos : Pos} (ha : PE X e1 ta) (hb : PE X e2 tb) : PE X (.Dict [none, none] [e1, e2] pos) (tMerge2 ta tb) := by
  refine ⟨fun pins s σ H Q I h => ?_⟩
  have sl : 1000000 ≤ sizeLine := by decide
  have hn : H s.heap.objs.size = none := I.hok.fresh (Nat.le_refl _)
  have I1 : Inv X pins σ (upd H s.heap.objs.size (.dK [])) { s with heap := s.heap.push { cls := .type "dict", data := .dict #[] } } :=
    I.laid (t' := s.toks) (fun b u q => Heap.get?_push_of_some _ q) (Nat.le_refl _) (dk_empty _ I.big)
  have e : eval (.Dict [none, none] [e1, e2] pos) X.env = (do
      standAt pos
      dictDisplay [(none, do let x ← eval e1 X.env; standAt pos; pure x), (none, do let x ← eval e2 X.env; standAt pos; pure x)]) := by rfl
  rw [e]
  refine wpAny_bind (wpAny_standAt ?_)
  unfold dictDisplay
  simp only [List.forIn_cons, List.forIn_nil, List.isEmpty_nil, if_true]
  refine wpAny_bind (wpAny_bind (wpAny_bind (wpAny_pure ?_)))
  dsimp only
  refine wpAny_bind (wpAny_alloc (wpAny_bind (wpAny_holding (wpAny_bind (thn (ha.run pins _ σ _ _ I1 (h _ hn)) fun v s1 ⟨x, H1, I2, rx, hd, a, ka, ex, hne, ea, hl, q1⟩ => ?_)))))
  subst ex
  obtain rfl : v = Value.ref a := rx
  refine wpAny_bind (wpAny_standAt (wpAny_pure (wpAny_bind (wpAny_onRaise (wpAny_tryCatch (wpAny_onRaise (wpAny_holding (mergeD I2 hd ea hne (by rw [List.length_nil]; omega) fun h1 I3 => ?_))))))))
  refine wpAny_pure ?_
  dsimp only
  refine wpAny_bind (wpAny_bind ?_)
  rw [if_pos (by rfl)]
  refine wpAny_pure ?_
  dsimp only
  refine wpAny_bind (wpAny_pure (wpAny_bind (wpAny_holding (wpAny_bind (thn (hb.run pins _ σ _ _ I3 q1) fun v s2 ⟨y, H2, I4, ry, hd2, b, kb, ey, hne2, eb, hl2, q2⟩ => ?_)))))
  subst ey
  obtain rfl : v = Value.ref b := ry
  have lk : (mergeK [] ka).length ≤ 1000 := Nat.le_trans (length_mergeK ka []) (by rw [List.length_nil]; omega)
  refine wpAny_bind (wpAny_standAt (wpAny_pure (wpAny_bind (wpAny_onRaise (wpAny_tryCatch (wpAny_onRaise (wpAny_holding (mergeD I4 hd2 eb hne2 (by omega) fun h2 I5 => ?_))))))))
  refine wpAny_pure ?_
  dsimp only
  refine wpAny_pure ?_
  dsimp only
  refine wpAny_bind ?_
  rw [if_pos (by rfl)]
  refine wpAny_pure (wpAny_pure ⟨.ref s.heap.objs.size, _, I5, rfl, q2⟩)
end Xr
set_option Elab.async false
set_option linter.all false
set_option maxRecDepth 100000
set_option maxHeartbeats 4000000
/-! R13: o.m(k = v, ..), m a def m(self, **rest). -/
namespace Xr
open PySem PySem.Spec PyProof.Rows L2 ClX StX
/-- o.m(k = v, ..) -/
def tMethKw (C : Addr) (m : Str) (ks : List Str) (sp : Sp) (E : XK) (ta : TE) (tk : TA) : TE := fun σ H Q => ta σ H fun x H1 => ∃ a dx fs, x = .ref a ∧ H1 a = some (.ins C dx fs) ∧ fs.lookup m = none ∧
  tk σ H1 fun zs H2 => zs.length = ks.length ∧ ∀ p, H2 p = none → sp [.ref a, .ref p] (upd H2 p (.dK (kvI (ks.zip zs)))) Q E
theorem pe_methKw {X : Cx} {CX : CXT} {k : Nat} {C f : Addr} {c m : Str} {sp : Sp} {E : XK} {o : Expr} {pos apos : Pos} {ta : TE} {tk : TA} {kws : List Keyword} {ks : List Str} {pl : Sem Bool} (he : PE X o ta) (cl : Cls X.K C) (hm : Meth X.K C m f)
    (F : FnKw X.prog X.w X.K X.mg X.base CX k f c sp) (hr : Room k X.A) (hx : Passes CX X E) (hkw : PK X kws tk) (hnd : ks.Nodup) (hc : c ∉ ks) (hlen : ks.length ≤ 1000)
    (hall : (backToKw pos (keywordEach kws X.env)).all (·.1.isSome) = true := by rfl) (hks : (backToKw pos (keywordEach kws X.env)).filterMap (·.1) = ks := by rfl)
    (hpl : ((backTo pos (starEach [] X.env)).any (·.1) || (backToKw pos (keywordEach kws X.env)).any (·.1.isNone)) = false := by rfl)
    (ht : eval (.Call (.Attribute o m apos) [] kws pos) X.env = (do
      let ov ← eval o X.env
      standAt apos.atName
      let (f, first) ← holding [ov] (getMethod ov m pl)
      callWith pos f first (backTo pos (starEach [] X.env)) (backToKw pos (keywordEach kws X.env))) := by rfl) :
    PE X (.Call (.Attribute o m apos) [] kws pos) (tMethKw C m ks sp E ta tk) := by
  refine ⟨fun pins s σ H Q I h => ?_⟩
  refine PySem.W.methodCall_KW (pl := pl) (thn (he.run pins s σ H _ I h) fun u s1 ⟨x, H1, I1, rx, a, dx, fs, ex, ea, l, q⟩ => ?_) ht
  subst ex
  obtain rfl : u = Value.ref a := rx
  refine getmeth_ok I1 ea cl hm l ?_
  refine PySem.W.callWith_KW0 (first := [.ref a]) (h₀ := X.base) I.ok.mod.kin hm.kp hall (thn (hkw.run pos pins s1 σ H1 _ I1 q) fun ws s3 ⟨zs, H3, I3, rz, hl, hsp⟩ => ⟨I3.kIn, ?_⟩) hpl
  rw [hks]
  have zf : (ks.zip zs).map (·.1) = ks := zip_fst hl
  refine wpAny_call (codeAny_mono (F X.A X.stack s3 H3 (.ref a) (ks.zip ws) (.ref a) (ks.zip zs) Q E hr I3.env0 rfl (relK_zip rz) (by rw [zf]; exact hnd) (fun q hq e => hc ?_) ?_ hsp) fun r s' hq => ?_)
  · rw [← e, ← zf]
    exact List.mem_map_of_mem hq
  · have e := congrArg List.length zf
    rw [List.length_map] at e
    rw [e]
    exact hlen
  · cases r with
    | error e => exact hx _ σ H3 s3 e s' I3 hq
    | ok fl =>
      cases fl with
      | ret u => exact I3.after hq
      | next => exact False.elim hq
      | brk => exact False.elim hq
      | cont => exact False.elim hq
end Xr
set_option Elab.async false
set_option linter.all false
set_option maxRecDepth 100000
set_option maxHeartbeats 4000000
/-! R14: dicts of names, some of them exchanged. -/
namespace Xr
open PySem PySem.Spec PyProof.Rows L2 ClX StX
theorem kwV_kvI : ∀ kw : List (Str × V), kwV (kvI kw) = some kw
  | [] => rfl
  | (x, v) :: r => by
    show (kwV (kvI r)).map ((x, v) :: ·) = _
    rw [kwV_kvI r]; rfl
theorem merge_app : ∀ (more kvs : List (Key × V)), ((kvs ++ more).map (·.1)).Nodup → mergeK kvs more = kvs ++ more
  | [], kvs, _ => by rw [List.append_nil]; rfl
  | p :: r, kvs, h => by
    have e : kvs ++ p :: r = (kvs ++ [p]) ++ r := by rw [List.append_assoc]; rfl
    have hn : (kvs.any fun kv => decide (kv.1 = p.1)) = false := by
      rw [List.any_eq_false]
      intro kv hm z
      rw [List.map_append, List.nodup_append] at h
      exact h.2.2 kv.1 (List.mem_map_of_mem hm) p.1 (by rw [List.map_cons]; exact List.mem_cons_self ..) (of_decide_eq_true z)
    show mergeK (putK kvs p.1 p.2) r = _
    unfold putK
    rw [hn, if_neg Bool.false_ne_true, e]
    exact merge_app r _ (by rw [← e]; exact h)
theorem zip_miss (n : Str) (v : V) : ∀ (ns : List Str) (xs : List V), n ∉ ns → (kvI (ns.zip xs)).map (fun kv => if kv.1 = (Sum.inr n : Key) then (kv.1, v) else kv) = kvI (ns.zip xs)
  | [], _, _ => rfl
  | m :: ns, [], _ => rfl
  | m :: ns, x :: xs, h => by
    have h1 : ¬ ((Sum.inr m : Key) = Sum.inr n) := fun e => h (by rw [← Sum.inr.inj e]; exact List.mem_cons_self ..)
    show (if (Sum.inr m : Key) = Sum.inr n then ((Sum.inr m : Key), v) else ((Sum.inr m : Key), x)) :: (kvI (ns.zip xs)).map _ = _
    rw [if_neg h1, zip_miss n v ns xs fun e => h (List.mem_cons_of_mem _ e)]
    rfl
theorem zip_hit (n : Str) (v : V) : ∀ (ns : List Str) (xs : List V) (i : Nat), ns.Nodup → xs.length = ns.length → ns[i]? = some n → (kvI (ns.zip xs)).map (fun kv => if kv.1 = (Sum.inr n : Key) then (kv.1, v) else kv) = kvI (ns.zip (xs.set i v))
  | [], _, i, _, _, h => by simp at h
  | m :: ns, [], i, _, hl, _ => by cases hl
  | m :: ns, x :: xs, 0, hn, hl, h => by
    have e : m = n := by simpa using h
    subst e
    show (if (Sum.inr m : Key) = Sum.inr m then ((Sum.inr m : Key), v) else ((Sum.inr m : Key), x)) :: (kvI (ns.zip xs)).map _ = _
    rw [if_pos rfl, zip_miss m v ns xs (List.nodup_cons.mp hn).1]
    rfl
  | m :: ns, x :: xs, i + 1, hn, hl, h => by
    obtain ⟨hn1, hn2⟩ := List.nodup_cons.mp hn
    have hi : ns[i]? = some n := by simpa using h
    have h1 : ¬ ((Sum.inr m : Key) = Sum.inr n) := fun e => hn1 (by rw [Sum.inr.inj e]; exact List.mem_of_getElem? hi)
    show (if (Sum.inr m : Key) = Sum.inr n then ((Sum.inr m : Key), v) else ((Sum.inr m : Key), x)) :: (kvI (ns.zip xs)).map _ = _
    rw [if_neg h1, zip_hit n v ns xs i hn2 (Nat.succ.inj hl) hi]
    rfl
theorem kvI_keys (ns : List Str) (xs : List V) (hl : xs.length = ns.length) : (kvI (ns.zip xs)).map (·.1) = ns.map Sum.inr := by
  unfold kvI
  rw [List.map_map]
  have e := zip_fst (ks := ns) (zs := xs) hl
  rw [show ((fun x : Key × V => x.1) ∘ fun q : Str × V => ((Sum.inr q.1 : Key), q.2)) = (fun n => (Sum.inr n : Key)) ∘ (·.1) from rfl, ← List.map_map, e]
theorem put_zip {ns : List Str} {xs : List V} {i : Nat} {n : Str} (v : V) (hn : ns.Nodup) (hl : xs.length = ns.length) (h : ns[i]? = some n) : putK (kvI (ns.zip xs)) (.inr n) v = kvI (ns.zip (xs.set i v)) := by
  unfold putK
  rw [if_pos]
  · exact zip_hit n v ns xs i hn hl h
  · rw [List.any_eq_true]
    have hm : (Sum.inr n : Key) ∈ (kvI (ns.zip xs)).map (·.1) := by
      rw [kvI_keys ns xs hl]
      exact List.mem_map_of_mem (List.mem_of_getElem? h)
    obtain ⟨kv, hm, e⟩ := List.mem_map.mp hm
    exact ⟨kv, hm, decide_eq_true e⟩
theorem merge_self {ns : List Str} {xs : List V} (hn : ns.Nodup) (hl : xs.length = ns.length) : mergeK [] (kvI (ns.zip xs)) = kvI (ns.zip xs) :=
  merge_app (kvI (ns.zip xs)) [] (by
    rw [List.nil_append, kvI_keys ns xs hl]
    exact List.pairwise_map.mpr (hn.imp fun h z => h (Sum.inr.inj z)))
/-- parts exchanged, by their places -/
def setAll (xs : List V) (is : List (Nat × V)) : List V := is.foldl (fun xs iv => xs.set iv.1 iv.2) xs
def kwOfI (ns : List Str) (is : List (Nat × V)) : List (Str × V) := is.map fun iv => (ns.getD iv.1 "", iv.2)
theorem setAll_len : ∀ (is : List (Nat × V)) (xs : List V), (setAll xs is).length = xs.length
  | [], xs => rfl
  | iv :: is, xs => by
    show (setAll (xs.set iv.1 iv.2) is).length = _
    rw [setAll_len is, List.length_set]
theorem merge_set {ns : List Str} (hn : ns.Nodup) : ∀ (is : List (Nat × V)) (xs : List V), xs.length = ns.length → (∀ iv ∈ is, iv.1 < ns.length) → mergeK (kvI (ns.zip xs)) (kvI (kwOfI ns is)) = kvI (ns.zip (setAll xs is))
  | [], xs, _, _ => rfl
  | iv :: is, xs, hl, hi => by
    have h0 : ns[iv.1]? = some (ns.getD iv.1 "") := by
      rw [List.getD_eq_getElem?_getD, List.getElem?_eq_getElem (hi iv (List.mem_cons_self ..))]; rfl
    show mergeK (putK (kvI (ns.zip xs)) (.inr (ns.getD iv.1 "")) iv.2) (kvI (kwOfI ns is)) = kvI (ns.zip (setAll (xs.set iv.1 iv.2) is))
    rw [put_zip iv.2 hn hl h0]
    exact merge_set hn is _ (by rw [List.length_set]; exact hl) fun x hx => hi x (List.mem_cons_of_mem _ hx)
end Xr
set_option Elab.async false
set_option linter.all false
set_option maxRecDepth 100000
set_option maxHeartbeats 4000000
/-! R15: a def called in an except suite, that needs no more than its arguments there. -/
namespace Xr
open PySem PySem.Spec PyProof.Rows L2 ClX StX
/-- the def at f keeps sp while p's exception is handled, and lets nothing out -/
structure FnQ (P : Program) (w : World) (K : PySem.W.Frag) (mg : Str → Option Value) (base : Heap) (k : Nat) (f : Addr) (fd : FuncData) (ps : List Str) (sp : Sp) : Prop where
  len : ∀ vs H Q E, sp vs H Q E → vs.length = ps.length
  run : ∀ (A : Around) (outer : List Env) (s : Shared) (H : Hp) (args : Args) (us : List Value) (vs : List V) (Q : VK) (E : XK) (p : Addr × Obj), Room k A → L2H.PinOk outer H s p → (∃ vs, p.2.data = .fields vs) → Env0 P w K mg base A outer s H → BindsTo s fd args (ps.zip us) → Vals vs us → sp vs H Q E →
    codeAny (model P w) (A.mark (some (.ref p.1))) (.call (.ref f) args) (CR CX0 outer P w H s Q E) s
section
variable {P : Program} {w : World} {K : PySem.W.Frag} {mg : Str → Option Value} {base : Heap} {x qual : Str} {params : Arguments} {body : List Stmt} {scope : Scope} {dvs : List V} {kws : List (Str × V)} {f : Addr} {fd : FuncData}
theorem fn_q {N ps : List Str} {k : Nat} {sp : Sp} (F : FunD K x qual params body scope dvs kws f fd) (S : FnScope N ps scope) (len : ∀ vs H Q E, sp vs H Q E → vs.length = ps.length)
    (hbody : ∀ (cdv : Value) (A : Around) (outer : List Env) (s : Shared) (H : Hp) (vs : List V) (Q : VK) (E : XK) (p : Addr × Obj), Room k (A.deeper (envOfC qual scope s.heap.objs.size f cdv)) → sp vs H Q E →
      ∃ t, PSs ((cxOf CX0 P w K mg base N qual scope f cdv A outer s H E).suite p.1 [p]) body t ∧ t { nx := fun _ H' => Q .non H', rt := Q } (start N vs) H) : FnQ P w K mg base (k + 1) f fd ps sp := by
  obtain ⟨oc, od, dV, kV, doc, pm, an, cdv, ct, osl, rfl, lk, hcd, _, _⟩ := F.ex
  refine ⟨len, fun A outer s H args us vs Q E p hr hpin hfl e0 hb r hsp => ?_⟩
  have hl := len _ _ _ _ hsp
  have KX : K.In s.heap := e0.mod.kin.keeps fun b o e => (e0.bs b o e).1
  have lim : s.heap.NoLimit := e0.mod.nolimit.keeps fun b o e => (e0.bs b o e).1
  have hkind : ∀ y ∈ ps.zip us, scope.names.lookup y.1 = some .local ∨ (scope.names.lookup y.1 = some .cell ∧ ((cellsFrom (s.heap.objs.size + 1) scope.names []).lookup y.1).isSome = true) := fun ⟨n, v⟩ hy =>
    (S.par n (List.of_mem_zip hy).1).imp id fun q => ⟨q, PySem.W.cellsFrom_some _ _ _ (.inl q)⟩
  refine codeAny_call_function (show (A.mark (some (.ref p.1))).depth < recursionLimit from hr.depth) (KX _ _ lk) rfl S.co S.gen rfl (PySem.W.codeRec_of KX hcd) (hb _ _ _ _ ?_)
  refine wpAny_newFunctionEnv_cells S.kind hkind fun env he s1 y => ?_
  subst he
  refine ⟨lim.keeps y.toInCall.keep, codeAny_func ?_⟩
  obtain ⟨t, ht, hq⟩ := hbody cdv A outer s H vs Q E p (hr.deeper _) hsp
  have I0 := inv_start (CX := CX0) (E := E) S hr.hd e0 hl r y
  obtain ⟨vs0, hd0⟩ := hfl
  have I := I0.suite (a := p.1) (oe := p.2) (y.toInCall.keep _ _ hpin.get) hd0 hpin.free (Nat.ne_of_lt (Heap.lt_size hpin.get)) hpin.nofs
  refine wpAny_mono (ht.run [] s1 (start N vs) H _ I hq) (fun fl s' hs => ?_) fun e s' hs => hs.elim
  cases fl with
  | ret u =>
    obtain ⟨v, σ', H', J, rv, q⟩ := hs
    exact ⟨v, H', J.os, J.bare, J.base, J.hok, rv, q⟩
  | next =>
    obtain ⟨σ', H', J, q⟩ := hs
    exact ⟨.non, H', J.os, J.bare, J.base, J.hok, rfl, q⟩
  | brk =>
    obtain ⟨_, _, _, q⟩ := hs
    exact False.elim q
  | cont =>
    obtain ⟨_, _, _, q⟩ := hs
    exact False.elim q
end
def tCallQ (sp : Sp) (t : TA) : TE := fun σ H Q => t σ H fun vs H1 => sp vs H1 Q E0
section
variable {X : Cx} {a : Addr} {oe : Obj} {pn : List (Addr × Obj)} {k : Nat} {f : Addr} {fd : FuncData} {ps : List Str} {sp : Sp} {x : Str} {q pos : Pos} {e : Expr} {es : List Expr} {t : TA}
theorem run_fnQ {pins : List (Addr × Obj)} {σ : L2.St} {H : Hp} {s : Shared} {Q : VK} {us : List Value} {vs : List V} (F : FnQ X.prog X.w X.K X.mg X.base k f fd ps sp) (hr : Room k X.A) (hfl : ∃ vs, oe.data = .fields vs) (hb : Binds X.K fd ps [])
    (I : Inv (X.suite a ((a, oe) :: pn)) pins σ H s) (r : Vals vs us) (h : sp vs H Q E0) : wpAny (model X.prog X.w) (X.A.mark (some (.ref a))) (call (.ref f) us) (EP (X.suite a ((a, oe) :: pn)) pins σ Q) (fun _ _ => False) s := by
  have hl : us.length = ps.length := by rw [← r.length]; exact F.len _ _ _ _ h
  have b := hb s us I.kIn (by rw [List.append_nil]; exact hl)
  rw [List.append_nil] at b
  have P1 := I.pin (a, oe) (List.mem_append_left _ List.mem_cons_self)
  have hpin : L2H.PinOk X.stack H s (a, oe) := ⟨P1.1, P1.2.1, fun hm => (List.mem_cons.mp (I.stkSub a hm)).elim P1.2.2.1 P1.2.2.2.1, P1.2.2.2.2⟩
  have e0 : Env0 X.prog X.w X.K X.mg X.base X.A X.stack s H := by
    have e1 := I.env0
    exact ⟨e1.frames, e1.mod, e1.bs, e1.bsz, e1.funs, e1.frf, e1.hok, e1.bare⟩
  refine wpAny_call (codeAny_mono (F.run X.A X.stack s H ⟨us, []⟩ us vs Q E0 (a, oe) hr hpin hfl e0 b r h) fun r s' hq => ?_)
  cases r with
  | error e => exact hq.elim
  | ok fl =>
    cases fl with
    | ret u => exact I.after hq
    | next => exact False.elim hq
    | brk => exact False.elim hq
    | cont => exact False.elim hq
theorem pe_callQ (F : FnQ X.prog X.w X.K X.mg X.base k f fd ps sp) (hr : Room k X.A) (hfl : ∃ vs, oe.data = .fields vs) (hg : Gl X x) (hm : X.mg x = some (.ref f)) (hk : PySem.W.keepIn X.K (.ref f) = true) (hb : Binds X.K fd ps [])
    (ha : PA (X.suite a ((a, oe) :: pn)) (e :: es) t) (hdb : (x == ("__debug__" : Str)) = false := by decide) (he : starEach (e :: es) X.env = (false, eval e X.env) :: starEach es X.env := by rfl) (hpl : (backTo pos (starEach es X.env)).any (·.1) = false := by rfl) :
    PE (X.suite a ((a, oe) :: pn)) (.Call (.Name x q) (e :: es) [] pos) (tCallQ sp t) := by
  refine ⟨fun pins s σ H Q I h => ?_⟩
  refine wpAny_Call_Name_kw (ld_glob (X := X.suite a ((a, oe) :: pn)) I hg hm ?_ hdb)
  refine PySem.W.callWith_K (h₀ := X.base) I.ok.mod.kin hk (thn (ha.run pos pins s σ H _ I h) fun us s1 ⟨vs, H1, I1, r, q⟩ => ⟨I1.kIn, ?_⟩) he hpl
  exact run_fnQ (X := X) (a := a) (oe := oe) (pn := pn) F hr hfl hb I1 r q
end
end Xr
set_option Elab.async false
set_option linter.all false
set_option maxRecDepth 100000
set_option maxHeartbeats 4000000
/-! R16: except clauses one after another, each by a test (a class, a pair of classes), with or without a name. -/
namespace Xr
open PySem PySem.Spec PyProof.Rows L2 ClX StX
/-- the exception at a has landed in X, over the state sI -/
structure Fly (X : Cx) (pins : List (Addr × Obj)) (a : Addr) (B : Heap) (sI s : Shared) (σ : L2.St) (H : Hp) (cls : Value) (d : Option Addr) : Prop where
  J : Inv X pins σ H sI
  nb : ∀ b o, sI.heap.get? b = some o → b ∉ frs X.stack → B.get? b = some o
  up : sI.heap.UpToSlots s.heap
  fl : HandSPX.FlyingZ B (X.env :: X.outer) a (Zc cls d) s.heap
  na : H a = none
  os : s.os = sI.os
  ag : AllBare s.gens
section
variable {X : Cx} {pins : List (Addr × Obj)} {a : Addr} {B : Heap} {sI s : Shared} {σ : L2.St} {H : Hp} {cls : Value} {d : Option Addr}
theorem Fly.inv (F : Fly X pins a B sI s σ H cls d) : Inv X pins σ H s := F.J.landed F.nb F.fl.1 F.up F.os F.ag
theorem Fly.keeps {h' : Heap} {t : Nat} (F : Fly X pins a B sI s σ H cls d) (k : ∀ b o, s.heap.get? b = some o → h'.get? b = some o) : Fly X pins a B sI { s with heap := h', toks := t } σ H cls d := by
  obtain ⟨k1, k2, k3, oe, vs, T, oT, ts, e1, e2, e3, e4, e5, e6, e7, e8, e9⟩ := F.fl
  exact ⟨F.J, F.nb, F.up.trans (Heap.UpToSlots.of_keeps k), ⟨fun b o e => k b o (k1 b o e), k2, Heap.FunFrames.of_keeps (fun b x e _ => ⟨x, k b x e, rfl⟩) k3, oe, vs, T, oT, ts, k _ _ e1, e2, e3, e4, e5, e6, k _ _ e7, e8, e9⟩, F.na, F.os, F.ag⟩
theorem Fly.suite (hf : X.env.frame = some X.env.locals) (F : Fly X pins a B sI s σ H cls d) : ∃ oe vs, s.heap.get? a = some oe ∧ Zc cls d oe ∧ oe.data = .fields vs ∧ Inv (X.suite a ((a, oe) :: (X.pn ++ pins))) [] σ H s := by
  obtain ⟨oe, vs, he, hz, hd⟩ := F.fl.there
  have nfr : a ∉ frs (X.env :: X.outer) := fun hm => by
    obtain ⟨_, o', e', hnf⟩ := F.fl.2.2.1.mem hm
    rw [he] at e'
    cases e'
    exact hnf _ hd
  refine ⟨oe, vs, he, hz, hd, F.inv.suite he hd F.na (fun z => nfr (List.mem_filterMap.mpr ⟨X.env, List.mem_cons_self, by rw [hf, z]⟩)) fun hm => ?_⟩
  obtain ⟨e, he, q⟩ := List.mem_filterMap.mp hm
  exact nfr (List.mem_filterMap.mpr ⟨e, List.mem_cons_of_mem _ he, q⟩)
end
/-- what the clauses do with it -/
structure Catch (X : Cx) (hds : List ExceptHandler) (w : Ends → WX) : Prop where
  run : ∀ (pins : List (Addr × Obj)) (a : Addr) (B : Heap) (sI s : Shared) (σ : L2.St) (H : Hp) (cls : Value) (d : Option Addr) (D : Ends), Fly X pins a B sI s σ H cls d → w D cls d σ H → wpAny (model X.prog X.w) X.A (handleBy (.ref a) X.env hds) (SP X pins D) X.xe s
/-- a clause's test -/
structure Test (X : Cx) (t : Expr) (m : Value → Option Bool) : Prop where
  run : ∀ (pins : List (Addr × Obj)) (a : Addr) (B : Heap) (sI s : Shared) (σ : L2.St) (H : Hp) (cls : Value) (d : Option Addr) (b : Bool) (R : Bool → Shared → Prop) (E1 E2 : Value → Shared → Prop), Fly X pins a B sI s σ H cls d → m cls = some b → (∀ s', Fly X pins a B sI s' σ H cls d → R b s') →
    wpAny (model X.prog X.w) (X.A.mark (some (.ref a))) (eval t X.env) (fun c s₁ => wpAny (model X.prog X.w) (X.A.mark (some (.ref a))) (excMatches (.ref a) c) R E1 s₁) E2 s
section
variable {X : Cx} {hds : List ExceptHandler} {w : Ends → WX}
theorem ps_try_c {body : List Stmt} {h₀ : ExceptHandler} {pos : Pos} {tb : WX → TS} (hs : X.stack = X.env :: X.outer) (hf : X.env.frame = some X.env.locals)
    (hb : ∀ (W : WX) (pn : List (Addr × Obj)) (xe : Value → Shared → Prop), Takes (X.tr pn xe) W → PassesOwn (model X.prog X.w) X.A X.env xe → PSs (X.tr pn xe) body (tb W)) (hc : Catch X (h₀ :: hds) w) :
    PS X (.Try body (h₀ :: hds) [] [] pos) (fun D σ H => tb (w D) D σ H) := by
  refine ⟨fun pins s σ H D I h => ?_⟩
  have ok := I.ok
  have hfr : X.A.frames = some (X.env :: X.outer) := by rw [ok.frames, hs]
  refine wpAny_Try_except ?_
  refine wpAny_mono ((hb (w D) (X.pn ++ pins) (fun e s₁ => wpAny (model X.prog X.w) X.A (noteFrame e X.env) (fun _ s₂ => wpAny (model X.prog X.w) X.A (setFlight e none) (fun _ s₃ =>
    wpAny (model X.prog X.w) X.A (handleBy e X.env (h₀ :: hds)) (SP X pins D) X.xe s₃) X.xe s₂) X.xe s₁) (fun u s' xx => ?_) PassesOwn.looking).run [] s σ H D (I.toTry _) h) (fun f s1 hsp => ?_) (fun e s1 he => he)
  · obtain ⟨a, B, sI, pins', σ', H', cls, d, rfl, J', nb, up, sky, na, os, ag, wi⟩ := xx
    have sky' : Sky B (X.env :: X.outer) a (Zc cls d) X.env.locals s'.heap := by rw [← hs]; exact sky
    show wpAny (model X.prog X.w) X.A (noteFrame (.ref a) X.env) _ _ _
    exact Sky.land Zc.steady hfr hf sky' fun h3 fl3 up3 => hc.run pins a B sI { s' with heap := h3 } σ' H' cls d D ⟨J'.ofTry ok, nb, up.trans up3, fl3, na, os, ag⟩ wi
  · cases f with
    | next =>
      obtain ⟨σ', H', J', q⟩ := hsp
      exact wpAny_execs_nil ⟨σ', H', J'.ofTry ok, q⟩
    | brk =>
      obtain ⟨σ', H', J', q⟩ := hsp
      exact ⟨σ', H', J'.ofTry ok, q⟩
    | cont =>
      obtain ⟨σ', H', J', q⟩ := hsp
      exact ⟨σ', H', J'.ofTry ok, q⟩
    | ret u =>
      obtain ⟨v, σ', H', J', r, q⟩ := hsp
      exact ⟨v, σ', H', J'.ofTry ok, r, q⟩
/-- no clause is left: the exception flies on -/
theorem catch_nil {Wout : WX} (hs : X.stack = X.env :: X.outer) (hf : X.env.frame = some X.env.locals) (tk : Takes X Wout) : Catch X [] (fun _ => Wout) := by
  refine ⟨fun pins a B sI s σ H cls d D F wi => wpAny_handleBy_nil ?_⟩
  obtain ⟨k1, k2, k3, oe, vs, T, oT, ts', he, hz, hd, h1, hr⟩ := id F.fl
  unfold PySem.passOn
  refine wpAny_bind (wpAny_field he hd h1 ?_)
  rw [if_neg (show ¬ ((Value.ref T == Value.none) = true) from by simp)]
  have fin : wpAny (model X.prog X.w) X.A (setFlight (.ref a) X.env.frame) (fun _ s4 => wpAny (model X.prog X.w) X.A (throw (.ref a) : Sem Flow) (SP X pins D) X.xe s4) X.xe s := by
    rw [hf]
    refine HandSPX.setFlight_upZ F.fl fun h4 hh4 up4 => wpAny_throw (tk _ _ ?_)
    exact ⟨a, B, sI, pins, σ, H, cls, d, rfl, F.J, F.nb, F.up.trans up4, .inr (.inr (by rw [hs]; exact hh4)), F.na, F.os, F.ag, wi⟩
  first
    | exact wpAny_bind (wpAny_pure (wpAny_bind fin))
    | exact wpAny_bind fin
/-- a class's name -/
theorem name_ok {x : Str} {c : Value} {np : Pos} {a : Addr} {pn : List (Addr × Obj)} {pins : List (Addr × Obj)} {σ : L2.St} {H : Hp} {s : Shared} {Q : Value → Shared → Prop} {E : Value → Shared → Prop} (hc : Names X x c) (S : Inv (X.suite a pn) pins σ H s) (q : Q c s) :
    wpAny (model X.prog X.w) (X.A.mark (some (.ref a))) (eval (.Name x np) X.env) Q E s := by
  obtain ⟨hg, hdbg, hm | ⟨hm, hv, hnn⟩⟩ := hc
  · exact ld_glob (X := X.suite a pn) S hg hm q hdbg
  · exact ld_blt (X := X.suite a pn) S hg hm hv q hnn hdbg
theorem test_one {x : Str} {c : Value} {np : Pos} (hf : X.env.frame = some X.env.locals) (hc : Names X x c) : Test X (.Name x np) (fun cls => PySem.W.exmOne X.K cls c) := by
  refine ⟨fun pins a B sI s σ H cls d b R E1 E2 F hm q => ?_⟩
  obtain ⟨oe, vs, he, hz, hd, S⟩ := F.suite hf
  have LT : PySem.W.Looks (model X.prog X.w) s.heap (typeOf (.ref a)) cls := fun A Q E s k q => wpAny_typeOf_ref (k _ _ he) (by rw [hz.1]; exact q)
  exact name_ok hc S ((PySem.W.exm_one (M := model X.prog X.w) F.inv.kIn LT hm).here (q s F))
/-- (x, y), two classes -/
theorem test_two {x y : Str} {c c2 : Value} {np np2 pos : Pos} {kk : Nat} (hf : X.env.frame = some X.env.locals) (hc : Names X x c) (hc2 : Names X y c2)
    (hst : starEach [Expr.Name x np, .Name y np2] X.env = [(false, eval (.Name x np) X.env), (false, eval (.Name y np2) X.env)] := by rfl) : Test X (.Tuple [.Name x np, .Name y np2] kk pos) (fun cls => PySem.W.exmAny X.K cls [c, c2]) := by
  refine ⟨fun pins a B sI s σ H cls d b R E1 E2 F hm q => ?_⟩
  obtain ⟨oe, vs, he, hz, hd, S⟩ := F.suite hf
  refine wpAny_Tuple_spliced ?_
  rw [hst]
  show wpAny _ _ (spliced [(false, eval (.Name x np) X.env), (false, eval (.Name y np2) X.env)]) _ _ _
  refine Calls.spliced_cons (name_ok hc S (Calls.spliced_cons (name_ok hc2 S (Calls.spliced_nil ?_))))
  refine ⟨(by decide : 2 ≤ sizeLine), ?_⟩
  have k : ∀ b o, s.heap.get? b = some o → (s.heap.push { cls := .type "tuple", data := .seq #[c, c2] }).get? b = some o := fun b o e => Heap.get?_push_of_some _ e
  have F2 : Fly X pins a B sI { s with heap := s.heap.push { cls := .type "tuple", data := .seq #[c, c2] } } σ H cls d := F.keeps (t := s.toks) k
  obtain ⟨oe2, vs2, he2, hz2, _⟩ := F2.fl.there
  have LT : PySem.W.Looks (model X.prog X.w) (s.heap.push { cls := .type "tuple", data := .seq #[c, c2] }) (typeOf (.ref a)) cls := fun A Q E s k q => wpAny_typeOf_ref (k _ _ he2) (by rw [hz2.1]; exact q)
  exact (PySem.W.exm_tup2 (M := model X.prog X.w) F2.inv.kIn LT (Heap.get?_push_size _ rfl) hm).here (q _ F2)
/-- what a clause without a name wishes -/
def wCl (m : Value → Option Bool) (ts : Addr → Value → Option Addr → TS) (w : Ends → WX) : Ends → WX := fun D cls d σ H => ∃ b, m cls = some b ∧ (b = true → ∀ a, H a = none → ts a cls d D σ H) ∧ (b = false → w D cls d σ H)
/-- .. with a name: slot i is its -/
def wClAs (m : Value → Option Bool) (i : Nat) (ts : Addr → Value → Option Addr → TS) (w : Ends → WX) : Ends → WX := fun D cls d σ H => ∃ b, m cls = some b ∧
  (b = true → ∀ a, H a = none → ts a cls d { nx := fun σ' H' => D.nx (σ'.set i none) H', rt := D.rt, bk := fun σ' H' => D.bk (σ'.set i none) H', ct := fun σ' H' => D.ct (σ'.set i none) H' } (σ.set i (some (.ref a))) H) ∧ (b = false → w D cls d σ H)
theorem catch_cl {t : Expr} {m : Value → Option Bool} {ts : Addr → Value → Option Addr → TS} {b₀ : Stmt} {suite : List Stmt} {pos' : Pos} (hf : X.env.frame = some X.env.locals) (T : Test X t m)
    (hsu : ∀ (a : Addr) (oe : Obj) (cls : Value) (d : Option Addr) (pn : List (Addr × Obj)), Zc cls d oe → (∃ vs, oe.data = .fields vs) → PSs (X.suite a ((a, oe) :: pn)) (b₀ :: suite) (ts a cls d)) (R : Catch X hds w) :
    Catch X (.ExceptHandler (some t) none (b₀ :: suite) pos' :: hds) (wCl m ts w) := by
  refine ⟨fun pins a B sI s σ H cls d D F ⟨b, hm, hyes, hno⟩ => ?_⟩
  refine wpAny_handleBy_cons (codeAny_handlers_test (T.run pins a B sI s σ H cls d b _ _ _ F hm fun s2 F2 => ?_)) (by intro q; cases q)
  cases b with
  | false => exact R.run pins a B sI s2 σ H cls d D F2 (hno rfl)
  | true =>
    have ok := F.J.ok
    refine codeAny_handlers_suite ?_
    refine HandSPX.lands_againZ F2.fl fun h4 fl4 up4 => ?_
    have F4 : Fly X pins a B sI { s2 with heap := h4 } σ H cls d := ⟨F2.J, F2.nb, F2.up.trans up4, fl4, F2.na, F2.os, F2.ag⟩
    obtain ⟨oe4, vs4, he4, hz4, hd4, S4⟩ := F4.suite hf
    refine wpAny_mono ((hsu a oe4 cls d (X.pn ++ pins) hz4 ⟨_, hd4⟩).run [] _ _ H _ S4 (hyes rfl a F.na)) (fun f s6 hsp => ?_) (fun _ _ z => False.elim z)
    cases f with
    | next =>
      obtain ⟨σ6, H6, S6, q6⟩ := hsp
      exact ⟨_, _, S6.unsuite ok, q6⟩
    | brk =>
      obtain ⟨σ6, H6, S6, q6⟩ := hsp
      exact ⟨_, _, S6.unsuite ok, q6⟩
    | cont =>
      obtain ⟨σ6, H6, S6, q6⟩ := hsp
      exact ⟨_, _, S6.unsuite ok, q6⟩
    | ret u =>
      obtain ⟨v6, σ6, H6, S6, r6, q6⟩ := hsp
      exact ⟨_, _, _, S6.unsuite ok, r6, q6⟩
theorem catch_as {t : Expr} {m : Value → Option Bool} {i : Nat} {n : Str} {ts : Addr → Value → Option Addr → TS} {b₀ : Stmt} {suite : List Stmt} {pos' : Pos} (hf : X.env.frame = some X.env.locals) (hN : X.N.Nodup) (hi : X.N[i]? = some n) (hln : X.env.kindOf n = some .local) (T : Test X t m)
    (hsu : ∀ (a : Addr) (oe : Obj) (cls : Value) (d : Option Addr) (pn : List (Addr × Obj)), Zc cls d oe → (∃ vs, oe.data = .fields vs) → PSs (X.suite a ((a, oe) :: pn)) (b₀ :: suite) (ts a cls d)) (R : Catch X hds w) :
    Catch X (.ExceptHandler (some t) (some n) (b₀ :: suite) pos' :: hds) (wClAs m i ts w) := by
  refine ⟨fun pins a B sI s σ H cls d D F ⟨b, hm, hyes, hno⟩ => ?_⟩
  refine wpAny_handleBy_cons (codeAny_handlers_test (T.run pins a B sI s σ H cls d b _ _ _ F hm fun s2 F2 => ?_)) (by intro q; cases q)
  cases b with
  | false => exact R.run pins a B sI s2 σ H cls d D F2 (hno rfl)
  | true =>
    have ok := F.J.ok
    refine codeAny_handlers_suite_as ?_
    refine HandSPX.lands_againZ F2.fl fun h4 fl4 up4 => ?_
    have F4 : Fly X pins a B sI { s2 with heap := h4 } σ H cls d := ⟨F2.J, F2.nb, F2.up.trans up4, fl4, F2.na, F2.os, F2.ag⟩
    obtain ⟨oe4, vs4, he4, hz4, hd4, S4⟩ := F4.suite hf
    refine store_ok (X := X.suite a ((a, oe4) :: (X.pn ++ pins))) (v := .ref a) S4 hN hi (.inl hln) rfl (fun s5 S5 => ?_) (.inr hln)
    refine wpAny_mono ((hsu a oe4 cls d (X.pn ++ pins) hz4 ⟨_, hd4⟩).run [] s5 _ H _ S5 (hyes rfl a F.na)) (fun f s6 hsp => ?_) (fun _ _ z => False.elim z)
    have end_ : ∀ {σ6 : L2.St} {H6 : Hp} {Q : Shared → Prop}, Inv (X.suite a ((a, oe4) :: (X.pn ++ pins))) [] σ6 H6 s6 → (∀ s7, Inv X pins (σ6.set i none) H6 s7 → Q s7) →
        wpAny (model X.prog X.w) X.A (do bindName X.env n .none; unbindBehindTheSuite X.env n pos') (fun _ s7 => Q s7) X.xe s6 := fun {σ6 H6 Q} S6 hq => gone_ok (S6.unsuite ok) hN hi hln hq
    cases f with
    | next =>
      obtain ⟨σ6, H6, S6, q6⟩ := hsp
      exact end_ S6 fun s7 J7 => ⟨_, _, J7, q6⟩
    | brk =>
      obtain ⟨σ6, H6, S6, q6⟩ := hsp
      exact end_ S6 fun s7 J7 => ⟨_, _, J7, q6⟩
    | cont =>
      obtain ⟨σ6, H6, S6, q6⟩ := hsp
      exact end_ S6 fun s7 J7 => ⟨_, _, J7, q6⟩
    | ret u =>
      obtain ⟨v6, σ6, H6, S6, r6, q6⟩ := hsp
      exact end_ S6 fun s7 J7 => ⟨_, _, _, J7, r6, q6⟩
end
end Xr
set_option Elab.async false
set_option linter.all false
set_option maxRecDepth 100000
set_option maxHeartbeats 4000000
/-! R17: min(xs) of a list of tuples (number, text). -/
namespace Xr
open PySem PySem.Spec PyProof.Rows L2 ClX StX
/-- the comparison, while the walk is on -/
def CmpIn (prog : Program) (w : World) (A : Around) (P : Nat → Value → Prop) (bt : Nat → Nat → Bool) (St : Nat → Heap → Prop) : Prop :=
  ∀ i j k vi vj (s : Shared) (Q : Value → Shared → Prop) (E : Value → Shared → Prop), St k s.heap → P i vi → P j vj → Q (.bool (bt i j)) s → wpAny (model prog w) A (richCompare .Lt vi vj) Q E s
section
variable {prog : Program} {w : World} {A : Around} {R : Result → Shared → Prop} {I : Addr} {fp wr : List Addr} {n : Nat} {P : Nat → Value → Prop} {St : Nat → Heap → Prop} {bt : Nat → Nat → Bool} {S : Addr}
theorem minOn (W : Walks prog w A.in1 I fp wr n P St) (cmp : CmpIn prog w A.in1 P bt St) (hSf : S ∉ fp) : ∀ (k j : Nat) (s : Shared) (vb : Value) (c : Nat), n = j + 1 + k → St (j + 1) s.heap → P (argBest bt j) vb →
    s.heap.get? S = some { cls := .type "list", dict := none, data := .seq #[vb, vb] c, slots := #[] } →
    (∀ v h' tk, P (argBest bt (n - 1)) v → (∀ b o, b ∉ wr → b ≠ S → s.heap.get? b = some o → h'.get? b = some o) → R (.ok (.ret v)) { s with heap := h', toks := tk }) →
    codeAny (model prog w) A (.builtin "min.loop" ⟨[.ref I, .none, .ref S], []⟩) R s := by
  have hSw : S ∉ wr := fun h => hSf (W.sub _ h)
  have nm : (toString "min" ++ toString ".loop" : String) = "min.loop" := by decide
  intro k
  induction k with
  | zero =>
    intro j s vb c e st pb g hR
    have e1 : n = j + 1 := e
    refine codeAny_builtin F.entry_min_loop ?_
    rw [Around.under_plainId F.plain_min_loop _]
    show wpAny _ A.in1 (seqItems? (.ref S) >>= _) _ _ s
    refine wpAny_bind (wpAny_seqItems g rfl ?_)
    show wpAny _ A.in1 (tryCatch (pyNext (.ref I)) _ >>= _) _ _ s
    refine wpAny_bind (wpAny_tryCatch (W.done s _ _ (e1 ▸ st) fun h' tk kp => ?_))
    have g' := kp S _ hSw g
    show wpAny _ A.in1 (updateSeq S (fun _ => #[]) >>= _) _ _ _
    refine wpAny_bind (wpAny_updateSeq g' rfl (wpAny_bind (wpAny_letGo (wpAny_pure ?_))))
    refine hR vb _ tk ?_ fun b o b1 b2 e => (Heap.get?_update_other _ _ (Ne.symm b2)).trans (kp b o b1 e)
    rw [e1]
    exact pb
  | succ k ih =>
    intro j s vb c e st pb g hR
    refine codeAny_builtin F.entry_min_loop ?_
    rw [Around.under_plainId F.plain_min_loop _]
    show wpAny _ A.in1 (seqItems? (.ref S) >>= _) _ _ s
    refine wpAny_bind (wpAny_seqItems g rfl ?_)
    show wpAny _ A.in1 (tryCatch (pyNext (.ref I)) _ >>= _) _ _ s
    refine wpAny_bind (wpAny_tryCatch (W.item (j + 1) s _ _ (by omega) st fun v h' tk pv st' kp => ?_))
    have g' := kp S _ hSw g
    show wpAny _ A.in1 (tryCatch (holding [v, v] (richCompare .Lt v vb >>= _)) _ >>= _) _ _ _
    refine wpAny_bind (wpAny_tryCatch (wpAny_holding (wpAny_bind (cmp (j + 1) (argBest bt j) _ v vb _ _ _ st' pv pb ?_))))
    refine wpAny_bind (wpAny_holding (wpAny_truthy_bool (wpAny_bind (wpAny_letGo (wpAny_pure ?_)))))
    cases hb : bt (j + 1) (argBest bt j) with
    | true =>
      simp only [if_true]
      refine wpAny_bind (wpAny_updateSeq g' rfl (wpAny_bind (wpAny_letGo ?_)))
      rw [nm]
      refine wpAny_pure ⟨plainId_quiet F.plain_min_loop _, ih (j + 1) _ v _ (by omega) (W.frame _ _ _ st' fun b hbf o e => (Heap.get?_update_other _ _ (fun h : S = b => hSf (by rw [h]; exact hbf))).trans e) (by simp only [argBest, hb, if_true]; exact pv) (Heap.get?_update_self _ g' rfl) fun v' h2 tk2 pv' kp2 => ?_⟩
      exact hR v' h2 tk2 pv' fun b o b1 b2 e => kp2 b o b1 b2 ((Heap.get?_update_other _ _ (Ne.symm b2)).trans (kp b o b1 e))
    | false =>
      simp only [Bool.false_eq_true, if_false]
      refine wpAny_bind (wpAny_letGo ?_)
      rw [nm]
      refine wpAny_pure ⟨plainId_quiet F.plain_min_loop _, ih (j + 1) _ vb c (by omega) st' (by simp only [argBest, hb, Bool.false_eq_true, if_false]; exact pb) g' fun v' h2 tk2 pv' kp2 => ?_⟩
      exact hR v' h2 tk2 pv' fun b o b1 b2 e => kp2 b o b1 b2 (kp b o b1 e)
theorem minFrom (W : Walks prog w A.in1 I fp wr n P St) (cmp : CmpIn prog w A.in1 P bt St) (hSf : S ∉ fp) (hn : 0 < n) {s : Shared} {c : Nat} (st : St 0 s.heap) (g : s.heap.get? S = some { cls := .type "list", dict := none, data := .seq #[] c, slots := #[] })
    (hR : ∀ v h' tk, P (argBest bt (n - 1)) v → (∀ b o, b ∉ wr → b ≠ S → s.heap.get? b = some o → h'.get? b = some o) → R (.ok (.ret v)) { s with heap := h', toks := tk }) :
    codeAny (model prog w) A (.builtin "min.loop" ⟨[.ref I, .none, .ref S], []⟩) R s := by
  have hSw : S ∉ wr := fun h => hSf (W.sub _ h)
  have nm : (toString "min" ++ toString ".loop" : String) = "min.loop" := by decide
  refine codeAny_builtin F.entry_min_loop ?_
  rw [Around.under_plainId F.plain_min_loop _]
  show wpAny _ A.in1 (seqItems? (.ref S) >>= _) _ _ s
  refine wpAny_bind (wpAny_seqItems g rfl ?_)
  show wpAny _ A.in1 (tryCatch (pyNext (.ref I)) _ >>= _) _ _ s
  refine wpAny_bind (wpAny_tryCatch (W.item 0 s _ _ hn st fun v h' tk pv st' kp => ?_))
  have g' := kp S _ hSw g
  show wpAny _ A.in1 (updateSeq S (fun _ => #[v, v]) >>= _) _ _ _
  refine wpAny_bind (wpAny_updateSeq g' rfl ?_)
  rw [nm]
  refine wpAny_pure ⟨plainId_quiet F.plain_min_loop _, minOn W cmp hSf (n - 1) 0 _ v _ (by omega) (W.frame _ _ _ st' fun b hbf o e => (Heap.get?_update_other _ _ (fun h : S = b => hSf (by rw [h]; exact hbf))).trans e) pv (Heap.get?_update_self _ g' rfl) fun v' h2 tk2 pv' kp2 => ?_⟩
  exact hR v' h2 tk2 pv' fun b o b1 b2 e => kp2 b o b1 b2 ((Heap.get?_update_other _ _ (Ne.symm b2)).trans (kp b o b1 e))
end
section
variable {prog : Program} {w : World} {A : Around} {E : Value → Shared → Prop} {s : Shared}
theorem call_minIn {x : Value} {Q : Value → Shared → Prop}
    (h : wpAny (model prog w) A.in1 (pyIter x) (fun it s₂ => ∃ I fp wr n P St bt, it = .ref I ∧ Walks prog w A.in1 I fp wr n P St ∧ St 0 s₂.heap ∧ (∀ b ∈ fp, b < s₂.heap.objs.size) ∧ 0 < n ∧ CmpIn prog w A.in1 P bt St ∧
      ∀ v h' tk, P (argBest bt (n - 1)) v → (∀ b o, b ∉ wr → s₂.heap.get? b = some o → h'.get? b = some o) → Q v { s₂ with heap := h', toks := tk }) E s) :
    wpAny (model prog w) A (call (.builtin "min") [x]) Q E s := by
  have nm : (toString "min" ++ toString ".loop" : String) = "min.loop" := by decide
  refine call_function_tree F.kind_min F.plain_min F.entry_min (F.args_min1 _) ?_
  show wpAny _ A.in1 (Builtin.Builtins.bindParams "min" ["key", "default"] 0 ⟨[], []⟩ >>= _) _ _ s
  refine wpAny_bind (wpAny_of_eq (show Builtin.Builtins.bindParams "min" ["key", "default"] 0 ⟨[], []⟩ = pure [none, none] from rfl) (wpAny_bind (wpAny_pure ?_)))
  refine wpAny_bind (wpAny_mono h (fun it s₂ ⟨I, fp, wr, n, P, S0, bt, eI, W, st, lt, hn, cmp, q⟩ => ?_) fun _ _ e => e)
  subst eI
  refine wpAny_bind (wpAny_newObj_type ?_)
  have hSf : s₂.heap.objs.size ∉ fp := fun hm => Nat.lt_irrefl _ (lt _ hm)
  rw [nm]
  refine wpAny_pure ⟨plainId_quiet F.plain_min_loop _, minFrom W cmp hSf hn (W.frame _ _ _ st fun b _ o e => Heap.get?_push_of_some _ e) (Heap.get?_push_size _ rfl) fun v h' tk pv kp => ?_⟩
  exact q v h' tk pv fun b o b1 e => kp b o b1 (Nat.ne_of_lt (Heap.lt_size e)) (Heap.get?_push_of_some _ e)
end
theorem argBest_key {key : Nat → Int} {bt : Nat → Nat → Bool} (h1 : ∀ i j, bt i j = true → key i ≤ key j) (h2 : ∀ i j, bt i j = false → key j ≤ key i) : ∀ k, argBest bt k ≤ k ∧ ∀ j, j ≤ k → key (argBest bt k) ≤ key j
  | 0 => ⟨Nat.le_refl _, fun j hj => by rw [Nat.le_zero.mp hj]; exact Int.le_refl _⟩
  | k + 1 => by
    obtain ⟨a1, a2⟩ := argBest_key h1 h2 k
    cases hb : bt (k + 1) (argBest bt k) with
    | true =>
      have e : argBest bt (k + 1) = k + 1 := by simp only [argBest, hb, if_true]
      rw [e]
      refine ⟨Nat.le_refl _, fun j hj => ?_⟩
      by_cases hjk : j = k + 1
      · rw [hjk]; exact Int.le_refl _
      · exact Int.le_trans (h1 _ _ hb) (a2 j (by omega))
    | false =>
      have e : argBest bt (k + 1) = argBest bt k := by simp only [argBest, hb, Bool.false_eq_true, if_false]
      rw [e]
      refine ⟨by omega, fun j hj => ?_⟩
      by_cases hjk : j = k + 1
      · rw [hjk]; exact h2 _ _ hb
      · exact a2 j (by omega)
/-- min(xs), xs a list of pairs (number, text): one whose number is least -/
def rMinT (K : PySem.W.Frag) : List V → Hp → VK → Prop := fun vs H Q => ∃ (a : Addr) (ps : List Addr) (ks : List (Int × Str)), vs = [V.ref a] ∧ SqL K H a (ps.map V.ref) ∧ 0 < ps.length ∧ ps.length = ks.length ∧
  (∀ (j : Nat) (p : Addr) (k : Int × Str), ps[j]? = some p → ks[j]? = some k → SqT K H p [.int k.1, .str k.2]) ∧ ∀ (m : Nat) (p : Addr) (k : Int × Str), ps[m]? = some p → ks[m]? = some k → (∀ k' ∈ ks, k.1 ≤ k'.1) → Q (.ref p) H
def tupBt (ks : List (Int × Str)) (i j : Nat) : Bool := Ob.lexAt (fun x => if x = 0 then (ks.getD i (0, "")).1 == (ks.getD j (0, "")).1 else (ks.getD i (0, "")).2 == (ks.getD j (0, "")).2)
  (fun x => if x = 0 then decide ((ks.getD i (0, "")).1 < (ks.getD j (0, "")).1) else decide ((ks.getD i (0, "")).2.cps.toList < (ks.getD j (0, "")).2.cps.toList)) false 0 2
theorem tupBt_1 {ks : List (Int × Str)} {i j : Nat} (h : tupBt ks i j = true) : (ks.getD i (0, "")).1 ≤ (ks.getD j (0, "")).1 := by
  unfold tupBt at h
  rw [Ob.lexAt_succ] at h
  by_cases e : (ks.getD i (0, "")).1 = (ks.getD j (0, "")).1
  · exact Int.le_of_eq e
  · have e' : ((ks.getD i (0, "")).1 == (ks.getD j (0, "")).1) = false := beq_eq_false_iff_ne.mpr e
    simp only [if_true, e', Bool.false_eq_true, if_false] at h
    exact Int.le_of_lt (of_decide_eq_true h)
theorem tupBt_2 {ks : List (Int × Str)} {i j : Nat} (h : tupBt ks i j = false) : (ks.getD j (0, "")).1 ≤ (ks.getD i (0, "")).1 := by
  unfold tupBt at h
  rw [Ob.lexAt_succ] at h
  by_cases e : (ks.getD i (0, "")).1 = (ks.getD j (0, "")).1
  · exact Int.le_of_eq e.symm
  · have e' : ((ks.getD i (0, "")).1 == (ks.getD j (0, "")).1) = false := beq_eq_false_iff_ne.mpr e
    simp only [if_true, e', Bool.false_eq_true, if_false] at h
    have := of_decide_eq_false h
    omega
theorem cr_minT {X : Cx} (hc : X.calm = true) (hu : X.A.units + 64 < cLine) : CallR X (.builtin "min") (rMinT X.K) := by
  intro pins s σ H vs us Q I r h
  obtain ⟨a, ps, ks, rfl, hs, h0, hl, ht, q⟩ := h
  obtain ⟨its, rv, pl, _⟩ := I.list hs
  have ei := refs_at rv
  subst ei
  rw [Vals.ref1 r]
  have hL : s.heap.IsList a (ps.map Value.ref).toArray := pl.isList
  have tup : ∀ (j : Nat) (p : Addr) (k : Int × Str), ps[j]? = some p → ks[j]? = some k → ∃ t u, s.heap.IsTuple p #[.int k.1 t, .str k.2 u] := fun j p k hp hk => by
    obtain ⟨its, rv, pt, _⟩ := I.tuple (ht j p k hp hk)
    obtain ⟨x, y, rfl, ⟨t, rfl⟩, ⟨u, rfl⟩⟩ := vals2 rv
    exact ⟨t, u, pt⟩
  have hal : a < s.heap.objs.size := by obtain ⟨_, e, _⟩ := hL; exact Heap.lt_size e
  have hpl : ∀ (j : Nat) (p : Addr), ps[j]? = some p → p < s.heap.objs.size := fun j p hp => by
    have hj : j < ks.length := by rw [← hl]; exact (List.getElem?_eq_some_iff.mp hp).1
    obtain ⟨t, u, o, e, _⟩ := tup j p _ hp (List.getElem?_eq_getElem hj)
    exact Heap.lt_size e
  have hI : a ≠ s.heap.objs.size := Nat.ne_of_lt hal
  have W := Walks.list (prog := X.prog) (w := X.w) (A := X.A.in1) (I.ok.hd hc) s.heap.objs.size a hI (ps.map Value.ref).toArray
  have k0 : ∀ b o, s.heap.get? b = some o → (s.heap.push { cls := .type "list_iterator", data := .fields #[.ref a, .int 0 0] }).get? b = some o := fun b o e => Heap.get?_push_of_some _ e
  refine call_minIn (wpAny_pyIter_list hL ?_)
  refine ⟨s.heap.objs.size, [s.heap.objs.size, a] ++ ps, [s.heap.objs.size], ps.length, fun i v => (ps.map Value.ref).toArray[i]? = some v, fun i h => (h.IsListIter s.heap.objs.size a i ∧ h.IsList a (ps.map Value.ref).toArray) ∧ ∀ (j : Nat) (p : Addr) (k : Int × Str), ps[j]? = some p → ks[j]? = some k → ∃ t u, h.IsTuple p #[.int k.1 t, .str k.2 u], tupBt ks, rfl, ?_, ?_, ?_, h0, ?_, ?_⟩
  · have sz : (ps.map Value.ref).toArray.size = ps.length := by simp
    rw [sz] at W
    refine ⟨fun b hb => List.mem_append_left _ (W.sub b hb), fun i h h' st k => ⟨W.frame i h h' st.1 fun b hb => k b (List.mem_append_left _ hb), fun j p kk hp hk => ?_⟩, fun i s' Q' E' hi st hq => ?_, fun s' Q' E' st hq => W.done s' Q' E' st.1 hq, fun i s' Q' E' st hq => W.self i s' Q' E' st.1 hq⟩
    · obtain ⟨t, u, z⟩ := st.2 j p kk hp hk
      exact ⟨t, u, Heap.IsTuple.at (h := h) z fun o => k p (List.mem_append_right _ (List.mem_of_getElem? hp)) o⟩
    · refine W.item i s' Q' E' hi st.1 fun v h' tk pv st' kp => hq v h' tk pv ⟨st', fun j p kk hp hk => ?_⟩ kp
      obtain ⟨t, u, z⟩ := st.2 j p kk hp hk
      have hne : p ∉ [s.heap.objs.size] := fun hm => Nat.ne_of_lt (hpl j p hp) (List.mem_singleton.mp hm)
      exact ⟨t, u, Heap.IsTuple.at (h := s'.heap) z fun o => kp p o hne⟩
  · refine ⟨⟨⟨_, Heap.get?_push_size _ rfl, rfl, rfl⟩, hL.at fun o => k0 a o⟩, fun j p k hp hk => ?_⟩
    obtain ⟨t, u, z⟩ := tup j p k hp hk
    exact ⟨t, u, Heap.IsTuple.at (h := s.heap) z fun o => k0 p o⟩
  · intro b hb
    have szp : (s.heap.push { cls := .type "list_iterator", data := .fields #[.ref a, .int 0 0] }).objs.size = s.heap.objs.size + 1 := Heap.size_push ..
    show b < (s.heap.push { cls := .type "list_iterator", data := .fields #[.ref a, .int 0 0] }).objs.size
    rw [szp]
    rcases List.mem_append.mp hb with hb | hb
    · have hb' : b = s.heap.objs.size ∨ b = a := by simpa using hb
      rcases hb' with z | z
      · rw [z]; exact Nat.lt_succ_self _
      · rw [z]; exact Nat.lt_succ_of_lt hal
    · obtain ⟨j, hj⟩ := List.mem_iff_getElem?.mp hb
      exact Nat.lt_succ_of_lt (hpl j b hj)
  · intro i j k vi vj s' Q' E' st hi hj hq
    have at_ : ∀ (i : Nat) (v : Value), (ps.map Value.ref).toArray[i]? = some v → ∃ p, ps[i]? = some p ∧ v = .ref p ∧ ∃ t u, s'.heap.IsTuple p #[.int (ks.getD i (0, "")).1 t, .str (ks.getD i (0, "")).2 u] := fun i v e => by
      have e' : (ps[i]?).map Value.ref = some v := by simpa using e
      cases hp : ps[i]? with
      | none => rw [hp] at e'; cases e'
      | some p =>
        rw [hp] at e'
        have hk : i < ks.length := by rw [← hl]; exact (List.getElem?_eq_some_iff.mp hp).1
        obtain ⟨t, u, z⟩ := st.2 i p _ hp (List.getElem?_eq_getElem hk)
        refine ⟨p, rfl, (Option.some.inj e').symm, t, u, ?_⟩
        rw [List.getD_eq_getElem?_getD, List.getElem?_eq_getElem hk]
        exact z
    obtain ⟨p, _, rfl, t, u, z⟩ := at_ i vi hi
    obtain ⟨p2, _, rfl, t2, u2, z2⟩ := at_ j vj hj
    refine Ob.RcOp.tuples_lt (A := X.A.in1) (s := s') (e := fun x => if x = 0 then (ks.getD i (0, "")).1 == (ks.getD j (0, "")).1 else (ks.getD i (0, "")).2 == (ks.getD j (0, "")).2)
      (r := fun x => if x = 0 then decide ((ks.getD i (0, "")).1 < (ks.getD j (0, "")).1) else decide ((ks.getD i (0, "")).2.cps.toList < (ks.getD j (0, "")).2.cps.toList)) z z2 (show X.A.units + 1 < cLine by omega) (fun x h1 h2 => ?_) (fun x h1 h2 _ => ?_) X.prog X.w E' Q' hq
    · have hx : x = 0 ∨ x = 1 := by
        have : x < 2 := h1
        omega
      rcases hx with rfl | rfl
      · exact PySem.SeqAt.EqAt.int_int _ _ _ _
      · exact PySem.SeqAt.EqAt.str_str _ _ _ _
    · have hx : x = 0 ∨ x = 1 := by
        have : x < 2 := h1
        omega
      rcases hx with rfl | rfl
      · exact Ob.RcOp.lt_int _ _ _ _
      · exact fun _ _ _ _ h => PyProof.Rows.lt_str h
  · intro v h' tk hv kp
    obtain ⟨hm, hall⟩ := argBest_key (key := fun i => (ks.getD i (0, "")).1) (bt := tupBt ks) (fun i j => tupBt_1) (fun i j => tupBt_2) (ps.length - 1)
    have hmp : argBest (tupBt ks) (ps.length - 1) < ps.length := by omega
    generalize argBest (tupBt ks) (ps.length - 1) = m at *
    have hp : ps[m]? = some ps[m] := List.getElem?_eq_getElem hmp
    have hk : m < ks.length := by omega
    have ev : v = .ref ps[m] := by
      have : (ps[m]?).map Value.ref = some v := by simpa using hv
      rw [hp] at this
      exact (Option.some.inj this).symm
    subst ev
    refine ⟨.ref ps[m], H, I.kept (t' := tk) fun b o e => kp b o (fun hb => Nat.ne_of_lt (Heap.lt_size e) (List.mem_singleton.mp hb)) (k0 b o e), rfl, q m _ ks[m] hp (List.getElem?_eq_getElem hk) fun k' hk' => ?_⟩
    obtain ⟨j, hj⟩ := List.mem_iff_getElem?.mp hk'
    have hjl := (List.getElem?_eq_some_iff.mp hj).1
    have hh := hall j (by omega)
    simp only [List.getD_eq_getElem?_getD, List.getElem?_eq_getElem hk, hj, Option.getD_some] at hh
    exact hh
end Xr
set_option Elab.async false
set_option linter.all false
set_option maxRecDepth 100000
set_option maxHeartbeats 4000000
/-! R18: max of two ints, int of a truth, a list times an int, pop, a comprehension over range, a def with keyword-only defaults. -/
namespace Xs
open PySem PySem.Spec PyProof.Rows L2
def hMax2 : List V → Hp → VK → Prop := fun xs H Q => match xs with
  | [.int i, .int j] => Q (.int (if j > i then j else i)) H
  | _ => False
theorem hc_max2 {X : Cx} (hc : X.calm = true) : CallR X (.builtin "max") hMax2 := by
  intro pins s σ H xs us Q I rs h
  refine call_max2 hc pins s σ H xs us Q I rs ?_
  match xs, h with
  | [.int i, .int j], h => exact ⟨i, j, rfl, h⟩
theorem cc_max2 {X : Cx} (hc : X.calm = true) : CallR X (.builtin "max") hMax2 := hc_max2 hc
def hInt1 : List V → Hp → VK → Prop := fun xs H Q => match xs with
  | [.int i] => Q (.int i) H
  | [.bl k] => Q (.int (if k then 1 else 0)) H
  | _ => False
theorem hc_int1 {X : Cx} : CallR X (.type "int") hInt1 := by
  intro pins s σ H xs us Q I rs h
  refine call_int1 pins s σ H xs us Q I rs ?_
  match xs, h with
  | [.int i], h => exact .inl ⟨i, rfl, h⟩
  | [.bl k], h => exact .inr ⟨k, rfl, h⟩
/-- a product: of two ints; of a list and an int -/
def hMul : R2 := fun x y H Q => match x, y with
  | .int i, .int j => CMul i j ∧ Q (.int (i * j)) H
  | .ref l, .int k => (match H l with
    | some (.lst xs) => -(2 ^ 63) ≤ k ∧ k < 2 ^ 63 ∧ xs.length * k.toNat ≤ sizeLine ∧ ∀ p, H p = none → Q (.ref p) (upd H p (.lst (List.replicate k.toNat xs).flatten))
    | _ => False)
  | _, _ => False
theorem ho_mul {X : Cx} : OpR X (binaryOp .Mult) hMul := by
  intro pins s σ H x y v u Q I rx ry h
  unfold hMul at h
  split at h
  · exact op_mul pins s σ H _ _ v u Q I rx ry ⟨_, _, rfl, rfl, h.1, h.2⟩
  · split at h
    · obtain ⟨h1, h2, h3, h4⟩ := h
      exact op_rep pins s σ H _ _ v u Q I rx ry ⟨_, _, _, rfl, rfl, ‹_›, h1, h2, h3, h4⟩
    · exact h.elim
  · exact h.elim
theorem pop_at {H : Hp} {l : Addr} {xs : List V} {y : V} {Q : VK} (h : H l = some (.lst xs)) (hy : xs[xs.length - 1]? = some y) (q : Q y (upd H l (.lst xs.dropLast))) : rPop (.ref l) [] H Q := ⟨l, xs, y, rfl, rfl, h, hy, q⟩
theorem cat_ok {H : Hp} {p r : Addr} {xs ys : List V} {Q : VK} (hp : H p = some (.lst xs)) (hq : H r = some (.lst ys)) (hl : xs.length + ys.length ≤ sizeLine) (k : ∀ t, H t = none → Q (.ref t) (upd H t (.lst (xs ++ ys)))) : rCat (.ref p) (.ref r) H Q := ⟨_, _, _, _, rfl, rfl, hp, hq, hl, k⟩
/-- isinstance(x, list) -/
def hIsL : List V → Hp → VK → Prop := fun xs H Q => match xs with
  | [x, .ty n] => n = "list" ∧ (match x with
    | .str _ => Q (.bl false) H
    | .non => Q (.bl false) H
    | .bl _ => Q (.bl false) H
    | .int _ => Q (.bl false) H
    | .ref p => (match H p with
      | some (.lst _) => Q (.bl true) H
      | some (.tup _) => Q (.bl false) H
      | _ => False)
    | _ => False)
  | _ => False
theorem hc_isL {X : Cx} : CallR X (.builtin "isinstance") hIsL := by
  intro pins s σ H xs us Q I rs h
  refine call_isi pins s σ H xs us Q I rs ?_
  unfold hIsL at h
  split at h
  · rename_i x n
    obtain ⟨rfl, h⟩ := h
    split at h
    · exact ⟨_, _, _, _, false, rfl, .ty _, .base (.str _), rfl, h⟩
    · exact ⟨_, _, _, _, false, rfl, .ty _, .base .non, rfl, h⟩
    · exact ⟨_, _, _, _, false, rfl, .ty _, .base (.bl _), rfl, h⟩
    · exact ⟨_, _, _, _, false, rfl, .ty _, .base (.int _), rfl, h⟩
    · split at h
      · exact ⟨_, _, _, _, true, rfl, .ty _, .base (.lst ‹_›), rfl, h⟩
      · exact ⟨_, _, _, _, false, rfl, .ty _, .base (.tup ‹_›), rfl, h⟩
      · exact h.elim
    · exact h.elim
  · exact h.elim
theorem lcp_range {lo : Int} {n : Nat} {g : TG} {tt : TT} {te : TE} {vs : List Nat} {σ : L2.St} {H1 : Hp} {D : Addr} {Qd : Hp → Prop} (Pv : Nat → Hp → Prop) (h0 : Pv 0 (upd H1 D (.lst [])))
    (hs : ∀ i H, i < n → Pv i H → g (.int (lo + (i : Nat))) (wipe σ vs) H fun σ2 H2 => wipe σ2 vs = wipe σ vs ∧ tt σ2 H2 fun b H3 =>
      if b = true then te σ2 H3 fun y H4 => ∃ acc, H4 D = some (.lst acc) ∧ acc.length < sizeLine ∧ Pv (i + 1) (upd H4 D (.lst (acc ++ [y]))) else Pv (i + 1) H3) (hd : ∀ H, Pv n H → Qd H) : LcP (Itr lo n) g tt te vs σ H1 D Qd := by
  refine ⟨fun i m H => m = n - i ∧ i ≤ n ∧ Pv i H, ⟨n, by simp, Nat.zero_le _, h0⟩, ?_⟩
  rintro i m H ⟨rfl, hi, p⟩
  by_cases hlt : i < n
  · refine .inr ⟨hlt, Pv (i + 1), fun H' p' => ⟨n - (i + 1), by omega, rfl, hlt, p'⟩, fun v H' y => ?_⟩
    obtain ⟨e, e2⟩ := y
    subst e e2
    exact hs i _ hlt p
  · have e : i = n := by omega
    subst e
    exact .inl ⟨Nat.le_refl _, hd H p⟩
/-- the def at f keeps the promise sp; ds: the values of its keyword-only parameters ks, which a call may leave out all together or name all together -/
def OkK (P : Program) (w : World) (K : PySem.W.Frag) (mg : Str → Option Value) (base : Heap) (CX : CXT) (k : Nat) (f : Addr) (n : Nat) (ps ks : List Str) (dv : List V) (sp : Sp) : Prop :=
  ∃ fd, FnOk P w K mg base CX k f fd ps sp ∧ (∃ ds, Vals dv ds ∧ Binds K fd ps ds) ∧ ∃ g, KBn K fd ps n ks g (fun vs zs => vs ++ zs)
section
variable {X : Cx} {CX : CXT} {k n : Nat} {f : Addr} {ps ks : List Str} {dv : List V} {sp : Sp} {E : XK} {x : Str} {e : Expr} {es : List Expr} {t tk : TA} {p pos : Pos} {kws : List Keyword}
def tCallD (sp : Sp) (dv : List V) (E : XK) (t : TA) : TE := fun σ H Q => t σ H fun vs H1 => sp (vs ++ dv) H1 Q E
/-- f(e, ..), the keyword-only parameters left out -/
theorem pfD (F : OkK X.prog X.w X.K X.mg X.base CX k f n ps ks dv sp) (hr : Room k X.A) (hm : X.mg x = some (.ref f)) (hk : PySem.W.keepIn X.K (.ref f) = true) (hx : Passes CX X E) (ha : PA X (e :: es) t) (hg : Gl X x := by rfl) (hdb : (x == ("__debug__" : Str)) = false := by decide)
    (he : starEach (e :: es) X.env = (false, eval e X.env) :: starEach es X.env := by rfl) (hpl : (backTo pos (starEach es X.env)).any (·.1) = false := by rfl) : PE X (.Call (.Name x p) (e :: es) [] pos) (tCallD sp dv E t) := by
  obtain ⟨fd, G, ⟨ds, rv, b⟩, _⟩ := F
  exact pe_call G hr hg hm hk b rv hx ha hdb he hpl
def tCallKO (n m : Nat) (sp : Sp) (E : XK) (t tk : TA) : TE := fun σ H Q => t σ H fun vs H1 => tk σ H1 fun zs H2 => vs.length = n ∧ zs.length = m ∧ sp (vs ++ zs) H2 Q E
/-- f(e, .., k = v, ..), all keyword-only parameters named, in their order -/
theorem pfKO (F : OkK X.prog X.w X.K X.mg X.base CX k f n ps ks dv sp) (hr : Room k X.A) (hm : X.mg x = some (.ref f)) (hk : PySem.W.keepIn X.K (.ref f) = true) (hx : Passes CX X E) (ha : PA X (e :: es) t) (hkw : PK X kws tk) (hg : Gl X x := by rfl)
    (hall : (backToKw pos (keywordEach kws X.env)).all (·.1.isSome) = true := by rfl) (hks : (backToKw pos (keywordEach kws X.env)).filterMap (·.1) = ks := by rfl)
    (hdb : (x == ("__debug__" : Str)) = false := by decide) (he : starEach (e :: es) X.env = (false, eval e X.env) :: starEach es X.env := by rfl)
    (hpl : ((backTo pos (starEach (e :: es) X.env)).any (·.1) || (backToKw pos (keywordEach kws X.env)).any (·.1.isNone)) = false := by rfl) : PE X (.Call (.Name x p) (e :: es) kws pos) (tCallKO n ks.length sp E t tk) := by
  obtain ⟨fd, G, _, g, b⟩ := F
  exact pe_callN G hr hg hm hk b hx ha hkw hall hks hdb he hpl
end
end Xs
set_option Elab.async false
set_option linter.all false
set_option maxRecDepth 100000
set_option maxHeartbeats 4000000
/-! R19: own exceptions right under any of five built-in errors: made, with one field stored, raised. -/
namespace Gx
open PySem PySem.W PySem.Calls PyProof.Rows PySem.HandSPX Builtin Builtin.ObjectAttr
/-- what is asked of a built-in base: n its __new__, bm its mro -/
structure Bas (n : String) (bm : List Value) : Prop where
  F : ∃ B i : String, ExcBaseFacts B n i bm
  pass : ∀ v : Value, refuseLoop v "__setattr__" bm = pure ()
  ob : bm.contains (.type "object") = true
  ne : bm.isEmpty = false
def tailOf (l : List String) : List Value := l.map Value.type
def bases : List (String × List Value) := [("ValueError.__new__", tailOf ["ValueError", "Exception", "BaseException", "object"]), ("TypeError.__new__", tailOf ["TypeError", "Exception", "BaseException", "object"]),
  ("LookupError.__new__", tailOf ["LookupError", "Exception", "BaseException", "object"]), ("OverflowError.__new__", tailOf ["OverflowError", "ArithmeticError", "Exception", "BaseException", "object"]), ("RuntimeError.__new__", tailOf ["RuntimeError", "Exception", "BaseException", "object"])]
theorem bas_ok {p : String × List Value} (h : p ∈ bases) : Bas p.1 p.2 := by
  simp only [bases, List.mem_cons, List.not_mem_nil, or_false] at h
  rcases h with rfl | rfl | rfl | rfl | rfl
  · exact ⟨⟨_, _, F.excBase_ValueError⟩, F.store_ValueError.passes, by decide +kernel, rfl⟩
  · exact ⟨⟨_, _, F.excBase_TypeError⟩, F.store_TypeError.passes, by decide +kernel, rfl⟩
  · exact ⟨⟨_, _, F.excBase_LookupError⟩, F.store_LookupError.passes, by decide +kernel, rfl⟩
  · exact ⟨⟨_, _, F.excBase_OverflowError⟩, F.store_OverflowError.passes, by decide +kernel, rfl⟩
  · exact ⟨⟨_, _, F.excBase_RuntimeError⟩, F.store_RuntimeError.passes, by decide +kernel, rfl⟩
section
variable {pr : Program} {wo : World} {ar : Around} {R : Result → Shared → Prop} {m : Heap} {ge : Array GenState} {dr : Drawn} {tn : Nat} {oss : OsState}
/-- a first field of an exception: the object gets its dict -/
theorem osa_first {K : W.Frag} {key : Str} {kt : Tok} {val : Value} {z C : Addr} {fv : Array Value} {cd : ClassData} {n : String} {bm : List Value} (KI : K.In m) (at_ : m.get? z = some { cls := .ref C, data := .fields fv })
    (ec : W.clsIn K C = some cd) (em : cd.mro = .ref C :: bm) (bas : Bas n bm) (ed : cd.hasDict = true) (no : W.findIn K (.ref C) key = some none)
    (go : ∀ m' kt' dx, (∀ b o, b ≠ z → m.get? b = some o → m'.get? b = some o) → m.objs.size ≤ dx → dx ≠ z → m'.get? z = some { cls := .ref C, dict := some dx, data := .fields fv } →
      m'.Ns1 dx (fun y => if y = key then some val else none) → R (.ok (.ret .none)) ⟨m', ge, dr, kt', oss⟩) :
    codeAny (model pr wo) ar (.call (.builtin "object.__setattr__") ⟨[.ref z, .str key kt, val], []⟩) R ⟨m, ge, dr, tn, oss⟩ := by
  have J : W.InstAt m z { cls := .ref C, data := .fields fv } C none := ⟨at_, rfl, rfl, trivial⟩
  have em0 : cd.mro.isEmpty = false := by rw [em] <;> rfl
  have em1 : cd.mro.contains (.type "object") = true := by rw [em, List.contains_cons, bas.ob, Bool.or_true]
  have lt : z ≠ m.objs.size := Nat.ne_of_lt (Heap.lt_size at_)
  have isO : W.Looks (model pr wo) m (isInstance (.ref z) (.type "object")) true := J.type.andThen (W.looks_mroIn KI (by unfold W.mroIn; rw [ec, Option.bind_some, if_neg (by rw [em0]; decide), em1]))
  refine codeAny_call_builtin F.store_object.slot.plain F.store_object.entry (@W.check_slot (model pr wo) _ _ ⟨m, ge, dr, tn, oss⟩ "object.__setattr__" "object" "__setattr__" (.ref z) [.str key kt, val] [] _ F.store_object.kind F.store_object.split isO (F.store_object.args (.ref z) (.str key kt) val) ?_)
  have lm : W.Looks (model pr wo) m (mroOf (.ref C)) cd.mro := (W.looks_clsIn KI ec).andThen .now
  have l3 : W.Looks (model pr wo) m (storeTaker? none) none := .now
  have lc : W.Looks (model pr wo) m (classData C) cd := W.looks_clsIn KI ec
  rw [W.osa_eq, refuse_eq]
  refine wpAny_bind (wpAny_bind (J.type.at (wpAny_bind (lm.at ?_))))
  rw [em, refuseLoop_ref, bas.pass]
  refine wpAny_pure (wpAny_bind (J.type.at (wpAny_bind ((W.looks_findIn KI no).at (wpAny_bind (l3.at ?_))))))
  show wpAny _ _ (storeInOwnDict (.ref z) (.ref C) (.str key kt) key val false) _ _ _
  clear em em0 em1
  obtain ⟨c1, c2, c3, c4, c5, hd, c7, c8, c9, c10, c11⟩ := cd
  dsimp only at ed
  subst ed
  unfold storeInOwnDict ownDictForStores
  repeat (first | with_reducible refine store_in_new ?_ ?_ | with_reducible refine wpAny_loadPart_at at_ ?_ | with_reducible refine lc.at ?_ | wp_step)
  · exact ⟨_, #[], _, (Heap.get?_update_ne _ _ _ _ lt.symm).trans (Heap.get?_push_at rfl rfl), rfl, fun e he => absurd he (by simp), fun _ => rfl⟩
  · intro m' kt' hn hs
    have a1 : (m.push { cls := .type "dict", data := .dict #[] }).get? z = some { cls := .ref C, data := .fields fv } := Heap.get?_push_of_some _ at_
    refine go m' kt' m.objs.size (fun b o hb ho => ?_) (Nat.le_refl _) lt.symm ?_ hn
    · exact (hs.2 b (Nat.ne_of_lt (Heap.lt_size ho))).trans ((Heap.get?_update_ne _ _ _ _ hb).trans (Heap.get?_push_of_some _ ho))
    · exact (hs.2 z lt).trans (Heap.get?_update_self _ a1 rfl)
end
end Gx
namespace L2
open PySem PySem.Spec PyProof.Rows
/-- what the written part says of an own exception class right under one of the five -/
structure OexA (K : PySem.W.Frag) (C : Addr) : Prop where
  cls : ∃ nm q N bs bm sn sub ab col dd k0 k1 k2 k3 k5 n, K.lookup C = some (excClassObj nm q C N bs bm true sn sub ab col dd k0 k1 k2 k3 k5 n) ∧ Gx.Bas n bm
  sa : PySem.W.findIn K (.ref C) "__setattr__" = some (some (.builtin "object.__setattr__"))
  exC : PySem.W.subIn K (.ref C) (.type "BaseException") = some true
  tyC : PySem.W.typeIn K (.ref C) = some (.type "type")
  kC : PySem.W.keepIn K (.ref C) = true
def oexAB (K : PySem.W.Frag) (C : Addr) : Bool := (match K.lookup C with
  | some ⟨.type T, _, .cls cd, sl⟩ => (match cd.mro, sl.toList with
    | .ref C' :: bm, [_, _, _, _, some (.builtin n), _] => decide (T = "type") && (decide (C' = C) && (decide ((n, bm) ∈ Gx.bases) && (!cd.hasDel && cd.hasDict)))
    | _, _ => false)
  | _ => false) && (Hc.oo (PySem.W.findIn K (.ref C) "__setattr__") (.builtin "object.__setattr__") && (decide (PySem.W.subIn K (.ref C) (.type "BaseException") = some true) && (decide (PySem.W.typeIn K (.ref C) = some (.type "type")) && PySem.W.keepIn K (.ref C))))
theorem oexAB_ok {K : PySem.W.Frag} {C : Addr} (h : oexAB K C = true) : OexA K C := by
  unfold oexAB at h
  simp only [Bool.and_eq_true] at h
  obtain ⟨h1, h2, h3, h4, h5⟩ := h
  refine ⟨?_, Hc.oo_ok h2, of_decide_eq_true h3, of_decide_eq_true h4, h5⟩
  split at h1
  · rename_i T dd cd sl ho
    split at h1
    · rename_i C' bm k0 k1 k2 k3 n k5 hm hs
      simp only [Bool.and_eq_true, Bool.not_eq_true'] at h1
      obtain ⟨e1, e2, e3, hdel, hd⟩ := h1
      have e1 : T = "type" := of_decide_eq_true e1
      have e2 : C' = C := of_decide_eq_true e2
      have e3 : (n, bm) ∈ Gx.bases := of_decide_eq_true e3
      subst e1 e2
      obtain ⟨nm, bs, mro, ns, qn, hdd, sn, sub, ab, col, del⟩ := cd
      dsimp only at hm hdel hd
      subst hm hdel hd
      have hsl : sl = #[k0, k1, k2, k3, some (.builtin n), k5] := by
        obtain ⟨l⟩ := sl
        simp only at hs
        rw [hs]
      subst hsl
      exact ⟨nm, qn, ns, bs, bm, sn, sub, ab, col, dd, k0, k1, k2, k3, k5, n, ho, Gx.bas_ok e3⟩
    · cases h1
  · cases h1
section
variable {X : Cx} {pp : List (Addr × Obj)} {sg : St} {H : Hp} {sh : Shared} {a C : Addr} {f : Str} {y : V} {u : Value} {Q : Unit → Shared → Prop} {E : Value → Shared → Prop} {A : Around}
/-- self.f = y, the first and only one -/
theorem osa_ok (T : OexA X.K C) (I : Inv X pp sg H sh) (ea : H a = some (exo a C none)) (no : PySem.W.findIn X.K (.ref C) f = some none) (ry : RelV y u)
    (go : ∀ dx s', H dx = none → dx ≠ a → Inv X pp sg (upd (upd H dx (exd dx [(f, y)])) a (exo a C (some dx))) s' → Q () s') : wpAny (model X.prog X.w) A (setAttr (.ref a) f u) Q E sh := by
  obtain ⟨nm, q, N, bs, bm, sn, sub, ab, col, dd, k0, k1, k2, k3, k5, n, at_, bas⟩ := T.cls
  have ec : PySem.W.clsIn X.K C = some { name := nm, bases := bs, mro := .ref C :: bm, ns := N, qualname := q, hasDict := true, slotNames := sn, subclasses := sub, abstract := ab, collection := col, hasDel := false } := by
    unfold PySem.W.clsIn
    rw [at_] <;> rfl
  obtain ⟨t1, ho⟩ := exo_at I.hok ea
  obtain ⟨m, ge, dr, tn, oss⟩ := sh
  refine PySem.W.set_plain I.kIn (ox := { cls := .ref C, dict := none, data := .fields #[.ref t1, .none, .none, .none, .bool false, .none] }) (od := none) ⟨ho, rfl, rfl, trivial⟩ T.sa ?_
  refine Gx.osa_first I.kIn ho ec rfl bas rfl no fun m' kt' dx k dn dne hx hn => ?_
  have free : H dx = none := I.hok.fresh dn
  have ned : ∀ {b : Addr} {o : Obj}, m.get? b = some o → b ≠ dx := fun {b o} r => Nat.ne_of_lt (Nat.lt_of_lt_of_le (Heap.lt_size r) dn)
  have nea : ∀ {b : Addr}, H b = none → b ≠ a := fun {b} r z => by
    subst z
    rw [ea] at r
    cases r
  have U : Un X.fs [] H (upd (upd H dx (exd dx [(f, y)])) a (exo a C (some dx))) m m' := {
    keep := fun b o r r2 _ _ => k b o (nea r2) r
    slot := fun b o r r2 _ _ => ⟨o.slots, k b o (nea r2) r⟩
    free := fun b o r r2 _ => by rw [upd_ne (nea r2), upd_ne (ned r)]; exact r2
    there := fun b o r _ => by
      rcases Classical.em (b = a) with hb | hb
      · subst hb; exact ⟨_, hx⟩
      · exact ⟨o, k b o hb r⟩
    tups := fun b xs r => by rw [upd_ne (at_ne ea r exo_tup), upd_ne (ne_of_none r free)]; exact r
    frzs := fun b o v r => by rw [upd_ne (at_ne ea r exo_frz), upd_ne (ne_of_none r free)]; exact r
    tbls := fun b ps r => ⟨#[], by rw [upd_ne (at_ne ea r exo_tbl), upd_ne (ne_of_none r free), r]; simp⟩ }
  refine go dx _ free dne (I.un (t' := kt') U fun b o r => ?_)
  rcases Classical.em (b = a) with hb | hb
  · subst hb
    rw [upd_same] at r
    cases r
    exact exo_ok hx
  · rw [upd_ne hb] at r
    rcases Classical.em (b = dx) with hd | hd
    · subst hd
      rw [upd_same] at r
      cases r
      exact exd_ok hn (relO_put (fs := []) ry fun _ => True.intro)
    · rw [upd_ne hd] at r
      refine (I.hok b o r).stay (fun c v hc => k c v ?_) (fun c hc => ?_) (fun c xs hc => ?_)
      · rcases hc with hc | hc
        · subst hc; exact hb
        · exact at_ne ea hc exo_own
      · rw [upd_ne (at_ne ea hc exo_own), upd_ne (ne_of_none hc free)]; exact hc
      · rw [upd_ne (at_ne ea hc exo_tup), upd_ne (ne_of_none hc free)]; exact hc
/-- self.f = e, once -/
def tOsa (K : PySem.W.Frag) (f : Str) (to te : TE) : TS := fun D σ H => te σ H fun y H1 => to σ H1 fun x H2 => ∃ a C : Addr, x = .ref a ∧ OexA K C ∧ PySem.W.findIn K (.ref C) f = some none ∧
  H2 a = some (exo a C none) ∧ ∀ dx, H2 dx = none → dx ≠ a → D.nx σ (upd (upd H2 dx (exd dx [(f, y)])) a (exo a C (some dx)))
theorem ps_osa {o e : Expr} {to te : TE} {p' pos : Pos} (ho : PE X o to) (he : PE X e te) (hs : swapsWith e (some (.Attribute o f p')) pos.line X.env = pure false := by rfl) : PS X (.Assign [.Attribute o f p'] e pos) (tOsa X.K f to te) := by
  refine ⟨fun pn s σ H D I h => plainObj_wpAny_Assign_Attribute (thn (he.run pn s σ H _ I h) fun v s1 ⟨y, H1, I1, r1, q1⟩ => thn (ho.run pn s1 σ H1 _ I1 q1) fun u s2 ⟨x, H2, I2, r2, a, C, ex, T, no, ea, q⟩ => ?_) hs⟩
  subst ex
  cases (show u = Value.ref a from r2)
  exact osa_ok T I2 ea no r1 fun dx s' n1 n2 J => ⟨σ, _, J, q dx n1 n2⟩
/-- raise C(e, ..) -/
theorem pmk_oexA {CX : CXT} {e : Expr} {es : List Expr} {ta : TA} {p pos : Pos} {x : Str} {fI : Addr} {k : Nat} {fd : FuncData} {ps : List Str} {sp : Sp} {ds : List Value} {dvs : List V} (T : OexA X.K C) (iC : PySem.W.findIn X.K (.ref C) "__init__" = some (some (.ref fI)))
    (tI : PySem.W.typeIn X.K (.ref fI) = some (.type "function")) (G : FnOk X.prog X.w X.K X.mg X.base CX k fI fd ps sp) (hr : Room (k + 1) X.A) (hb : Binds X.K fd ps ds) (hd : Vals dvs ds) (hx : Passes CX X (fun _ _ _ => False)) (hg : Gl X x) (hm : X.mg x = some (.ref C))
    (ha : PA X (e :: es) ta) (hdb : (x == ("__debug__" : Str)) = false := by decide) (he : starEach (e :: es) X.env = (false, eval e X.env) :: starEach es X.env := by rfl) (hpl : (backTo pos (starEach es X.env)).any (·.1) = false := by rfl) :
    PMk X (.Call (.Name x p) (e :: es) [] pos) (tMkO C sp dvs ta) := by
  intro pn s σ H Q I h
  obtain ⟨nm, q, N, bs, bm, sn, sub, ab, col, dd, k0, k1, k2, k3, k5, n, at_, bas⟩ := T.cls
  obtain ⟨B, i0, F⟩ := bas.F
  refine wpAny_Call_Name_kw (ld_glob I hg hm ?_ hdb)
  refine PySem.W.callWith_K (h₀ := X.base) I.ok.mod.kin T.kC (thn (ha.run pos pn s σ H _ I h) fun us s1 ⟨vs, H1, I1, r1, hz, q1⟩ => ⟨I1.kIn, ?_⟩) he hpl
  show wpAny _ _ (call (.ref C) us) _ _ _
  obtain ⟨m, g, dr, tk, os⟩ := s1
  have lt : m.objs.size ≤ m.objs.size + 1 := Nat.le_succ _
  have hq := q1 (m.objs.size + 1) (I1.hok.fresh lt)
  have kk : ∀ b o, m.get? b = some o → ((m.push (PySem.W.kdv_tup us)).push (PySem.HandSPX.excO C m.objs.size)).get? b = some o := fun b o r => Heap.get?_push_of_some _ (Heap.get?_push_of_some _ r)
  have ge : ((m.push (PySem.W.kdv_tup us)).push (PySem.HandSPX.excO C m.objs.size)).get? (m.objs.size + 1) = some (PySem.HandSPX.excO C m.objs.size) := by heap_get
  have I2 : Inv X pn σ (upd H1 (m.objs.size + 1) (exo (m.objs.size + 1) C none)) ⟨(m.push (PySem.W.kdv_tup us)).push (PySem.HandSPX.excO C m.objs.size), g, dr, tk, os⟩ :=
    I1.laid (t' := tk) (a := m.objs.size + 1) (o := exo (m.objs.size + 1) C none) (h' := (m.push (PySem.W.kdv_tup us)).push (PySem.HandSPX.excO C m.objs.size)) kk lt (exo_ok ge)
  have r2 : Vals (V.ref (m.objs.size + 1) :: (vs ++ dvs)) (Value.ref (m.objs.size + 1) :: (us ++ ds)) := .cons rfl (r1.append hd)
  have l1 : (Value.ref (m.objs.size + 1) :: us ++ ds).length = ps.length := (G.len _ _ _ _ hq ▸ r2.length).symm
  have l2 : us.length ≤ sizeLine := by
    have := Paired.length r1
    rw [sizeLine_eq]
    omega
  refine wpAny_call (PySem.HandSPX.call_own F (fun _ => rfl) (I1.kIn _ _ at_) (PySem.W.looks_findIn I1.kIn iC) (fun v => PySem.W.bind_fn I1.kIn v tI) l2
    (codeAny_mono (G.run _ X.stack _ _ ⟨Value.ref (m.objs.size + 1) :: us, []⟩ (Value.ref (m.objs.size + 1) :: (us ++ ds)) _ _ (fun _ _ _ => False) (hr.make C us []) (I2.env0.make C us []) (hb _ (Value.ref (m.objs.size + 1) :: us) I2.kIn l1) r2 hq) fun r s' z => ?_))
  match r, z with
  | .error er, z => exact hx pn σ _ _ er s' I2 z
  | .ok (.ret u), z =>
    obtain ⟨v, H2, os2, bare2, un2, hok2, rv, ev, d, fs, e1, e2, e3, q2⟩ := z
    subst ev
    obtain ⟨h2, g2, d2, t2, os'⟩ := s'
    exact ⟨rv, mk_end (raises_own T.exC T.tyC) I1 lt kk un2 hok2 os2 bare2 e1 e2 e3 q2⟩
end
end L2
set_option Elab.async false
set_option linter.all false
set_option maxRecDepth 100000
set_option maxHeartbeats 4000000
/-! R20: x + y of two instances of a class with __add__; slices of tuples by the heap. -/
namespace Xs
open PySem PySem.Spec PyProof.Rows L2
/-- what is asked of the class at C: f its __add__ -/
structure AddC (K : PySem.W.Frag) (C f : Addr) : Prop where
  at_ : PySem.W.findIn K (.ref C) "__add__" = some (some (.ref f))
  fn : PySem.W.isFn K (.ref f) = true
  first : PySem.W.selfFirst K C = true
section
variable {X : Cx} {C f : Addr} {n : Nat} {sp : Sp}
def rAddO (C : Addr) (sp : Sp) : R2 := fun x y H Q => ∃ a b dx dy fs gs, x = .ref a ∧ y = .ref b ∧ H a = some (.ins C dx fs) ∧ H b = some (.ins C dy gs) ∧ sp [.ref a, .ref b] H Q E0
theorem op_addO (F : FnR X.prog X.w X.K X.mg X.base CX0 n f sp) (hr : Room n X.A) (T : AddC X.K C f) : OpR X (binaryOp .Add) (rAddO C sp) := by
  intro pins s σ H x y v u Q I rx ry h
  obtain ⟨a, b, dx, dy, fs, gs, rfl, rfl, ea, eb, h⟩ := h
  cases rx
  cases ry
  obtain ⟨mA, O, _⟩ := ins_get I.hok ea
  obtain ⟨od, J, _⟩ := O.look
  obtain ⟨mB, O2, _⟩ := ins_get I.hok eb
  obtain ⟨od2, J2, _⟩ := O2.look
  obtain ⟨m, hF⟩ := I.fr
  refine PySem.W.binop_K (op := .Add) hF I.ok.mod.kin J J2.type T.first T.at_ T.fn (wpAny_mono (Xr.run_sp (A := X.A) (vs := [.ref a, .ref b]) F hr I.ok.frames I (.cons rfl (.cons rfl .nil)) h) (fun r s' hv => ?_) fun _ _ e => e)
  obtain ⟨z, H', I', rz, q⟩ := hv
  have q' : EP X pins σ Q r s' := ⟨z, H', I', rz, q⟩
  cases z with
  | non => cases (show r = Value.none from rz); exact q'
  | bl b => cases (show r = Value.bool b from rz); exact q'
  | int i => obtain ⟨t, e⟩ := (show ∃ t, r = Value.int i t from rz); subst e; exact q'
  | str i => obtain ⟨t, e⟩ := (show ∃ t, r = Value.str i t from rz); subst e; exact q'
  | byt i => obtain ⟨t, e⟩ := (show ∃ t, r = Value.bytes i t from rz); subst e; exact q'
  | flt i => obtain ⟨t, e⟩ := (show ∃ t, r = Value.float i t from rz); subst e; exact q'
  | ref p => cases (show r = Value.ref p from rz); exact q'
  | ty n => cases (show r = Value.type n from rz); exact q'
/-- t[lo:hi], t a tuple of the heap, not the whole of it -/
def hSlT : V → Option Int → Option Int → Hp → VK → Prop := fun x lo hi H Q => match x with
  | .ref a => (match H a with
    | some (.tup xs) => ¬ (HT.sIx xs.length 0 lo = 0 ∧ HT.sIx xs.length xs.length hi = xs.length) ∧ ∀ p, H p = none → Q (.ref p) (upd H p (.tup (cutV xs lo hi)))
    | _ => False)
  | _ => False
theorem hs_tup : SlR X hSlT := fun pins s σ H x v vl vu lo hi sl Q I rx hs pl pu h => by
  unfold hSlT at h
  split at h
  · split at h
    · exact sl_tup pins s σ H _ v vl vu lo hi sl Q I rx hs pl pu ⟨_, _, rfl, .inl (Rd.of ‹_›), h.1, h.2⟩
    · exact h.elim
  · exact h.elim
theorem slT_at {H : Hp} {a : Addr} {xs ys : List V} {lo hi : Option Int} {Q : VK} (h : H a = some (.tup xs)) (hw : ¬ (HT.sIx xs.length 0 lo = 0 ∧ HT.sIx xs.length xs.length hi = xs.length)) (e : cutV xs lo hi = ys) (q : ∀ p, H p = none → Q (.ref p) (upd H p (.tup ys))) : hSlT (.ref a) lo hi H Q := by
  unfold hSlT
  dsimp only
  rw [h]
  exact ⟨hw, by rw [e]; exact q⟩
theorem catT_ok {K : PySem.W.Frag} {H : Hp} {p r : Addr} {xs ys : List V} {Q : VK} (hp : H p = some (.tup xs)) (hq : H r = some (.tup ys)) (hx : xs ≠ []) (hy : ys ≠ []) (hl : xs.length + ys.length ≤ sizeLine) (k : ∀ t, H t = none → Q (.ref t) (upd H t (.tup (xs ++ ys)))) : rCatT K (.ref p) (.ref r) H Q :=
  ⟨_, _, _, _, rfl, rfl, .inl (Rd.of hp), .inl (Rd.of hq), hx, hl, fun e => absurd e hy, fun _ => k⟩
end
end Xs
set_option Elab.async false
set_option linter.all false
set_option maxRecDepth 100000
set_option maxHeartbeats 0
namespace Hd
open PySem PySem.Spec PyProof.Rows L2
def top (i : Nat) : Stmt := PySem.Challenge.pw_urlplaces_k50_wrong_places.main.body.getD i (.Pass ⟨0, 0, 0, 0⟩)
abbrev s_stack : Stmt := top 6
def d_stack : He5.DefA := ⟨fun K => He.ga K "stack", "stack", "stack", defArgs s_stack, defBody s_stack, defScope s_stack, [], []⟩
abbrev s_cleaned : Stmt := top 7
def d_cleaned : He5.DefA := ⟨fun K => He.ga K "cleaned", "cleaned", "cleaned", defArgs s_cleaned, defBody s_cleaned, defScope s_cleaned, [], [(("has_authority" : Str), .bl true)]⟩
abbrev s_path_of : Stmt := top 8
def d_path_of : He5.DefA := ⟨fun K => He.ga K "path_of", "path_of", "path_of", defArgs s_path_of, defBody s_path_of, defScope s_path_of, [], []⟩
abbrev s_join : Stmt := top 9
def d_join : He5.DefA := ⟨fun K => He.ga K "join", "join", "join", defArgs s_join, defBody s_join, defScope s_join, [], []⟩
abbrev s_folder : Stmt := top 10
def d_folder : He5.DefA := ⟨fun K => He.ga K "folder", "folder", "folder", defArgs s_folder, defBody s_folder, defScope s_folder, [], []⟩
abbrev s_signs_of : Stmt := top 16
def d_signs_of : He5.DefA := ⟨fun K => He.ga K "signs_of", "signs_of", "signs_of", defArgs s_signs_of, defBody s_signs_of, defScope s_signs_of, [], []⟩
abbrev s_begins_with_octet : Stmt := top 17
def d_begins_with_octet : He5.DefA := ⟨fun K => He.ga K "begins_with_octet", "begins_with_octet", "begins_with_octet", defArgs s_begins_with_octet, defBody s_begins_with_octet, defScope s_begins_with_octet, [], []⟩
abbrev s_wrong_place : Stmt := top 23
def d_wrong_place : He5.DefA := ⟨fun K => He.ga K "wrong_place", "wrong_place", "wrong_place", defArgs s_wrong_place, defBody s_wrong_place, defScope s_wrong_place, [], []⟩
abbrev s__wrong_in_scheme : Stmt := top 24
def d__wrong_in_scheme : He5.DefA := ⟨fun K => He.ga K "_wrong_in_scheme", "_wrong_in_scheme", "_wrong_in_scheme", defArgs s__wrong_in_scheme, defBody s__wrong_in_scheme, defScope s__wrong_in_scheme, [], []⟩
abbrev s__wrong_in_port : Stmt := top 25
def d__wrong_in_port : He5.DefA := ⟨fun K => He.ga K "_wrong_in_port", "_wrong_in_port", "_wrong_in_port", defArgs s__wrong_in_port, defBody s__wrong_in_port, defScope s__wrong_in_port, [], []⟩
abbrev s__wrong_in_brackets : Stmt := top 26
def d__wrong_in_brackets : He5.DefA := ⟨fun K => He.ga K "_wrong_in_brackets", "_wrong_in_brackets", "_wrong_in_brackets", defArgs s__wrong_in_brackets, defBody s__wrong_in_brackets, defScope s__wrong_in_brackets, [], []⟩
abbrev s__wrong_among : Stmt := top 27
def d__wrong_among : He5.DefA := ⟨fun K => He.ga K "_wrong_among", "_wrong_among", "_wrong_among", defArgs s__wrong_among, defBody s__wrong_among, defScope s__wrong_among, [], []⟩
abbrev s__first_other : Stmt := top 28
def d__first_other : He5.DefA := ⟨fun K => He.ga K "_first_other", "_first_other", "_first_other", defArgs s__first_other, defBody s__first_other, defScope s__first_other, [], []⟩
abbrev s__is_part : Stmt := top 31
def d__is_part : He5.DefA := ⟨fun K => He.ga K "_is_part", "_is_part", "_is_part", defArgs s__is_part, defBody s__is_part, defScope s__is_part, [], []⟩
abbrev s__is_possible : Stmt := top 32
def d__is_possible : He5.DefA := ⟨fun K => He.ga K "_is_possible", "_is_possible", "_is_possible", defArgs s__is_possible, defBody s__is_possible, defScope s__is_possible, [], []⟩
abbrev s_parse : Stmt := top 34
def d_parse : He5.DefA := ⟨fun K => He.ga K "parse", "parse", "parse", defArgs s_parse, defBody s_parse, defScope s_parse, [], []⟩
abbrev s_is_url : Stmt := top 35
def d_is_url : He5.DefA := ⟨fun K => He.ga K "is_url", "is_url", "is_url", defArgs s_is_url, defBody s_is_url, defScope s_is_url, [], []⟩
abbrev s__split : Stmt := top 36
def d__split : He5.DefA := ⟨fun K => He.ga K "_split", "_split", "_split", defArgs s__split, defBody s__split, defScope s__split, [], []⟩
abbrev s__split_beginning : Stmt := top 37
def d__split_beginning : He5.DefA := ⟨fun K => He.ga K "_split_beginning", "_split_beginning", "_split_beginning", defArgs s__split_beginning, defBody s__split_beginning, defScope s__split_beginning, [], []⟩
abbrev s__split_authority : Stmt := top 38
def d__split_authority : He5.DefA := ⟨fun K => He.ga K "_split_authority", "_split_authority", "_split_authority", defArgs s__split_authority, defBody s__split_authority, defScope s__split_authority, [], []⟩
abbrev s__end_of_host : Stmt := top 39
def d__end_of_host : He5.DefA := ⟨fun K => He.ga K "_end_of_host", "_end_of_host", "_end_of_host", defArgs s__end_of_host, defBody s__end_of_host, defScope s__end_of_host, [], []⟩
abbrev s__law_bag : Stmt := top 41
def d__law_bag : He5.DefA := ⟨fun K => He.ga K "_law_bag", "_law_bag", "_law_bag", defArgs s__law_bag, defBody s__law_bag, defScope s__law_bag, [], []⟩
abbrev s__law_take : Stmt := top 42
def d__law_take : He5.DefA := ⟨fun K => He.ga K "_law_take", "_law_take", "_law_take", defArgs s__law_take, defBody s__law_take, defScope s__law_take, [], []⟩
abbrev s__law_word : Stmt := top 43
def d__law_word : He5.DefA := ⟨fun K => He.ga K "_law_word", "_law_word", "_law_word", defArgs s__law_word, defBody s__law_word, defScope s__law_word, [], []⟩
abbrev s__law_authority : Stmt := top 44
def d__law_authority : He5.DefA := ⟨fun K => He.ga K "_law_authority", "_law_authority", "_law_authority", defArgs s__law_authority, defBody s__law_authority, defScope s__law_authority, [], []⟩
abbrev s__law_path : Stmt := top 45
def d__law_path : He5.DefA := ⟨fun K => He.ga K "_law_path", "_law_path", "_law_path", defArgs s__law_path, defBody s__law_path, defScope s__law_path, [], []⟩
abbrev s__law_parts : Stmt := top 46
def d__law_parts : He5.DefA := ⟨fun K => He.ga K "_law_parts", "_law_parts", "_law_parts", defArgs s__law_parts, defBody s__law_parts, defScope s__law_parts, [], []⟩
abbrev s__law_text : Stmt := top 47
def d__law_text : He5.DefA := ⟨fun K => He.ga K "_law_text", "_law_text", "_law_text", defArgs s__law_text, defBody s__law_text, defScope s__law_text, [], []⟩
abbrev s__law_is_hexadecimal : Stmt := top 48
def d__law_is_hexadecimal : He5.DefA := ⟨fun K => He.ga K "_law_is_hexadecimal", "_law_is_hexadecimal", "_law_is_hexadecimal", defArgs s__law_is_hexadecimal, defBody s__law_is_hexadecimal, defScope s__law_is_hexadecimal, [], []⟩
abbrev s__law_wrong_signs : Stmt := top 49
def d__law_wrong_signs : He5.DefA := ⟨fun K => He.ga K "_law_wrong_signs", "_law_wrong_signs", "_law_wrong_signs", defArgs s__law_wrong_signs, defBody s__law_wrong_signs, defScope s__law_wrong_signs, [], []⟩
abbrev s__law_wrong_scheme : Stmt := top 50
def d__law_wrong_scheme : He5.DefA := ⟨fun K => He.ga K "_law_wrong_scheme", "_law_wrong_scheme", "_law_wrong_scheme", defArgs s__law_wrong_scheme, defBody s__law_wrong_scheme, defScope s__law_wrong_scheme, [], []⟩
abbrev s__law_wrong_port : Stmt := top 51
def d__law_wrong_port : He5.DefA := ⟨fun K => He.ga K "_law_wrong_port", "_law_wrong_port", "_law_wrong_port", defArgs s__law_wrong_port, defBody s__law_wrong_port, defScope s__law_wrong_port, [], []⟩
abbrev s__law_wrong_bracket : Stmt := top 52
def d__law_wrong_bracket : He5.DefA := ⟨fun K => He.ga K "_law_wrong_bracket", "_law_wrong_bracket", "_law_wrong_bracket", defArgs s__law_wrong_bracket, defBody s__law_wrong_bracket, defScope s__law_wrong_bracket, [], []⟩
abbrev s__law_plain_signs : Stmt := top 53
def d__law_plain_signs : He5.DefA := ⟨fun K => He.ga K "_law_plain_signs", "_law_plain_signs", "_law_plain_signs", defArgs s__law_plain_signs, defBody s__law_plain_signs, defScope s__law_plain_signs, [], []⟩
abbrev s__law_read_authority : Stmt := top 54
def d__law_read_authority : He5.DefA := ⟨fun K => He.ga K "_law_read_authority", "_law_read_authority", "_law_read_authority", defArgs s__law_read_authority, defBody s__law_read_authority, defScope s__law_read_authority, [], []⟩
abbrev s__law_read : Stmt := top 55
def d__law_read : He5.DefA := ⟨fun K => He.ga K "_law_read", "_law_read", "_law_read", defArgs s__law_read, defBody s__law_read, defScope s__law_read, [], []⟩
abbrev s__law_shown : Stmt := top 56
def d__law_shown : He5.DefA := ⟨fun K => He.ga K "_law_shown", "_law_shown", "_law_shown", defArgs s__law_shown, defBody s__law_shown, defScope s__law_shown, [], []⟩
abbrev s__law_told : Stmt := top 57
def d__law_told : He5.DefA := ⟨fun K => He.ga K "_law_told", "_law_told", "_law_told", defArgs s__law_told, defBody s__law_told, defScope s__law_told, [], []⟩
abbrev s__law_bent : Stmt := top 58
def d__law_bent : He5.DefA := ⟨fun K => He.ga K "_law_bent", "_law_bent", "_law_bent", defArgs s__law_bent, defBody s__law_bent, defScope s__law_bent, [], []⟩
abbrev s_law : Stmt := top 59
def d_law : He5.DefA := ⟨fun K => He.ga K "law", "law", "law", defArgs s_law, defBody s_law, defScope s_law, [], []⟩
abbrev s_BadUrl___init__ : Stmt := inClass (top 1) 0
def d_BadUrl___init__ : He5.DefA := ⟨fun K => He.ma K (He.ga K "BadUrl") "__init__", "__init__", "BadUrl.__init__", defArgs s_BadUrl___init__, defBody s_BadUrl___init__, defScope s_BadUrl___init__, [], []⟩
abbrev s_BadPart___init__ : Stmt := inClass (top 2) 0
def d_BadPart___init__ : He5.DefA := ⟨fun K => He.ma K (He.ga K "BadPart") "__init__", "__init__", "BadPart.__init__", defArgs s_BadPart___init__, defBody s_BadPart___init__, defScope s_BadPart___init__, [], []⟩
abbrev s_NoBase___init__ : Stmt := inClass (top 3) 0
def d_NoBase___init__ : He5.DefA := ⟨fun K => He.ma K (He.ga K "NoBase") "__init__", "__init__", "NoBase.__init__", defArgs s_NoBase___init__, defBody s_NoBase___init__, defScope s_NoBase___init__, [], []⟩
abbrev s_NoText___init__ : Stmt := inClass (top 4) 0
def d_NoText___init__ : He5.DefA := ⟨fun K => He.ma K (He.ga K "NoText") "__init__", "__init__", "NoText.__init__", defArgs s_NoText___init__, defBody s_NoText___init__, defScope s_NoText___init__, [], []⟩
abbrev s_Url___init__ : Stmt := inClass (top 30) 1
def d_Url___init__ : He5.DefA := ⟨fun K => He.ma K (He.ga K "Url") "__init__", "__init__", "Url.__init__", defArgs s_Url___init__, defBody s_Url___init__, defScope s_Url___init__, [], []⟩
abbrev s_Url_of : Stmt := inClass (top 30) 2
def d_Url_of : He5.DefA := ⟨fun K => He5.wf K (He.ga K "Url") "classmethod" "of", "of", "Url.of", defArgs s_Url_of, defBody s_Url_of, defScope s_Url_of, [], [(("scheme" : Str), .non), (("user" : Str), .non), (("host" : Str), .non), (("port" : Str), .non), (("path" : Str), .str ""), (("query" : Str), .non), (("fragment" : Str), .non)]⟩
abbrev s_Url_replaced : Stmt := inClass (top 30) 3
def d_Url_replaced : He5.DefA := ⟨fun K => He.ma K (He.ga K "Url") "replaced", "replaced", "Url.replaced", defArgs s_Url_replaced, defBody s_Url_replaced, defScope s_Url_replaced, [], []⟩
abbrev s_Url_scheme : Stmt := inClass (top 30) 4
def d_Url_scheme : He5.DefA := ⟨fun K => He5.wf K (He.ga K "Url") "property" "scheme", "scheme", "Url.scheme", defArgs s_Url_scheme, defBody s_Url_scheme, defScope s_Url_scheme, [], []⟩
abbrev s_Url_user : Stmt := inClass (top 30) 5
def d_Url_user : He5.DefA := ⟨fun K => He5.wf K (He.ga K "Url") "property" "user", "user", "Url.user", defArgs s_Url_user, defBody s_Url_user, defScope s_Url_user, [], []⟩
abbrev s_Url_host : Stmt := inClass (top 30) 6
def d_Url_host : He5.DefA := ⟨fun K => He5.wf K (He.ga K "Url") "property" "host", "host", "Url.host", defArgs s_Url_host, defBody s_Url_host, defScope s_Url_host, [], []⟩
abbrev s_Url_port : Stmt := inClass (top 30) 7
def d_Url_port : He5.DefA := ⟨fun K => He5.wf K (He.ga K "Url") "property" "port", "port", "Url.port", defArgs s_Url_port, defBody s_Url_port, defScope s_Url_port, [], []⟩
abbrev s_Url_path : Stmt := inClass (top 30) 8
def d_Url_path : He5.DefA := ⟨fun K => He5.wf K (He.ga K "Url") "property" "path", "path", "Url.path", defArgs s_Url_path, defBody s_Url_path, defScope s_Url_path, [], []⟩
abbrev s_Url_query : Stmt := inClass (top 30) 9
def d_Url_query : He5.DefA := ⟨fun K => He5.wf K (He.ga K "Url") "property" "query", "query", "Url.query", defArgs s_Url_query, defBody s_Url_query, defScope s_Url_query, [], []⟩
abbrev s_Url_fragment : Stmt := inClass (top 30) 10
def d_Url_fragment : He5.DefA := ⟨fun K => He5.wf K (He.ga K "Url") "property" "fragment", "fragment", "Url.fragment", defArgs s_Url_fragment, defBody s_Url_fragment, defScope s_Url_fragment, [], []⟩
abbrev s_Url_has_authority : Stmt := inClass (top 30) 11
def d_Url_has_authority : He5.DefA := ⟨fun K => He5.wf K (He.ga K "Url") "property" "has_authority", "has_authority", "Url.has_authority", defArgs s_Url_has_authority, defBody s_Url_has_authority, defScope s_Url_has_authority, [], []⟩
abbrev s_Url_is_base : Stmt := inClass (top 30) 12
def d_Url_is_base : He5.DefA := ⟨fun K => He5.wf K (He.ga K "Url") "property" "is_base", "is_base", "Url.is_base", defArgs s_Url_is_base, defBody s_Url_is_base, defScope s_Url_is_base, [], []⟩
abbrev s_Url_is_opaque : Stmt := inClass (top 30) 13
def d_Url_is_opaque : He5.DefA := ⟨fun K => He5.wf K (He.ga K "Url") "property" "is_opaque", "is_opaque", "Url.is_opaque", defArgs s_Url_is_opaque, defBody s_Url_is_opaque, defScope s_Url_is_opaque, [], []⟩
abbrev s_Url___add__ : Stmt := inClass (top 30) 14
def d_Url___add__ : He5.DefA := ⟨fun K => He.ma K (He.ga K "Url") "__add__", "__add__", "Url.__add__", defArgs s_Url___add__, defBody s_Url___add__, defScope s_Url___add__, [], []⟩
abbrev s_Url___eq__ : Stmt := inClass (top 30) 15
def d_Url___eq__ : He5.DefA := ⟨fun K => He.ma K (He.ga K "Url") "__eq__", "__eq__", "Url.__eq__", defArgs s_Url___eq__, defBody s_Url___eq__, defScope s_Url___eq__, [], []⟩
abbrev s_Url___len__ : Stmt := inClass (top 30) 16
def d_Url___len__ : He5.DefA := ⟨fun K => He.ma K (He.ga K "Url") "__len__", "__len__", "Url.__len__", defArgs s_Url___len__, defBody s_Url___len__, defScope s_Url___len__, [], []⟩
abbrev s_Url___repr__ : Stmt := inClass (top 30) 17
def d_Url___repr__ : He5.DefA := ⟨fun K => He.ma K (He.ga K "Url") "__repr__", "__repr__", "Url.__repr__", defArgs s_Url___repr__, defBody s_Url___repr__, defScope s_Url___repr__, [], []⟩
abbrev s_Url___str__ : Stmt := inClass (top 30) 18
def d_Url___str__ : He5.DefA := ⟨fun K => He.ma K (He.ga K "Url") "__str__", "__str__", "Url.__str__", defArgs s_Url___str__, defBody s_Url___str__, defScope s_Url___str__, [], []⟩
def fn0 : List He5.DefA := [d_stack, d_cleaned, d_path_of, d_join, d_folder, d_signs_of, d_begins_with_octet, d_wrong_place, d__wrong_in_scheme, d__wrong_in_port, d__wrong_in_brackets, d__wrong_among, d__first_other, d__is_part, d__is_possible, d_parse, d_is_url, d__split, d__split_beginning, d__split_authority, d__end_of_host, d__law_bag, d__law_take, d__law_word, d__law_authority, d__law_path, d__law_parts, d__law_text, d__law_is_hexadecimal, d__law_wrong_signs]
def fn1 : List He5.DefA := [d__law_wrong_scheme, d__law_wrong_port, d__law_wrong_bracket, d__law_plain_signs, d__law_read_authority, d__law_read, d__law_shown, d__law_told, d__law_bent, d_law, d_BadUrl___init__, d_BadPart___init__, d_NoBase___init__, d_NoText___init__, d_Url___init__, d_Url_of, d_Url_replaced, d_Url_scheme, d_Url_user, d_Url_host, d_Url_port, d_Url_path, d_Url_query, d_Url_fragment, d_Url_has_authority, d_Url_is_base, d_Url_is_opaque, d_Url___add__, d_Url___eq__, d_Url___len__]
def fn2 : List He5.DefA := [d_Url___repr__, d_Url___str__]
def fn : List He5.DefA := fn0 ++ fn1 ++ fn2
def fa0 : List He.Fa := [.glo "stack", .glo "cleaned", .glo "path_of", .glo "join", .glo "folder", .glo "signs_of", .glo "begins_with_octet", .glo "wrong_place", .glo "_wrong_in_scheme", .glo "_wrong_in_port", .glo "_wrong_in_brackets", .glo "_wrong_among", .glo "_first_other", .glo "_is_part", .glo "_is_possible", .glo "parse", .glo "is_url", .glo "_split", .glo "_split_beginning", .glo "_split_authority", .glo "_end_of_host", .glo "_law_bag", .glo "_law_take", .glo "_law_word", .glo "_law_authority", .glo "_law_path", .glo "_law_parts", .glo "_law_text", .glo "_law_is_hexadecimal", .glo "_law_wrong_signs"]
def fa1 : List He.Fa := [.glo "_law_wrong_scheme", .glo "_law_wrong_port", .glo "_law_wrong_bracket", .glo "_law_plain_signs", .glo "_law_read_authority", .glo "_law_read", .glo "_law_shown", .glo "_law_told", .glo "_law_bent", .glo "law", .glo "BadUrl", .glo "BadPart", .glo "NoBase", .glo "NoText", .glo "Url", .free "NotImplemented", .free "TypeError", .free "ValueError", .free "abs", .free "classmethod", .free "dict", .free "enumerate", .free "int", .free "isinstance", .free "len", .free "max", .free "min", .free "property", .free "range", .free "repr"]
def fa2 : List He.Fa := [.free "str", .free "zip", .str "PLAIN" "-.0123456789ABCDEFGHIJKLMNOPQRSTUVWXYZ_abcdefghijklmnopqrstuvwxyz~", .str "INNER" "!$&'()*+,;=", .str "HEXADECIMAL" "0123456789ABCDEFabcdef", .glo "MORE", .str "LETTERS" "ABCDEFGHIJKLMNOPQRSTUVWXYZabcdefghijklmnopqrstuvwxyz", .str "DIGITS" "0123456789", .int "PORT_DIGITS" 5, .int "GREATEST_PORT" 65535, .noat "BadUrl" "kind", .noat "BadUrl" "place", .noat "BadPart" "name", .noat "NoText" "value", .noat "Url" "_parts", .cls "Url", .mkr "Url", .meth "Url" "replaced", .exm "BadUrl" "NoText" false, .exm "BadPart" "NoText" false, .exm "NoBase" "NoText" false, .exm "NoText" "NoText" true, .exm "NoText" "BadUrl" false, .exm "NoText" "BadPart" false, .exm "NoText" "NoBase" false, .exm "BadUrl" "BadUrl" true, .exm "BadUrl" "BadPart" false, .exm "BadUrl" "NoBase" false, .exm "BadPart" "BadUrl" false, .exm "BadPart" "BadPart" true]
def fa3 : List He.Fa := [.exm "BadPart" "NoBase" false, .exm "NoBase" "BadUrl" false, .exm "NoBase" "BadPart" false, .exm "NoBase" "NoBase" true]
def fa : List He.Fa := fa0 ++ fa1 ++ fa2 ++ fa3
def ts : List He.Tab := [(fun K => He.ga K "MORE", [("user" : Str), ("host" : Str), ("path" : Str), ("query" : Str), ("fragment" : Str)])]
def ex0 : List (PySem.W.Frag → Bool) := [(fun K => He.valsB K (He.ga K "MORE") [(("user" : Str), .str ":"), (("host" : Str), .str ""), (("path" : Str), .str ":@/"), (("query" : Str), .str ":@/?"), (("fragment" : Str), .str ":@/?")]), (fun K => Hc.oexB K (He.ga K "BadUrl")), (fun K => xfB K (He.ga K "BadUrl")), (fun K => Hc.iniB K (He.ga K "BadUrl") (He.ma K (He.ga K "BadUrl") "__init__")), (fun K => Hc.oexB K (He.ga K "BadPart")), (fun K => xfB K (He.ga K "BadPart")), (fun K => Hc.iniB K (He.ga K "BadPart") (He.ma K (He.ga K "BadPart") "__init__")), (fun K => Hc.oexB K (He.ga K "NoBase")), (fun K => xfB K (He.ga K "NoBase")), (fun K => Hc.iniB K (He.ga K "NoBase") (He.ma K (He.ga K "NoBase") "__init__")), (fun K => oexAB K (He.ga K "NoText")), (fun K => xfB K (He.ga K "NoText")), (fun K => Hc.iniB K (He.ga K "NoText") (He.ma K (He.ga K "NoText") "__init__")), (fun K => Hc.readB K (He.ga K "Url")), (fun K => Hc.cvalB K (He.ga K "Url") "PARTS"), (fun K => Hc.tupSB K (Hc.cvalP K (He.ga K "Url") "PARTS") [("scheme" : Str), ("user" : Str), ("host" : Str), ("port" : Str), ("path" : Str), ("query" : Str), ("fragment" : Str)]), (fun K => Hc.cmB K (He.ga K "Url") "of" (He5.wf K (He.ga K "Url") "classmethod" "of")), (fun K => Hc.propB K (He.ga K "Url") "scheme" (He5.wf K (He.ga K "Url") "property" "scheme")), (fun K => Hc.propB K (He.ga K "Url") "user" (He5.wf K (He.ga K "Url") "property" "user")), (fun K => Hc.propB K (He.ga K "Url") "host" (He5.wf K (He.ga K "Url") "property" "host")), (fun K => Hc.propB K (He.ga K "Url") "port" (He5.wf K (He.ga K "Url") "property" "port")), (fun K => Hc.propB K (He.ga K "Url") "path" (He5.wf K (He.ga K "Url") "property" "path")), (fun K => Hc.propB K (He.ga K "Url") "query" (He5.wf K (He.ga K "Url") "property" "query")), (fun K => Hc.propB K (He.ga K "Url") "fragment" (He5.wf K (He.ga K "Url") "property" "fragment")), (fun K => Hc.propB K (He.ga K "Url") "has_authority" (He5.wf K (He.ga K "Url") "property" "has_authority")), (fun K => Hc.propB K (He.ga K "Url") "is_base" (He5.wf K (He.ga K "Url") "property" "is_base")), (fun K => Hc.propB K (He.ga K "Url") "is_opaque" (He5.wf K (He.ga K "Url") "property" "is_opaque")), (fun K => PySem.W.selfFirst K (He.ga K "Url")), (fun K => Hc.spcB K (He.ga K "Url") "__add__" (He.ma K (He.ga K "Url") "__add__")), (fun K => Xr.eqcB K (He.ga K "Url") (He.ma K (He.ga K "Url") "__eq__"))]
def ex1 : List (PySem.W.Frag → Bool) := [(fun K => Hc.spcB K (He.ga K "Url") "__eq__" (He.ma K (He.ga K "Url") "__eq__")), (fun K => Hc.spcB K (He.ga K "Url") "__len__" (He.ma K (He.ga K "Url") "__len__")), (fun K => Hc.spcB K (He.ga K "Url") "__repr__" (He.ma K (He.ga K "Url") "__repr__")), (fun K => Hc.spcB K (He.ga K "Url") "__str__" (He.ma K (He.ga K "Url") "__str__"))]
def ex : List (PySem.W.Frag → Bool) := ex0 ++ ex1
def loose0 : List PySem.Str := [("BadUrl" : Str), ("BadPart" : Str), ("NoBase" : Str), ("NoText" : Str), ("stack" : Str), ("cleaned" : Str), ("path_of" : Str), ("join" : Str), ("folder" : Str), ("PLAIN" : Str), ("INNER" : Str), ("HEXADECIMAL" : Str), ("MORE" : Str), ("signs_of" : Str), ("begins_with_octet" : Str), ("LETTERS" : Str), ("DIGITS" : Str), ("PORT_DIGITS" : Str), ("GREATEST_PORT" : Str), ("wrong_place" : Str), ("_wrong_in_scheme" : Str), ("_wrong_in_port" : Str), ("_wrong_in_brackets" : Str), ("_wrong_among" : Str), ("_first_other" : Str), ("Url" : Str), ("_is_part" : Str), ("_is_possible" : Str), ("parse" : Str), ("is_url" : Str)]
def loose1 : List PySem.Str := [("_split" : Str), ("_split_beginning" : Str), ("_split_authority" : Str), ("_end_of_host" : Str), ("_law_bag" : Str), ("_law_take" : Str), ("_law_word" : Str), ("_law_authority" : Str), ("_law_path" : Str), ("_law_parts" : Str), ("_law_text" : Str), ("_law_is_hexadecimal" : Str), ("_law_wrong_signs" : Str), ("_law_wrong_scheme" : Str), ("_law_wrong_port" : Str), ("_law_wrong_bracket" : Str), ("_law_plain_signs" : Str), ("_law_read_authority" : Str), ("_law_read" : Str), ("_law_shown" : Str), ("_law_told" : Str), ("_law_bent" : Str)]
def loose : List PySem.Str := loose0 ++ loose1
abbrev R : PySem.W.OpenRow := PySem.W.OpenLaw.row PySem.Challenge.rw_urlplaces_k50_wrong_places
abbrev hk : PySem.W.Hook := Xb.hook 700 fa fn ts ex
def ob (s : PySem.W.SharedT) : Xb.Al := Xb.obsG 700 fa fn ts ex (HandSHeadRun.getT s)
theorem ob_eq (s : PySem.W.SharedT) : ob s = hk.obs s.abs := Xb.obsG_eq (HandSHeadRun.getT_eq s)
theorem run (w : World) : HandSHeadRun.RunEq R (PySem.W.view R.prog [59]) hk ob 12000 loose w :=
  PySem.W.byRow2 "special-get-raises" (P := fun w => HandSHeadRun.RunEq R (PySem.W.view R.prog [59]) hk ob 12000 loose w) (fun w os => by kernel_rfl) (fun w os => by kernel_rfl) w
end Hd
set_option Elab.async false
set_option linter.all false
set_option maxRecDepth 100000
set_option maxHeartbeats 4000000
namespace Fx
open PySem PySem.Spec PyProof.Rows L2 ClX Hd Xs
structure Ct (w : World) (K : PySem.W.Frag) (mg : Str → Option Value) : Prop where
  says : Xb.Says fa fn ts ex w K
  gl : ∃ h : Heap, K.In h ∧ h.Ns mainGlobals mg
section
variable {w : World} {K : PySem.W.Frag} {mg : Str → Option Value}
theorem g_stack (c : Ct w K mg) : mg "stack" = some (.ref (He.ga K "stack")) := by
  obtain ⟨h, X, G⟩ := c.gl
  exact He.glo_ok X G (c.says.fact 0 (f := .glo "stack") rfl)
theorem g_cleaned (c : Ct w K mg) : mg "cleaned" = some (.ref (He.ga K "cleaned")) := by
  obtain ⟨h, X, G⟩ := c.gl
  exact He.glo_ok X G (c.says.fact 1 (f := .glo "cleaned") rfl)
theorem g_path_of (c : Ct w K mg) : mg "path_of" = some (.ref (He.ga K "path_of")) := by
  obtain ⟨h, X, G⟩ := c.gl
  exact He.glo_ok X G (c.says.fact 2 (f := .glo "path_of") rfl)
theorem g_join (c : Ct w K mg) : mg "join" = some (.ref (He.ga K "join")) := by
  obtain ⟨h, X, G⟩ := c.gl
  exact He.glo_ok X G (c.says.fact 3 (f := .glo "join") rfl)
theorem g_folder (c : Ct w K mg) : mg "folder" = some (.ref (He.ga K "folder")) := by
  obtain ⟨h, X, G⟩ := c.gl
  exact He.glo_ok X G (c.says.fact 4 (f := .glo "folder") rfl)
theorem g_signs_of (c : Ct w K mg) : mg "signs_of" = some (.ref (He.ga K "signs_of")) := by
  obtain ⟨h, X, G⟩ := c.gl
  exact He.glo_ok X G (c.says.fact 5 (f := .glo "signs_of") rfl)
theorem g_begins_with_octet (c : Ct w K mg) : mg "begins_with_octet" = some (.ref (He.ga K "begins_with_octet")) := by
  obtain ⟨h, X, G⟩ := c.gl
  exact He.glo_ok X G (c.says.fact 6 (f := .glo "begins_with_octet") rfl)
theorem g_wrong_place (c : Ct w K mg) : mg "wrong_place" = some (.ref (He.ga K "wrong_place")) := by
  obtain ⟨h, X, G⟩ := c.gl
  exact He.glo_ok X G (c.says.fact 7 (f := .glo "wrong_place") rfl)
theorem g__wrong_in_scheme (c : Ct w K mg) : mg "_wrong_in_scheme" = some (.ref (He.ga K "_wrong_in_scheme")) := by
  obtain ⟨h, X, G⟩ := c.gl
  exact He.glo_ok X G (c.says.fact 8 (f := .glo "_wrong_in_scheme") rfl)
theorem g__wrong_in_port (c : Ct w K mg) : mg "_wrong_in_port" = some (.ref (He.ga K "_wrong_in_port")) := by
  obtain ⟨h, X, G⟩ := c.gl
  exact He.glo_ok X G (c.says.fact 9 (f := .glo "_wrong_in_port") rfl)
theorem g__wrong_in_brackets (c : Ct w K mg) : mg "_wrong_in_brackets" = some (.ref (He.ga K "_wrong_in_brackets")) := by
  obtain ⟨h, X, G⟩ := c.gl
  exact He.glo_ok X G (c.says.fact 10 (f := .glo "_wrong_in_brackets") rfl)
theorem g__wrong_among (c : Ct w K mg) : mg "_wrong_among" = some (.ref (He.ga K "_wrong_among")) := by
  obtain ⟨h, X, G⟩ := c.gl
  exact He.glo_ok X G (c.says.fact 11 (f := .glo "_wrong_among") rfl)
theorem g__first_other (c : Ct w K mg) : mg "_first_other" = some (.ref (He.ga K "_first_other")) := by
  obtain ⟨h, X, G⟩ := c.gl
  exact He.glo_ok X G (c.says.fact 12 (f := .glo "_first_other") rfl)
theorem g__is_part (c : Ct w K mg) : mg "_is_part" = some (.ref (He.ga K "_is_part")) := by
  obtain ⟨h, X, G⟩ := c.gl
  exact He.glo_ok X G (c.says.fact 13 (f := .glo "_is_part") rfl)
theorem g__is_possible (c : Ct w K mg) : mg "_is_possible" = some (.ref (He.ga K "_is_possible")) := by
  obtain ⟨h, X, G⟩ := c.gl
  exact He.glo_ok X G (c.says.fact 14 (f := .glo "_is_possible") rfl)
theorem g_parse (c : Ct w K mg) : mg "parse" = some (.ref (He.ga K "parse")) := by
  obtain ⟨h, X, G⟩ := c.gl
  exact He.glo_ok X G (c.says.fact 15 (f := .glo "parse") rfl)
theorem g_is_url (c : Ct w K mg) : mg "is_url" = some (.ref (He.ga K "is_url")) := by
  obtain ⟨h, X, G⟩ := c.gl
  exact He.glo_ok X G (c.says.fact 16 (f := .glo "is_url") rfl)
theorem g__split (c : Ct w K mg) : mg "_split" = some (.ref (He.ga K "_split")) := by
  obtain ⟨h, X, G⟩ := c.gl
  exact He.glo_ok X G (c.says.fact 17 (f := .glo "_split") rfl)
theorem g__split_beginning (c : Ct w K mg) : mg "_split_beginning" = some (.ref (He.ga K "_split_beginning")) := by
  obtain ⟨h, X, G⟩ := c.gl
  exact He.glo_ok X G (c.says.fact 18 (f := .glo "_split_beginning") rfl)
theorem g__split_authority (c : Ct w K mg) : mg "_split_authority" = some (.ref (He.ga K "_split_authority")) := by
  obtain ⟨h, X, G⟩ := c.gl
  exact He.glo_ok X G (c.says.fact 19 (f := .glo "_split_authority") rfl)
theorem g__end_of_host (c : Ct w K mg) : mg "_end_of_host" = some (.ref (He.ga K "_end_of_host")) := by
  obtain ⟨h, X, G⟩ := c.gl
  exact He.glo_ok X G (c.says.fact 20 (f := .glo "_end_of_host") rfl)
theorem g__law_bag (c : Ct w K mg) : mg "_law_bag" = some (.ref (He.ga K "_law_bag")) := by
  obtain ⟨h, X, G⟩ := c.gl
  exact He.glo_ok X G (c.says.fact 21 (f := .glo "_law_bag") rfl)
theorem g__law_take (c : Ct w K mg) : mg "_law_take" = some (.ref (He.ga K "_law_take")) := by
  obtain ⟨h, X, G⟩ := c.gl
  exact He.glo_ok X G (c.says.fact 22 (f := .glo "_law_take") rfl)
theorem g__law_word (c : Ct w K mg) : mg "_law_word" = some (.ref (He.ga K "_law_word")) := by
  obtain ⟨h, X, G⟩ := c.gl
  exact He.glo_ok X G (c.says.fact 23 (f := .glo "_law_word") rfl)
theorem g__law_authority (c : Ct w K mg) : mg "_law_authority" = some (.ref (He.ga K "_law_authority")) := by
  obtain ⟨h, X, G⟩ := c.gl
  exact He.glo_ok X G (c.says.fact 24 (f := .glo "_law_authority") rfl)
theorem g__law_path (c : Ct w K mg) : mg "_law_path" = some (.ref (He.ga K "_law_path")) := by
  obtain ⟨h, X, G⟩ := c.gl
  exact He.glo_ok X G (c.says.fact 25 (f := .glo "_law_path") rfl)
theorem g__law_parts (c : Ct w K mg) : mg "_law_parts" = some (.ref (He.ga K "_law_parts")) := by
  obtain ⟨h, X, G⟩ := c.gl
  exact He.glo_ok X G (c.says.fact 26 (f := .glo "_law_parts") rfl)
theorem g__law_text (c : Ct w K mg) : mg "_law_text" = some (.ref (He.ga K "_law_text")) := by
  obtain ⟨h, X, G⟩ := c.gl
  exact He.glo_ok X G (c.says.fact 27 (f := .glo "_law_text") rfl)
theorem g__law_is_hexadecimal (c : Ct w K mg) : mg "_law_is_hexadecimal" = some (.ref (He.ga K "_law_is_hexadecimal")) := by
  obtain ⟨h, X, G⟩ := c.gl
  exact He.glo_ok X G (c.says.fact 28 (f := .glo "_law_is_hexadecimal") rfl)
theorem g__law_wrong_signs (c : Ct w K mg) : mg "_law_wrong_signs" = some (.ref (He.ga K "_law_wrong_signs")) := by
  obtain ⟨h, X, G⟩ := c.gl
  exact He.glo_ok X G (c.says.fact 29 (f := .glo "_law_wrong_signs") rfl)
theorem g__law_wrong_scheme (c : Ct w K mg) : mg "_law_wrong_scheme" = some (.ref (He.ga K "_law_wrong_scheme")) := by
  obtain ⟨h, X, G⟩ := c.gl
  exact He.glo_ok X G (c.says.fact 30 (f := .glo "_law_wrong_scheme") rfl)
theorem g__law_wrong_port (c : Ct w K mg) : mg "_law_wrong_port" = some (.ref (He.ga K "_law_wrong_port")) := by
  obtain ⟨h, X, G⟩ := c.gl
  exact He.glo_ok X G (c.says.fact 31 (f := .glo "_law_wrong_port") rfl)
theorem g__law_wrong_bracket (c : Ct w K mg) : mg "_law_wrong_bracket" = some (.ref (He.ga K "_law_wrong_bracket")) := by
  obtain ⟨h, X, G⟩ := c.gl
  exact He.glo_ok X G (c.says.fact 32 (f := .glo "_law_wrong_bracket") rfl)
theorem g__law_plain_signs (c : Ct w K mg) : mg "_law_plain_signs" = some (.ref (He.ga K "_law_plain_signs")) := by
  obtain ⟨h, X, G⟩ := c.gl
  exact He.glo_ok X G (c.says.fact 33 (f := .glo "_law_plain_signs") rfl)
theorem g__law_read_authority (c : Ct w K mg) : mg "_law_read_authority" = some (.ref (He.ga K "_law_read_authority")) := by
  obtain ⟨h, X, G⟩ := c.gl
  exact He.glo_ok X G (c.says.fact 34 (f := .glo "_law_read_authority") rfl)
theorem g__law_read (c : Ct w K mg) : mg "_law_read" = some (.ref (He.ga K "_law_read")) := by
  obtain ⟨h, X, G⟩ := c.gl
  exact He.glo_ok X G (c.says.fact 35 (f := .glo "_law_read") rfl)
theorem g__law_shown (c : Ct w K mg) : mg "_law_shown" = some (.ref (He.ga K "_law_shown")) := by
  obtain ⟨h, X, G⟩ := c.gl
  exact He.glo_ok X G (c.says.fact 36 (f := .glo "_law_shown") rfl)
theorem g__law_told (c : Ct w K mg) : mg "_law_told" = some (.ref (He.ga K "_law_told")) := by
  obtain ⟨h, X, G⟩ := c.gl
  exact He.glo_ok X G (c.says.fact 37 (f := .glo "_law_told") rfl)
theorem g__law_bent (c : Ct w K mg) : mg "_law_bent" = some (.ref (He.ga K "_law_bent")) := by
  obtain ⟨h, X, G⟩ := c.gl
  exact He.glo_ok X G (c.says.fact 38 (f := .glo "_law_bent") rfl)
theorem g_law (c : Ct w K mg) : mg "law" = some (.ref (He.ga K "law")) := by
  obtain ⟨h, X, G⟩ := c.gl
  exact He.glo_ok X G (c.says.fact 39 (f := .glo "law") rfl)
theorem g_BadUrl (c : Ct w K mg) : mg "BadUrl" = some (.ref (He.ga K "BadUrl")) := by
  obtain ⟨h, X, G⟩ := c.gl
  exact He.glo_ok X G (c.says.fact 40 (f := .glo "BadUrl") rfl)
theorem g_BadPart (c : Ct w K mg) : mg "BadPart" = some (.ref (He.ga K "BadPart")) := by
  obtain ⟨h, X, G⟩ := c.gl
  exact He.glo_ok X G (c.says.fact 41 (f := .glo "BadPart") rfl)
theorem g_NoBase (c : Ct w K mg) : mg "NoBase" = some (.ref (He.ga K "NoBase")) := by
  obtain ⟨h, X, G⟩ := c.gl
  exact He.glo_ok X G (c.says.fact 42 (f := .glo "NoBase") rfl)
theorem g_NoText (c : Ct w K mg) : mg "NoText" = some (.ref (He.ga K "NoText")) := by
  obtain ⟨h, X, G⟩ := c.gl
  exact He.glo_ok X G (c.says.fact 43 (f := .glo "NoText") rfl)
theorem g_Url (c : Ct w K mg) : mg "Url" = some (.ref (He.ga K "Url")) := by
  obtain ⟨h, X, G⟩ := c.gl
  exact He.glo_ok X G (c.says.fact 44 (f := .glo "Url") rfl)
theorem b_NotImplemented (c : Ct w K mg) : mg "NotImplemented" = none := by
  obtain ⟨h, X, G⟩ := c.gl
  exact He.free_ok X G (c.says.fact 45 (f := .free "NotImplemented") rfl)
theorem b_TypeError (c : Ct w K mg) : mg "TypeError" = none := by
  obtain ⟨h, X, G⟩ := c.gl
  exact He.free_ok X G (c.says.fact 46 (f := .free "TypeError") rfl)
theorem b_ValueError (c : Ct w K mg) : mg "ValueError" = none := by
  obtain ⟨h, X, G⟩ := c.gl
  exact He.free_ok X G (c.says.fact 47 (f := .free "ValueError") rfl)
theorem b_abs (c : Ct w K mg) : mg "abs" = none := by
  obtain ⟨h, X, G⟩ := c.gl
  exact He.free_ok X G (c.says.fact 48 (f := .free "abs") rfl)
theorem b_classmethod (c : Ct w K mg) : mg "classmethod" = none := by
  obtain ⟨h, X, G⟩ := c.gl
  exact He.free_ok X G (c.says.fact 49 (f := .free "classmethod") rfl)
theorem b_dict (c : Ct w K mg) : mg "dict" = none := by
  obtain ⟨h, X, G⟩ := c.gl
  exact He.free_ok X G (c.says.fact 50 (f := .free "dict") rfl)
theorem b_enumerate (c : Ct w K mg) : mg "enumerate" = none := by
  obtain ⟨h, X, G⟩ := c.gl
  exact He.free_ok X G (c.says.fact 51 (f := .free "enumerate") rfl)
theorem b_int (c : Ct w K mg) : mg "int" = none := by
  obtain ⟨h, X, G⟩ := c.gl
  exact He.free_ok X G (c.says.fact 52 (f := .free "int") rfl)
theorem b_isinstance (c : Ct w K mg) : mg "isinstance" = none := by
  obtain ⟨h, X, G⟩ := c.gl
  exact He.free_ok X G (c.says.fact 53 (f := .free "isinstance") rfl)
theorem b_len (c : Ct w K mg) : mg "len" = none := by
  obtain ⟨h, X, G⟩ := c.gl
  exact He.free_ok X G (c.says.fact 54 (f := .free "len") rfl)
theorem b_max (c : Ct w K mg) : mg "max" = none := by
  obtain ⟨h, X, G⟩ := c.gl
  exact He.free_ok X G (c.says.fact 55 (f := .free "max") rfl)
theorem b_min (c : Ct w K mg) : mg "min" = none := by
  obtain ⟨h, X, G⟩ := c.gl
  exact He.free_ok X G (c.says.fact 56 (f := .free "min") rfl)
theorem b_property (c : Ct w K mg) : mg "property" = none := by
  obtain ⟨h, X, G⟩ := c.gl
  exact He.free_ok X G (c.says.fact 57 (f := .free "property") rfl)
theorem b_range (c : Ct w K mg) : mg "range" = none := by
  obtain ⟨h, X, G⟩ := c.gl
  exact He.free_ok X G (c.says.fact 58 (f := .free "range") rfl)
theorem b_repr (c : Ct w K mg) : mg "repr" = none := by
  obtain ⟨h, X, G⟩ := c.gl
  exact He.free_ok X G (c.says.fact 59 (f := .free "repr") rfl)
theorem b_str (c : Ct w K mg) : mg "str" = none := by
  obtain ⟨h, X, G⟩ := c.gl
  exact He.free_ok X G (c.says.fact 60 (f := .free "str") rfl)
theorem b_zip (c : Ct w K mg) : mg "zip" = none := by
  obtain ⟨h, X, G⟩ := c.gl
  exact He.free_ok X G (c.says.fact 61 (f := .free "zip") rfl)
theorem c_PLAIN (c : Ct w K mg) : ∃ u, mg "PLAIN" = some u ∧ RelV (.str "-.0123456789ABCDEFGHIJKLMNOPQRSTUVWXYZ_abcdefghijklmnopqrstuvwxyz~") u := by
  obtain ⟨h, X, G⟩ := c.gl
  obtain ⟨t, e⟩ := He.str_ok X G (c.says.fact 62 (f := .str "PLAIN" "-.0123456789ABCDEFGHIJKLMNOPQRSTUVWXYZ_abcdefghijklmnopqrstuvwxyz~") rfl)
  exact ⟨_, e, ⟨_, rfl⟩⟩
theorem c_INNER (c : Ct w K mg) : ∃ u, mg "INNER" = some u ∧ RelV (.str "!$&'()*+,;=") u := by
  obtain ⟨h, X, G⟩ := c.gl
  obtain ⟨t, e⟩ := He.str_ok X G (c.says.fact 63 (f := .str "INNER" "!$&'()*+,;=") rfl)
  exact ⟨_, e, ⟨_, rfl⟩⟩
theorem c_HEXADECIMAL (c : Ct w K mg) : ∃ u, mg "HEXADECIMAL" = some u ∧ RelV (.str "0123456789ABCDEFabcdef") u := by
  obtain ⟨h, X, G⟩ := c.gl
  obtain ⟨t, e⟩ := He.str_ok X G (c.says.fact 64 (f := .str "HEXADECIMAL" "0123456789ABCDEFabcdef") rfl)
  exact ⟨_, e, ⟨_, rfl⟩⟩
theorem g_MORE (c : Ct w K mg) : mg "MORE" = some (.ref (He.ga K "MORE")) := by
  obtain ⟨h, X, G⟩ := c.gl
  exact He.glo_ok X G (c.says.fact 65 (f := .glo "MORE") rfl)
theorem c_LETTERS (c : Ct w K mg) : ∃ u, mg "LETTERS" = some u ∧ RelV (.str "ABCDEFGHIJKLMNOPQRSTUVWXYZabcdefghijklmnopqrstuvwxyz") u := by
  obtain ⟨h, X, G⟩ := c.gl
  obtain ⟨t, e⟩ := He.str_ok X G (c.says.fact 66 (f := .str "LETTERS" "ABCDEFGHIJKLMNOPQRSTUVWXYZabcdefghijklmnopqrstuvwxyz") rfl)
  exact ⟨_, e, ⟨_, rfl⟩⟩
theorem c_DIGITS (c : Ct w K mg) : ∃ u, mg "DIGITS" = some u ∧ RelV (.str "0123456789") u := by
  obtain ⟨h, X, G⟩ := c.gl
  obtain ⟨t, e⟩ := He.str_ok X G (c.says.fact 67 (f := .str "DIGITS" "0123456789") rfl)
  exact ⟨_, e, ⟨_, rfl⟩⟩
theorem c_PORT_DIGITS (c : Ct w K mg) : ∃ u, mg "PORT_DIGITS" = some u ∧ RelV (.int 5) u := by
  obtain ⟨h, X, G⟩ := c.gl
  obtain ⟨t, e⟩ := He.int_ok X G (c.says.fact 68 (f := .int "PORT_DIGITS" 5) rfl)
  exact ⟨_, e, ⟨_, rfl⟩⟩
theorem c_GREATEST_PORT (c : Ct w K mg) : ∃ u, mg "GREATEST_PORT" = some u ∧ RelV (.int 65535) u := by
  obtain ⟨h, X, G⟩ := c.gl
  obtain ⟨t, e⟩ := He.int_ok X G (c.says.fact 69 (f := .int "GREATEST_PORT" 65535) rfl)
  exact ⟨_, e, ⟨_, rfl⟩⟩
theorem noat_BadUrl_kind (c : Ct w K mg) : NoAttr K (He.ga K "BadUrl") "kind" := He.noat_ok (c.says.fact 70 (f := .noat "BadUrl" "kind") rfl)
theorem noat_BadUrl_place (c : Ct w K mg) : NoAttr K (He.ga K "BadUrl") "place" := He.noat_ok (c.says.fact 71 (f := .noat "BadUrl" "place") rfl)
theorem noat_BadPart_name (c : Ct w K mg) : NoAttr K (He.ga K "BadPart") "name" := He.noat_ok (c.says.fact 72 (f := .noat "BadPart" "name") rfl)
theorem noat_NoText_value (c : Ct w K mg) : NoAttr K (He.ga K "NoText") "value" := He.noat_ok (c.says.fact 73 (f := .noat "NoText" "value") rfl)
theorem noat_Url__parts (c : Ct w K mg) : NoAttr K (He.ga K "Url") "_parts" := He.noat_ok (c.says.fact 74 (f := .noat "Url" "_parts") rfl)
theorem cls_Url (c : Ct w K mg) : Cls K (He.ga K "Url") := He.cls_ok (c.says.fact 75 (f := .cls "Url") rfl)
theorem mkr_Url (c : Ct w K mg) : Mk K (He.ga K "Url") (He.ma K (He.ga K "Url") "__init__") := He.mkr_ok (c.says.fact 76 (f := .mkr "Url") rfl)
theorem meth_Url_replaced (c : Ct w K mg) : Meth K (He.ga K "Url") "replaced" (He.ma K (He.ga K "Url") "replaced") := He.meth_ok (c.says.fact 77 (f := .meth "Url" "replaced") rfl)
theorem exm_BadUrl_NoText (c : Ct w K mg) : PySem.W.exmOne K (.ref (He.ga K "BadUrl")) (.ref (He.ga K "NoText")) = some false := He.exm_ok (c.says.fact 78 (f := .exm "BadUrl" "NoText" false) rfl)
theorem exm_BadPart_NoText (c : Ct w K mg) : PySem.W.exmOne K (.ref (He.ga K "BadPart")) (.ref (He.ga K "NoText")) = some false := He.exm_ok (c.says.fact 79 (f := .exm "BadPart" "NoText" false) rfl)
theorem exm_NoBase_NoText (c : Ct w K mg) : PySem.W.exmOne K (.ref (He.ga K "NoBase")) (.ref (He.ga K "NoText")) = some false := He.exm_ok (c.says.fact 80 (f := .exm "NoBase" "NoText" false) rfl)
theorem exm_NoText_NoText (c : Ct w K mg) : PySem.W.exmOne K (.ref (He.ga K "NoText")) (.ref (He.ga K "NoText")) = some true := He.exm_ok (c.says.fact 81 (f := .exm "NoText" "NoText" true) rfl)
theorem exm_NoText_BadUrl (c : Ct w K mg) : PySem.W.exmOne K (.ref (He.ga K "NoText")) (.ref (He.ga K "BadUrl")) = some false := He.exm_ok (c.says.fact 82 (f := .exm "NoText" "BadUrl" false) rfl)
theorem exm_NoText_BadPart (c : Ct w K mg) : PySem.W.exmOne K (.ref (He.ga K "NoText")) (.ref (He.ga K "BadPart")) = some false := He.exm_ok (c.says.fact 83 (f := .exm "NoText" "BadPart" false) rfl)
theorem exm_NoText_NoBase (c : Ct w K mg) : PySem.W.exmOne K (.ref (He.ga K "NoText")) (.ref (He.ga K "NoBase")) = some false := He.exm_ok (c.says.fact 84 (f := .exm "NoText" "NoBase" false) rfl)
theorem exm_BadUrl_BadUrl (c : Ct w K mg) : PySem.W.exmOne K (.ref (He.ga K "BadUrl")) (.ref (He.ga K "BadUrl")) = some true := He.exm_ok (c.says.fact 85 (f := .exm "BadUrl" "BadUrl" true) rfl)
theorem exm_BadUrl_BadPart (c : Ct w K mg) : PySem.W.exmOne K (.ref (He.ga K "BadUrl")) (.ref (He.ga K "BadPart")) = some false := He.exm_ok (c.says.fact 86 (f := .exm "BadUrl" "BadPart" false) rfl)
theorem exm_BadUrl_NoBase (c : Ct w K mg) : PySem.W.exmOne K (.ref (He.ga K "BadUrl")) (.ref (He.ga K "NoBase")) = some false := He.exm_ok (c.says.fact 87 (f := .exm "BadUrl" "NoBase" false) rfl)
theorem exm_BadPart_BadUrl (c : Ct w K mg) : PySem.W.exmOne K (.ref (He.ga K "BadPart")) (.ref (He.ga K "BadUrl")) = some false := He.exm_ok (c.says.fact 88 (f := .exm "BadPart" "BadUrl" false) rfl)
theorem exm_BadPart_BadPart (c : Ct w K mg) : PySem.W.exmOne K (.ref (He.ga K "BadPart")) (.ref (He.ga K "BadPart")) = some true := He.exm_ok (c.says.fact 89 (f := .exm "BadPart" "BadPart" true) rfl)
theorem exm_BadPart_NoBase (c : Ct w K mg) : PySem.W.exmOne K (.ref (He.ga K "BadPart")) (.ref (He.ga K "NoBase")) = some false := He.exm_ok (c.says.fact 90 (f := .exm "BadPart" "NoBase" false) rfl)
theorem exm_NoBase_BadUrl (c : Ct w K mg) : PySem.W.exmOne K (.ref (He.ga K "NoBase")) (.ref (He.ga K "BadUrl")) = some false := He.exm_ok (c.says.fact 91 (f := .exm "NoBase" "BadUrl" false) rfl)
theorem exm_NoBase_BadPart (c : Ct w K mg) : PySem.W.exmOne K (.ref (He.ga K "NoBase")) (.ref (He.ga K "BadPart")) = some false := He.exm_ok (c.says.fact 92 (f := .exm "NoBase" "BadPart" false) rfl)
theorem exm_NoBase_NoBase (c : Ct w K mg) : PySem.W.exmOne K (.ref (He.ga K "NoBase")) (.ref (He.ga K "NoBase")) = some true := He.exm_ok (c.says.fact 93 (f := .exm "NoBase" "NoBase" true) rfl)
theorem F_stack (c : Ct w K mg) : ∃ fd, FunD K d_stack.name d_stack.qual d_stack.params d_stack.body d_stack.scope (d_stack.dvs K) (d_stack.kws K) (d_stack.at_ K) fd := c.says.def_ 0 (d := d_stack) rfl
theorem k_stack (c : Ct w K mg) : PySem.W.keepIn K (.ref (d_stack.at_ K)) = true := (F_stack c).choose_spec.kp
theorem sc_stack : FnScope ["path", "segments", "kept", "segment"] ["path"] (defScope s_stack) := ⟨rfl, rfl, rfl, by decide +kernel, rfl, by decide +kernel, by decide +kernel⟩
theorem F_cleaned (c : Ct w K mg) : ∃ fd, FunD K d_cleaned.name d_cleaned.qual d_cleaned.params d_cleaned.body d_cleaned.scope (d_cleaned.dvs K) (d_cleaned.kws K) (d_cleaned.at_ K) fd := c.says.def_ 1 (d := d_cleaned) rfl
theorem k_cleaned (c : Ct w K mg) : PySem.W.keepIn K (.ref (d_cleaned.at_ K)) = true := (F_cleaned c).choose_spec.kp
theorem sc_cleaned : FnScope ["path", "has_authority"] ["path", "has_authority"] (defScope s_cleaned) := ⟨rfl, rfl, rfl, by decide +kernel, rfl, by decide +kernel, by decide +kernel⟩
theorem F_path_of (c : Ct w K mg) : ∃ fd, FunD K d_path_of.name d_path_of.qual d_path_of.params d_path_of.body d_path_of.scope (d_path_of.dvs K) (d_path_of.kws K) (d_path_of.at_ K) fd := c.says.def_ 2 (d := d_path_of) rfl
theorem k_path_of (c : Ct w K mg) : PySem.W.keepIn K (.ref (d_path_of.at_ K)) = true := (F_path_of c).choose_spec.kp
theorem sc_path_of : FnScope ["segments", "has_authority", "path"] ["segments", "has_authority"] (defScope s_path_of) := ⟨rfl, rfl, rfl, by decide +kernel, rfl, by decide +kernel, by decide +kernel⟩
theorem F_join (c : Ct w K mg) : ∃ fd, FunD K d_join.name d_join.qual d_join.params d_join.body d_join.scope (d_join.dvs K) (d_join.kws K) (d_join.at_ K) fd := c.says.def_ 3 (d := d_join) rfl
theorem k_join (c : Ct w K mg) : PySem.W.keepIn K (.ref (d_join.at_ K)) = true := (F_join c).choose_spec.kp
theorem sc_join : FnScope ["base", "reference", "path", "query"] ["base", "reference"] (defScope s_join) := ⟨rfl, rfl, rfl, by decide +kernel, rfl, by decide +kernel, by decide +kernel⟩
theorem F_folder (c : Ct w K mg) : ∃ fd, FunD K d_folder.name d_folder.qual d_folder.params d_folder.body d_folder.scope (d_folder.dvs K) (d_folder.kws K) (d_folder.at_ K) fd := c.says.def_ 4 (d := d_folder) rfl
theorem k_folder (c : Ct w K mg) : PySem.W.keepIn K (.ref (d_folder.at_ K)) = true := (F_folder c).choose_spec.kp
theorem sc_folder : FnScope ["path"] ["path"] (defScope s_folder) := ⟨rfl, rfl, rfl, by decide +kernel, rfl, by decide +kernel, by decide +kernel⟩
theorem F_signs_of (c : Ct w K mg) : ∃ fd, FunD K d_signs_of.name d_signs_of.qual d_signs_of.params d_signs_of.body d_signs_of.scope (d_signs_of.dvs K) (d_signs_of.kws K) (d_signs_of.at_ K) fd := c.says.def_ 5 (d := d_signs_of) rfl
theorem k_signs_of (c : Ct w K mg) : PySem.W.keepIn K (.ref (d_signs_of.at_ K)) = true := (F_signs_of c).choose_spec.kp
theorem sc_signs_of : FnScope ["name"] ["name"] (defScope s_signs_of) := ⟨rfl, rfl, rfl, by decide +kernel, rfl, by decide +kernel, by decide +kernel⟩
theorem F_begins_with_octet (c : Ct w K mg) : ∃ fd, FunD K d_begins_with_octet.name d_begins_with_octet.qual d_begins_with_octet.params d_begins_with_octet.body d_begins_with_octet.scope (d_begins_with_octet.dvs K) (d_begins_with_octet.kws K) (d_begins_with_octet.at_ K) fd := c.says.def_ 6 (d := d_begins_with_octet) rfl
theorem k_begins_with_octet (c : Ct w K mg) : PySem.W.keepIn K (.ref (d_begins_with_octet.at_ K)) = true := (F_begins_with_octet c).choose_spec.kp
theorem sc_begins_with_octet : FnScope ["text"] ["text"] (defScope s_begins_with_octet) := ⟨rfl, rfl, rfl, by decide +kernel, rfl, by decide +kernel, by decide +kernel⟩
theorem F_wrong_place (c : Ct w K mg) : ∃ fd, FunD K d_wrong_place.name d_wrong_place.qual d_wrong_place.params d_wrong_place.body d_wrong_place.scope (d_wrong_place.dvs K) (d_wrong_place.kws K) (d_wrong_place.at_ K) fd := c.says.def_ 7 (d := d_wrong_place) rfl
theorem k_wrong_place (c : Ct w K mg) : PySem.W.keepIn K (.ref (d_wrong_place.at_ K)) = true := (F_wrong_place c).choose_spec.kp
theorem sc_wrong_place : FnScope ["name", "text"] ["name", "text"] (defScope s_wrong_place) := ⟨rfl, rfl, rfl, by decide +kernel, rfl, by decide +kernel, by decide +kernel⟩
theorem F__wrong_in_scheme (c : Ct w K mg) : ∃ fd, FunD K d__wrong_in_scheme.name d__wrong_in_scheme.qual d__wrong_in_scheme.params d__wrong_in_scheme.body d__wrong_in_scheme.scope (d__wrong_in_scheme.dvs K) (d__wrong_in_scheme.kws K) (d__wrong_in_scheme.at_ K) fd := c.says.def_ 8 (d := d__wrong_in_scheme) rfl
theorem k__wrong_in_scheme (c : Ct w K mg) : PySem.W.keepIn K (.ref (d__wrong_in_scheme.at_ K)) = true := (F__wrong_in_scheme c).choose_spec.kp
theorem sc__wrong_in_scheme : FnScope ["text", "at"] ["text"] (defScope s__wrong_in_scheme) := ⟨rfl, rfl, rfl, by decide +kernel, rfl, by decide +kernel, by decide +kernel⟩
theorem F__wrong_in_port (c : Ct w K mg) : ∃ fd, FunD K d__wrong_in_port.name d__wrong_in_port.qual d__wrong_in_port.params d__wrong_in_port.body d__wrong_in_port.scope (d__wrong_in_port.dvs K) (d__wrong_in_port.kws K) (d__wrong_in_port.at_ K) fd := c.says.def_ 9 (d := d__wrong_in_port) rfl
theorem k__wrong_in_port (c : Ct w K mg) : PySem.W.keepIn K (.ref (d__wrong_in_port.at_ K)) = true := (F__wrong_in_port c).choose_spec.kp
theorem sc__wrong_in_port : FnScope ["text", "at"] ["text"] (defScope s__wrong_in_port) := ⟨rfl, rfl, rfl, by decide +kernel, rfl, by decide +kernel, by decide +kernel⟩
theorem F__wrong_in_brackets (c : Ct w K mg) : ∃ fd, FunD K d__wrong_in_brackets.name d__wrong_in_brackets.qual d__wrong_in_brackets.params d__wrong_in_brackets.body d__wrong_in_brackets.scope (d__wrong_in_brackets.dvs K) (d__wrong_in_brackets.kws K) (d__wrong_in_brackets.at_ K) fd := c.says.def_ 10 (d := d__wrong_in_brackets) rfl
theorem k__wrong_in_brackets (c : Ct w K mg) : PySem.W.keepIn K (.ref (d__wrong_in_brackets.at_ K)) = true := (F__wrong_in_brackets c).choose_spec.kp
theorem sc__wrong_in_brackets : FnScope ["host", "at"] ["host"] (defScope s__wrong_in_brackets) := ⟨rfl, rfl, rfl, by decide +kernel, rfl, by decide +kernel, by decide +kernel⟩
theorem F__wrong_among (c : Ct w K mg) : ∃ fd, FunD K d__wrong_among.name d__wrong_among.qual d__wrong_among.params d__wrong_among.body d__wrong_among.scope (d__wrong_among.dvs K) (d__wrong_among.kws K) (d__wrong_among.at_ K) fd := c.says.def_ 11 (d := d__wrong_among) rfl
theorem k__wrong_among (c : Ct w K mg) : PySem.W.keepIn K (.ref (d__wrong_among.at_ K)) = true := (F__wrong_among c).choose_spec.kp
theorem sc__wrong_among : FnScope ["text", "signs", "start", "number", "piece", "at"] ["text", "signs"] (defScope s__wrong_among) := ⟨rfl, rfl, rfl, by decide +kernel, rfl, by decide +kernel, by decide +kernel⟩
theorem F__first_other (c : Ct w K mg) : ∃ fd, FunD K d__first_other.name d__first_other.qual d__first_other.params d__first_other.body d__first_other.scope (d__first_other.dvs K) (d__first_other.kws K) (d__first_other.at_ K) fd := c.says.def_ 12 (d := d__first_other) rfl
theorem k__first_other (c : Ct w K mg) : PySem.W.keepIn K (.ref (d__first_other.at_ K)) = true := (F__first_other c).choose_spec.kp
theorem sc__first_other : FnScope ["text", "signs"] ["text", "signs"] (defScope s__first_other) := ⟨rfl, rfl, rfl, by decide +kernel, rfl, by decide +kernel, by decide +kernel⟩
theorem F__is_part (c : Ct w K mg) : ∃ fd, FunD K d__is_part.name d__is_part.qual d__is_part.params d__is_part.body d__is_part.scope (d__is_part.dvs K) (d__is_part.kws K) (d__is_part.at_ K) fd := c.says.def_ 13 (d := d__is_part) rfl
theorem k__is_part (c : Ct w K mg) : PySem.W.keepIn K (.ref (d__is_part.at_ K)) = true := (F__is_part c).choose_spec.kp
theorem sc__is_part : FnScope ["name", "value"] ["name", "value"] (defScope s__is_part) := ⟨rfl, rfl, rfl, by decide +kernel, rfl, by decide +kernel, by decide +kernel⟩
theorem F__is_possible (c : Ct w K mg) : ∃ fd, FunD K d__is_possible.name d__is_possible.qual d__is_possible.params d__is_possible.body d__is_possible.scope (d__is_possible.dvs K) (d__is_possible.kws K) (d__is_possible.at_ K) fd := c.says.def_ 14 (d := d__is_possible) rfl
theorem k__is_possible (c : Ct w K mg) : PySem.W.keepIn K (.ref (d__is_possible.at_ K)) = true := (F__is_possible c).choose_spec.kp
theorem sc__is_possible : FnScope ["scheme", "host", "path"] ["scheme", "host", "path"] (defScope s__is_possible) := ⟨rfl, rfl, rfl, by decide +kernel, rfl, by decide +kernel, by decide +kernel⟩
theorem F_parse (c : Ct w K mg) : ∃ fd, FunD K d_parse.name d_parse.qual d_parse.params d_parse.body d_parse.scope (d_parse.dvs K) (d_parse.kws K) (d_parse.at_ K) fd := c.says.def_ 15 (d := d_parse) rfl
theorem k_parse (c : Ct w K mg) : PySem.W.keepIn K (.ref (d_parse.at_ K)) = true := (F_parse c).choose_spec.kp
theorem sc_parse : FnScope ["text", "parts", "name", "start", "part", "wrong", "kind", "at"] ["text"] (defScope s_parse) := ⟨rfl, rfl, rfl, by decide +kernel, rfl, by decide +kernel, by decide +kernel⟩
theorem F_is_url (c : Ct w K mg) : ∃ fd, FunD K d_is_url.name d_is_url.qual d_is_url.params d_is_url.body d_is_url.scope (d_is_url.dvs K) (d_is_url.kws K) (d_is_url.at_ K) fd := c.says.def_ 16 (d := d_is_url) rfl
theorem k_is_url (c : Ct w K mg) : PySem.W.keepIn K (.ref (d_is_url.at_ K)) = true := (F_is_url c).choose_spec.kp
theorem sc_is_url : FnScope ["value"] ["value"] (defScope s_is_url) := ⟨rfl, rfl, rfl, by decide +kernel, rfl, by decide +kernel, by decide +kernel⟩
theorem F__split (c : Ct w K mg) : ∃ fd, FunD K d__split.name d__split.qual d__split.params d__split.body d__split.scope (d__split.dvs K) (d__split.kws K) (d__split.at_ K) fd := c.says.def_ 17 (d := d__split) rfl
theorem k__split (c : Ct w K mg) : PySem.W.keepIn K (.ref (d__split.at_ K)) = true := (F__split c).choose_spec.kp
theorem sc__split : FnScope ["text", "before_fragment", "fragment_mark", "fragment", "before_query", "query_mark", "query", "rows"] ["text"] (defScope s__split) := ⟨rfl, rfl, rfl, by decide +kernel, rfl, by decide +kernel, by decide +kernel⟩
theorem F__split_beginning (c : Ct w K mg) : ∃ fd, FunD K d__split_beginning.name d__split_beginning.qual d__split_beginning.params d__split_beginning.body d__split_beginning.scope (d__split_beginning.dvs K) (d__split_beginning.kws K) (d__split_beginning.at_ K) fd := c.says.def_ 18 (d := d__split_beginning) rfl
theorem k__split_beginning (c : Ct w K mg) : PySem.W.keepIn K (.ref (d__split_beginning.at_ K)) = true := (F__split_beginning c).choose_spec.kp
theorem sc__split_beginning : FnScope ["text", "rows", "start", "colon", "authority"] ["text"] (defScope s__split_beginning) := ⟨rfl, rfl, rfl, by decide +kernel, rfl, by decide +kernel, by decide +kernel⟩
theorem F__split_authority (c : Ct w K mg) : ∃ fd, FunD K d__split_authority.name d__split_authority.qual d__split_authority.params d__split_authority.body d__split_authority.scope (d__split_authority.dvs K) (d__split_authority.kws K) (d__split_authority.at_ K) fd := c.says.def_ 19 (d := d__split_authority) rfl
theorem k__split_authority (c : Ct w K mg) : PySem.W.keepIn K (.ref (d__split_authority.at_ K)) = true := (F__split_authority c).choose_spec.kp
theorem sc__split_authority : FnScope ["text", "start", "rows", "host_at", "colon"] ["text", "start"] (defScope s__split_authority) := ⟨rfl, rfl, rfl, by decide +kernel, rfl, by decide +kernel, by decide +kernel⟩
theorem F__end_of_host (c : Ct w K mg) : ∃ fd, FunD K d__end_of_host.name d__end_of_host.qual d__end_of_host.params d__end_of_host.body d__end_of_host.scope (d__end_of_host.dvs K) (d__end_of_host.kws K) (d__end_of_host.at_ K) fd := c.says.def_ 20 (d := d__end_of_host) rfl
theorem k__end_of_host (c : Ct w K mg) : PySem.W.keepIn K (.ref (d__end_of_host.at_ K)) = true := (F__end_of_host c).choose_spec.kp
theorem sc__end_of_host : FnScope ["text", "host_at", "colon", "bracket"] ["text", "host_at"] (defScope s__end_of_host) := ⟨rfl, rfl, rfl, by decide +kernel, rfl, by decide +kernel, by decide +kernel⟩
theorem F__law_bag (c : Ct w K mg) : ∃ fd, FunD K d__law_bag.name d__law_bag.qual d__law_bag.params d__law_bag.body d__law_bag.scope (d__law_bag.dvs K) (d__law_bag.kws K) (d__law_bag.at_ K) fd := c.says.def_ 21 (d := d__law_bag) rfl
theorem k__law_bag (c : Ct w K mg) : PySem.W.keepIn K (.ref (d__law_bag.at_ K)) = true := (F__law_bag c).choose_spec.kp
theorem sc__law_bag : FnScope ["script", "at", "cell", "mixed", "spot", "number"] ["script", "at"] (defScope s__law_bag) := ⟨rfl, rfl, rfl, by decide +kernel, rfl, by decide +kernel, by decide +kernel⟩
theorem F__law_take (c : Ct w K mg) : ∃ fd, FunD K d__law_take.name d__law_take.qual d__law_take.params d__law_take.body d__law_take.scope (d__law_take.dvs K) (d__law_take.kws K) (d__law_take.at_ K) fd := c.says.def_ 22 (d := d__law_take) rfl
theorem k__law_take (c : Ct w K mg) : PySem.W.keepIn K (.ref (d__law_take.at_ K)) = true := (F__law_take c).choose_spec.kp
theorem sc__law_take : FnScope ["bag", "size", "digit"] ["bag", "size"] (defScope s__law_take) := ⟨rfl, rfl, rfl, by decide +kernel, rfl, by decide +kernel, by decide +kernel⟩
theorem F__law_word (c : Ct w K mg) : ∃ fd, FunD K d__law_word.name d__law_word.qual d__law_word.params d__law_word.body d__law_word.scope (d__law_word.dvs K) (d__law_word.kws K) (d__law_word.at_ K) fd := c.says.def_ 23 (d := d__law_word) rfl
theorem k__law_word (c : Ct w K mg) : PySem.W.keepIn K (.ref (d__law_word.at_ K)) = true := (F__law_word c).choose_spec.kp
theorem sc__law_word : FnScope ["bag", "signs", "most", "found", "turn", "digits", "pair"] ["bag", "signs", "most"] (defScope s__law_word) := ⟨rfl, rfl, rfl, by decide +kernel, rfl, by decide +kernel, by decide +kernel⟩
theorem F__law_authority (c : Ct w K mg) : ∃ fd, FunD K d__law_authority.name d__law_authority.qual d__law_authority.params d__law_authority.body d__law_authority.scope (d__law_authority.dvs K) (d__law_authority.kws K) (d__law_authority.at_ K) fd := c.says.def_ 24 (d := d__law_authority) rfl
theorem k__law_authority (c : Ct w K mg) : PySem.W.keepIn K (.ref (d__law_authority.at_ K)) = true := (F__law_authority c).choose_spec.kp
theorem sc__law_authority : FnScope ["bag", "house", "who", "gate"] ["bag"] (defScope s__law_authority) := ⟨rfl, rfl, rfl, by decide +kernel, rfl, by decide +kernel, by decide +kernel⟩
theorem F__law_path (c : Ct w K mg) : ∃ fd, FunD K d__law_path.name d__law_path.qual d__law_path.params d__law_path.body d__law_path.scope (d__law_path.dvs K) (d__law_path.kws K) (d__law_path.at_ K) fd := c.says.def_ 25 (d := d__law_path) rfl
theorem k__law_path (c : Ct w K mg) : PySem.W.keepIn K (.ref (d__law_path.at_ K)) = true := (F__law_path c).choose_spec.kp
theorem sc__law_path : FnScope ["bag", "has_scheme", "has_authority", "parts", "turn", "some", "found"] ["bag", "has_scheme", "has_authority"] (defScope s__law_path) := ⟨rfl, rfl, rfl, by decide +kernel, rfl, by decide +kernel, by decide +kernel⟩
theorem F__law_parts (c : Ct w K mg) : ∃ fd, FunD K d__law_parts.name d__law_parts.qual d__law_parts.params d__law_parts.body d__law_parts.scope (d__law_parts.dvs K) (d__law_parts.kws K) (d__law_parts.at_ K) fd := c.says.def_ 26 (d := d__law_parts) rfl
theorem k__law_parts (c : Ct w K mg) : PySem.W.keepIn K (.ref (d__law_parts.at_ K)) = true := (F__law_parts c).choose_spec.kp
theorem sc__law_parts : FnScope ["bag", "lead", "who", "house", "gate", "way", "asked", "last"] ["bag"] (defScope s__law_parts) := ⟨rfl, rfl, rfl, by decide +kernel, rfl, by decide +kernel, by decide +kernel⟩
theorem F__law_text (c : Ct w K mg) : ∃ fd, FunD K d__law_text.name d__law_text.qual d__law_text.params d__law_text.body d__law_text.scope (d__law_text.dvs K) (d__law_text.kws K) (d__law_text.at_ K) fd := c.says.def_ 27 (d := d__law_text) rfl
theorem k__law_text (c : Ct w K mg) : PySem.W.keepIn K (.ref (d__law_text.at_ K)) = true := (F__law_text c).choose_spec.kp
theorem sc__law_text : FnScope ["parts", "lead", "who", "house", "gate", "way", "asked", "last", "found"] ["parts"] (defScope s__law_text) := ⟨rfl, rfl, rfl, by decide +kernel, rfl, by decide +kernel, by decide +kernel⟩
theorem F__law_is_hexadecimal (c : Ct w K mg) : ∃ fd, FunD K d__law_is_hexadecimal.name d__law_is_hexadecimal.qual d__law_is_hexadecimal.params d__law_is_hexadecimal.body d__law_is_hexadecimal.scope (d__law_is_hexadecimal.dvs K) (d__law_is_hexadecimal.kws K) (d__law_is_hexadecimal.at_ K) fd := c.says.def_ 28 (d := d__law_is_hexadecimal) rfl
theorem k__law_is_hexadecimal (c : Ct w K mg) : PySem.W.keepIn K (.ref (d__law_is_hexadecimal.at_ K)) = true := (F__law_is_hexadecimal c).choose_spec.kp
theorem sc__law_is_hexadecimal : FnScope ["text", "sign"] ["text"] (defScope s__law_is_hexadecimal) := ⟨rfl, rfl, rfl, by decide +kernel, rfl, by decide +kernel, by decide +kernel⟩
theorem F__law_wrong_signs (c : Ct w K mg) : ∃ fd, FunD K d__law_wrong_signs.name d__law_wrong_signs.qual d__law_wrong_signs.params d__law_wrong_signs.body d__law_wrong_signs.scope (d__law_wrong_signs.dvs K) (d__law_wrong_signs.kws K) (d__law_wrong_signs.at_ K) fd := c.says.def_ 29 (d := d__law_wrong_signs) rfl
theorem k__law_wrong_signs (c : Ct w K mg) : PySem.W.keepIn K (.ref (d__law_wrong_signs.at_ K)) = true := (F__law_wrong_signs c).choose_spec.kp
theorem sc__law_wrong_signs : FnScope ["text", "begin", "end", "signs", "at"] ["text", "begin", "end", "signs"] (defScope s__law_wrong_signs) := ⟨rfl, rfl, rfl, by decide +kernel, rfl, by decide +kernel, by decide +kernel⟩
theorem F__law_wrong_scheme (c : Ct w K mg) : ∃ fd, FunD K d__law_wrong_scheme.name d__law_wrong_scheme.qual d__law_wrong_scheme.params d__law_wrong_scheme.body d__law_wrong_scheme.scope (d__law_wrong_scheme.dvs K) (d__law_wrong_scheme.kws K) (d__law_wrong_scheme.at_ K) fd := c.says.def_ 30 (d := d__law_wrong_scheme) rfl
theorem k__law_wrong_scheme (c : Ct w K mg) : PySem.W.keepIn K (.ref (d__law_wrong_scheme.at_ K)) = true := (F__law_wrong_scheme c).choose_spec.kp
theorem sc__law_wrong_scheme : FnScope ["text", "end", "letters", "at"] ["text", "end"] (defScope s__law_wrong_scheme) := ⟨rfl, rfl, rfl, by decide +kernel, rfl, by decide +kernel, by decide +kernel⟩
theorem F__law_wrong_port (c : Ct w K mg) : ∃ fd, FunD K d__law_wrong_port.name d__law_wrong_port.qual d__law_wrong_port.params d__law_wrong_port.body d__law_wrong_port.scope (d__law_wrong_port.dvs K) (d__law_wrong_port.kws K) (d__law_wrong_port.at_ K) fd := c.says.def_ 31 (d := d__law_wrong_port) rfl
theorem k__law_wrong_port (c : Ct w K mg) : PySem.W.keepIn K (.ref (d__law_wrong_port.at_ K)) = true := (F__law_wrong_port c).choose_spec.kp
theorem sc__law_wrong_port : FnScope ["text", "begin", "end", "head", "sign", "at"] ["text", "begin", "end"] (defScope s__law_wrong_port) := ⟨rfl, rfl, rfl, by decide +kernel, rfl, by decide +kernel, by decide +kernel⟩
theorem F__law_wrong_bracket (c : Ct w K mg) : ∃ fd, FunD K d__law_wrong_bracket.name d__law_wrong_bracket.qual d__law_wrong_bracket.params d__law_wrong_bracket.body d__law_wrong_bracket.scope (d__law_wrong_bracket.dvs K) (d__law_wrong_bracket.kws K) (d__law_wrong_bracket.at_ K) fd := c.says.def_ 32 (d := d__law_wrong_bracket) rfl
theorem k__law_wrong_bracket (c : Ct w K mg) : PySem.W.keepIn K (.ref (d__law_wrong_bracket.at_ K)) = true := (F__law_wrong_bracket c).choose_spec.kp
theorem sc__law_wrong_bracket : FnScope ["text", "begin", "end", "at", "close"] ["text", "begin", "end"] (defScope s__law_wrong_bracket) := ⟨rfl, rfl, rfl, by decide +kernel, rfl, by decide +kernel, by decide +kernel⟩
theorem F__law_plain_signs (c : Ct w K mg) : ∃ fd, FunD K d__law_plain_signs.name d__law_plain_signs.qual d__law_plain_signs.params d__law_plain_signs.body d__law_plain_signs.scope (d__law_plain_signs.dvs K) (d__law_plain_signs.kws K) (d__law_plain_signs.at_ K) fd := c.says.def_ 33 (d := d__law_plain_signs) rfl
theorem k__law_plain_signs (c : Ct w K mg) : PySem.W.keepIn K (.ref (d__law_plain_signs.at_ K)) = true := (F__law_plain_signs c).choose_spec.kp
theorem sc__law_plain_signs : FnScope [] [] (defScope s__law_plain_signs) := ⟨rfl, rfl, rfl, by decide +kernel, rfl, by decide +kernel, by decide +kernel⟩
theorem F__law_read_authority (c : Ct w K mg) : ∃ fd, FunD K d__law_read_authority.name d__law_read_authority.qual d__law_read_authority.params d__law_read_authority.body d__law_read_authority.scope (d__law_read_authority.dvs K) (d__law_read_authority.kws K) (d__law_read_authority.at_ K) fd := c.says.def_ 34 (d := d__law_read_authority) rfl
theorem k__law_read_authority (c : Ct w K mg) : PySem.W.keepIn K (.ref (d__law_read_authority.at_ K)) = true := (F__law_read_authority c).choose_spec.kp
theorem sc__law_read_authority : FnScope ["text", "begin", "end", "signs", "wrong", "who", "at", "more", "stop"] ["text", "begin", "end"] (defScope s__law_read_authority) := ⟨rfl, rfl, rfl, by decide +kernel, rfl, by decide +kernel, by decide +kernel⟩
theorem F__law_read (c : Ct w K mg) : ∃ fd, FunD K d__law_read.name d__law_read.qual d__law_read.params d__law_read.body d__law_read.scope (d__law_read.dvs K) (d__law_read.kws K) (d__law_read.at_ K) fd := c.says.def_ 35 (d := d__law_read) rfl
theorem k__law_read (c : Ct w K mg) : PySem.W.keepIn K (.ref (d__law_read.at_ K)) = true := (F__law_read c).choose_spec.kp
theorem sc__law_read : FnScope ["text", "signs", "end", "wrong", "last", "asked", "at", "lead", "begin", "colon", "who", "house", "gate", "stop", "more", "place", "kind"] ["text"] (defScope s__law_read) := ⟨rfl, rfl, rfl, by decide +kernel, rfl, by decide +kernel, by decide +kernel⟩
theorem F__law_shown (c : Ct w K mg) : ∃ fd, FunD K d__law_shown.name d__law_shown.qual d__law_shown.params d__law_shown.body d__law_shown.scope (d__law_shown.dvs K) (d__law_shown.kws K) (d__law_shown.at_ K) fd := c.says.def_ 36 (d := d__law_shown) rfl
theorem k__law_shown (c : Ct w K mg) : PySem.W.keepIn K (.ref (d__law_shown.at_ K)) = true := (F__law_shown c).choose_spec.kp
theorem sc__law_shown : FnScope ["link"] ["link"] (defScope s__law_shown) := ⟨rfl, rfl, rfl, by decide +kernel, rfl, by decide +kernel, by decide +kernel⟩
theorem F__law_told (c : Ct w K mg) : ∃ fd, FunD K d__law_told.name d__law_told.qual d__law_told.params d__law_told.body d__law_told.scope (d__law_told.dvs K) (d__law_told.kws K) (d__law_told.at_ K) fd := c.says.def_ 37 (d := d__law_told) rfl
theorem k__law_told (c : Ct w K mg) : PySem.W.keepIn K (.ref (d__law_told.at_ K)) = true := (F__law_told c).choose_spec.kp
theorem sc__law_told : FnScope ["text", "e"] ["text"] (defScope s__law_told) := ⟨rfl, rfl, rfl, by decide +kernel, rfl, by decide +kernel, by decide +kernel⟩
theorem F__law_bent (c : Ct w K mg) : ∃ fd, FunD K d__law_bent.name d__law_bent.qual d__law_bent.params d__law_bent.body d__law_bent.scope (d__law_bent.dvs K) (d__law_bent.kws K) (d__law_bent.at_ K) fd := c.says.def_ 38 (d := d__law_bent) rfl
theorem k__law_bent (c : Ct w K mg) : PySem.W.keepIn K (.ref (d__law_bent.at_ K)) = true := (F__law_bent c).choose_spec.kp
theorem sc__law_bent : FnScope ["bag", "text", "signs", "turn", "at", "sign"] ["bag", "text"] (defScope s__law_bent) := ⟨rfl, rfl, rfl, by decide +kernel, rfl, by decide +kernel, by decide +kernel⟩
theorem F_law (c : Ct w K mg) : ∃ fd, FunD K d_law.name d_law.qual d_law.params d_law.body d_law.scope (d_law.dvs K) (d_law.kws K) (d_law.at_ K) fd := c.says.def_ 39 (d := d_law) rfl
theorem k_law (c : Ct w K mg) : PySem.W.keepIn K (.ref (d_law.at_ K)) = true := (F_law c).choose_spec.kp
theorem sc_law : FnScope ["script", "at", "bag", "turn", "text", "due", "told"] ["script"] (defScope s_law) := ⟨rfl, rfl, rfl, by decide +kernel, rfl, by decide +kernel, by decide +kernel⟩
theorem F_BadUrl___init__ (c : Ct w K mg) : ∃ fd, FunD K d_BadUrl___init__.name d_BadUrl___init__.qual d_BadUrl___init__.params d_BadUrl___init__.body d_BadUrl___init__.scope (d_BadUrl___init__.dvs K) (d_BadUrl___init__.kws K) (d_BadUrl___init__.at_ K) fd := c.says.def_ 40 (d := d_BadUrl___init__) rfl
theorem k_BadUrl___init__ (c : Ct w K mg) : PySem.W.keepIn K (.ref (d_BadUrl___init__.at_ K)) = true := (F_BadUrl___init__ c).choose_spec.kp
theorem sc_BadUrl___init__ : FnScope ["self", "kind", "place"] ["self", "kind", "place"] (defScope s_BadUrl___init__) := ⟨rfl, rfl, rfl, by decide +kernel, rfl, by decide +kernel, by decide +kernel⟩
theorem F_BadPart___init__ (c : Ct w K mg) : ∃ fd, FunD K d_BadPart___init__.name d_BadPart___init__.qual d_BadPart___init__.params d_BadPart___init__.body d_BadPart___init__.scope (d_BadPart___init__.dvs K) (d_BadPart___init__.kws K) (d_BadPart___init__.at_ K) fd := c.says.def_ 41 (d := d_BadPart___init__) rfl
theorem k_BadPart___init__ (c : Ct w K mg) : PySem.W.keepIn K (.ref (d_BadPart___init__.at_ K)) = true := (F_BadPart___init__ c).choose_spec.kp
theorem sc_BadPart___init__ : FnScope ["self", "name"] ["self", "name"] (defScope s_BadPart___init__) := ⟨rfl, rfl, rfl, by decide +kernel, rfl, by decide +kernel, by decide +kernel⟩
theorem F_NoBase___init__ (c : Ct w K mg) : ∃ fd, FunD K d_NoBase___init__.name d_NoBase___init__.qual d_NoBase___init__.params d_NoBase___init__.body d_NoBase___init__.scope (d_NoBase___init__.dvs K) (d_NoBase___init__.kws K) (d_NoBase___init__.at_ K) fd := c.says.def_ 42 (d := d_NoBase___init__) rfl
theorem k_NoBase___init__ (c : Ct w K mg) : PySem.W.keepIn K (.ref (d_NoBase___init__.at_ K)) = true := (F_NoBase___init__ c).choose_spec.kp
theorem sc_NoBase___init__ : FnScope ["self"] ["self"] (defScope s_NoBase___init__) := ⟨rfl, rfl, rfl, by decide +kernel, rfl, by decide +kernel, by decide +kernel⟩
theorem F_NoText___init__ (c : Ct w K mg) : ∃ fd, FunD K d_NoText___init__.name d_NoText___init__.qual d_NoText___init__.params d_NoText___init__.body d_NoText___init__.scope (d_NoText___init__.dvs K) (d_NoText___init__.kws K) (d_NoText___init__.at_ K) fd := c.says.def_ 43 (d := d_NoText___init__) rfl
theorem k_NoText___init__ (c : Ct w K mg) : PySem.W.keepIn K (.ref (d_NoText___init__.at_ K)) = true := (F_NoText___init__ c).choose_spec.kp
theorem sc_NoText___init__ : FnScope ["self", "value"] ["self", "value"] (defScope s_NoText___init__) := ⟨rfl, rfl, rfl, by decide +kernel, rfl, by decide +kernel, by decide +kernel⟩
theorem F_Url___init__ (c : Ct w K mg) : ∃ fd, FunD K d_Url___init__.name d_Url___init__.qual d_Url___init__.params d_Url___init__.body d_Url___init__.scope (d_Url___init__.dvs K) (d_Url___init__.kws K) (d_Url___init__.at_ K) fd := c.says.def_ 44 (d := d_Url___init__) rfl
theorem k_Url___init__ (c : Ct w K mg) : PySem.W.keepIn K (.ref (d_Url___init__.at_ K)) = true := (F_Url___init__ c).choose_spec.kp
theorem sc_Url___init__ : FnScope ["self", "parts"] ["self", "parts"] (defScope s_Url___init__) := ⟨rfl, rfl, rfl, by decide +kernel, rfl, by decide +kernel, by decide +kernel⟩
theorem F_Url_of (c : Ct w K mg) : ∃ fd, FunD K d_Url_of.name d_Url_of.qual d_Url_of.params d_Url_of.body d_Url_of.scope (d_Url_of.dvs K) (d_Url_of.kws K) (d_Url_of.at_ K) fd := c.says.def_ 45 (d := d_Url_of) rfl
theorem k_Url_of (c : Ct w K mg) : PySem.W.keepIn K (.ref (d_Url_of.at_ K)) = true := (F_Url_of c).choose_spec.kp
theorem sc_Url_of : FnScope ["cls", "scheme", "user", "host", "port", "path", "query", "fragment", "parts", "name", "value"] ["cls", "scheme", "user", "host", "port", "path", "query", "fragment"] (defScope s_Url_of) := ⟨rfl, rfl, rfl, by decide +kernel, rfl, by decide +kernel, by decide +kernel⟩
theorem F_Url_replaced (c : Ct w K mg) : ∃ fd, FunD K d_Url_replaced.name d_Url_replaced.qual d_Url_replaced.params d_Url_replaced.body d_Url_replaced.scope (d_Url_replaced.dvs K) (d_Url_replaced.kws K) (d_Url_replaced.at_ K) fd := c.says.def_ 46 (d := d_Url_replaced) rfl
theorem k_Url_replaced (c : Ct w K mg) : PySem.W.keepIn K (.ref (d_Url_replaced.at_ K)) = true := (F_Url_replaced c).choose_spec.kp
theorem sc_Url_replaced : FnScope ["self", "changes", "kept", "parts"] ["self", "changes"] (defScope s_Url_replaced) := ⟨rfl, rfl, rfl, by decide +kernel, rfl, by decide +kernel, by decide +kernel⟩
theorem F_Url_scheme (c : Ct w K mg) : ∃ fd, FunD K d_Url_scheme.name d_Url_scheme.qual d_Url_scheme.params d_Url_scheme.body d_Url_scheme.scope (d_Url_scheme.dvs K) (d_Url_scheme.kws K) (d_Url_scheme.at_ K) fd := c.says.def_ 47 (d := d_Url_scheme) rfl
theorem k_Url_scheme (c : Ct w K mg) : PySem.W.keepIn K (.ref (d_Url_scheme.at_ K)) = true := (F_Url_scheme c).choose_spec.kp
theorem sc_Url_scheme : FnScope ["self"] ["self"] (defScope s_Url_scheme) := ⟨rfl, rfl, rfl, by decide +kernel, rfl, by decide +kernel, by decide +kernel⟩
theorem F_Url_user (c : Ct w K mg) : ∃ fd, FunD K d_Url_user.name d_Url_user.qual d_Url_user.params d_Url_user.body d_Url_user.scope (d_Url_user.dvs K) (d_Url_user.kws K) (d_Url_user.at_ K) fd := c.says.def_ 48 (d := d_Url_user) rfl
theorem k_Url_user (c : Ct w K mg) : PySem.W.keepIn K (.ref (d_Url_user.at_ K)) = true := (F_Url_user c).choose_spec.kp
theorem sc_Url_user : FnScope ["self"] ["self"] (defScope s_Url_user) := ⟨rfl, rfl, rfl, by decide +kernel, rfl, by decide +kernel, by decide +kernel⟩
theorem F_Url_host (c : Ct w K mg) : ∃ fd, FunD K d_Url_host.name d_Url_host.qual d_Url_host.params d_Url_host.body d_Url_host.scope (d_Url_host.dvs K) (d_Url_host.kws K) (d_Url_host.at_ K) fd := c.says.def_ 49 (d := d_Url_host) rfl
theorem k_Url_host (c : Ct w K mg) : PySem.W.keepIn K (.ref (d_Url_host.at_ K)) = true := (F_Url_host c).choose_spec.kp
theorem sc_Url_host : FnScope ["self"] ["self"] (defScope s_Url_host) := ⟨rfl, rfl, rfl, by decide +kernel, rfl, by decide +kernel, by decide +kernel⟩
theorem F_Url_port (c : Ct w K mg) : ∃ fd, FunD K d_Url_port.name d_Url_port.qual d_Url_port.params d_Url_port.body d_Url_port.scope (d_Url_port.dvs K) (d_Url_port.kws K) (d_Url_port.at_ K) fd := c.says.def_ 50 (d := d_Url_port) rfl
theorem k_Url_port (c : Ct w K mg) : PySem.W.keepIn K (.ref (d_Url_port.at_ K)) = true := (F_Url_port c).choose_spec.kp
theorem sc_Url_port : FnScope ["self"] ["self"] (defScope s_Url_port) := ⟨rfl, rfl, rfl, by decide +kernel, rfl, by decide +kernel, by decide +kernel⟩
theorem F_Url_path (c : Ct w K mg) : ∃ fd, FunD K d_Url_path.name d_Url_path.qual d_Url_path.params d_Url_path.body d_Url_path.scope (d_Url_path.dvs K) (d_Url_path.kws K) (d_Url_path.at_ K) fd := c.says.def_ 51 (d := d_Url_path) rfl
theorem k_Url_path (c : Ct w K mg) : PySem.W.keepIn K (.ref (d_Url_path.at_ K)) = true := (F_Url_path c).choose_spec.kp
theorem sc_Url_path : FnScope ["self"] ["self"] (defScope s_Url_path) := ⟨rfl, rfl, rfl, by decide +kernel, rfl, by decide +kernel, by decide +kernel⟩
theorem F_Url_query (c : Ct w K mg) : ∃ fd, FunD K d_Url_query.name d_Url_query.qual d_Url_query.params d_Url_query.body d_Url_query.scope (d_Url_query.dvs K) (d_Url_query.kws K) (d_Url_query.at_ K) fd := c.says.def_ 52 (d := d_Url_query) rfl
theorem k_Url_query (c : Ct w K mg) : PySem.W.keepIn K (.ref (d_Url_query.at_ K)) = true := (F_Url_query c).choose_spec.kp
theorem sc_Url_query : FnScope ["self"] ["self"] (defScope s_Url_query) := ⟨rfl, rfl, rfl, by decide +kernel, rfl, by decide +kernel, by decide +kernel⟩
theorem F_Url_fragment (c : Ct w K mg) : ∃ fd, FunD K d_Url_fragment.name d_Url_fragment.qual d_Url_fragment.params d_Url_fragment.body d_Url_fragment.scope (d_Url_fragment.dvs K) (d_Url_fragment.kws K) (d_Url_fragment.at_ K) fd := c.says.def_ 53 (d := d_Url_fragment) rfl
theorem k_Url_fragment (c : Ct w K mg) : PySem.W.keepIn K (.ref (d_Url_fragment.at_ K)) = true := (F_Url_fragment c).choose_spec.kp
theorem sc_Url_fragment : FnScope ["self"] ["self"] (defScope s_Url_fragment) := ⟨rfl, rfl, rfl, by decide +kernel, rfl, by decide +kernel, by decide +kernel⟩
theorem F_Url_has_authority (c : Ct w K mg) : ∃ fd, FunD K d_Url_has_authority.name d_Url_has_authority.qual d_Url_has_authority.params d_Url_has_authority.body d_Url_has_authority.scope (d_Url_has_authority.dvs K) (d_Url_has_authority.kws K) (d_Url_has_authority.at_ K) fd := c.says.def_ 54 (d := d_Url_has_authority) rfl
theorem k_Url_has_authority (c : Ct w K mg) : PySem.W.keepIn K (.ref (d_Url_has_authority.at_ K)) = true := (F_Url_has_authority c).choose_spec.kp
theorem sc_Url_has_authority : FnScope ["self"] ["self"] (defScope s_Url_has_authority) := ⟨rfl, rfl, rfl, by decide +kernel, rfl, by decide +kernel, by decide +kernel⟩
theorem F_Url_is_base (c : Ct w K mg) : ∃ fd, FunD K d_Url_is_base.name d_Url_is_base.qual d_Url_is_base.params d_Url_is_base.body d_Url_is_base.scope (d_Url_is_base.dvs K) (d_Url_is_base.kws K) (d_Url_is_base.at_ K) fd := c.says.def_ 55 (d := d_Url_is_base) rfl
theorem k_Url_is_base (c : Ct w K mg) : PySem.W.keepIn K (.ref (d_Url_is_base.at_ K)) = true := (F_Url_is_base c).choose_spec.kp
theorem sc_Url_is_base : FnScope ["self"] ["self"] (defScope s_Url_is_base) := ⟨rfl, rfl, rfl, by decide +kernel, rfl, by decide +kernel, by decide +kernel⟩
theorem F_Url_is_opaque (c : Ct w K mg) : ∃ fd, FunD K d_Url_is_opaque.name d_Url_is_opaque.qual d_Url_is_opaque.params d_Url_is_opaque.body d_Url_is_opaque.scope (d_Url_is_opaque.dvs K) (d_Url_is_opaque.kws K) (d_Url_is_opaque.at_ K) fd := c.says.def_ 56 (d := d_Url_is_opaque) rfl
theorem k_Url_is_opaque (c : Ct w K mg) : PySem.W.keepIn K (.ref (d_Url_is_opaque.at_ K)) = true := (F_Url_is_opaque c).choose_spec.kp
theorem sc_Url_is_opaque : FnScope ["self"] ["self"] (defScope s_Url_is_opaque) := ⟨rfl, rfl, rfl, by decide +kernel, rfl, by decide +kernel, by decide +kernel⟩
theorem F_Url___add__ (c : Ct w K mg) : ∃ fd, FunD K d_Url___add__.name d_Url___add__.qual d_Url___add__.params d_Url___add__.body d_Url___add__.scope (d_Url___add__.dvs K) (d_Url___add__.kws K) (d_Url___add__.at_ K) fd := c.says.def_ 57 (d := d_Url___add__) rfl
theorem k_Url___add__ (c : Ct w K mg) : PySem.W.keepIn K (.ref (d_Url___add__.at_ K)) = true := (F_Url___add__ c).choose_spec.kp
theorem sc_Url___add__ : FnScope ["self", "other"] ["self", "other"] (defScope s_Url___add__) := ⟨rfl, rfl, rfl, by decide +kernel, rfl, by decide +kernel, by decide +kernel⟩
theorem F_Url___eq__ (c : Ct w K mg) : ∃ fd, FunD K d_Url___eq__.name d_Url___eq__.qual d_Url___eq__.params d_Url___eq__.body d_Url___eq__.scope (d_Url___eq__.dvs K) (d_Url___eq__.kws K) (d_Url___eq__.at_ K) fd := c.says.def_ 58 (d := d_Url___eq__) rfl
theorem k_Url___eq__ (c : Ct w K mg) : PySem.W.keepIn K (.ref (d_Url___eq__.at_ K)) = true := (F_Url___eq__ c).choose_spec.kp
theorem sc_Url___eq__ : FnScope ["self", "other"] ["self", "other"] (defScope s_Url___eq__) := ⟨rfl, rfl, rfl, by decide +kernel, rfl, by decide +kernel, by decide +kernel⟩
theorem F_Url___len__ (c : Ct w K mg) : ∃ fd, FunD K d_Url___len__.name d_Url___len__.qual d_Url___len__.params d_Url___len__.body d_Url___len__.scope (d_Url___len__.dvs K) (d_Url___len__.kws K) (d_Url___len__.at_ K) fd := c.says.def_ 59 (d := d_Url___len__) rfl
theorem k_Url___len__ (c : Ct w K mg) : PySem.W.keepIn K (.ref (d_Url___len__.at_ K)) = true := (F_Url___len__ c).choose_spec.kp
theorem sc_Url___len__ : FnScope ["self"] ["self"] (defScope s_Url___len__) := ⟨rfl, rfl, rfl, by decide +kernel, rfl, by decide +kernel, by decide +kernel⟩
theorem F_Url___repr__ (c : Ct w K mg) : ∃ fd, FunD K d_Url___repr__.name d_Url___repr__.qual d_Url___repr__.params d_Url___repr__.body d_Url___repr__.scope (d_Url___repr__.dvs K) (d_Url___repr__.kws K) (d_Url___repr__.at_ K) fd := c.says.def_ 60 (d := d_Url___repr__) rfl
theorem k_Url___repr__ (c : Ct w K mg) : PySem.W.keepIn K (.ref (d_Url___repr__.at_ K)) = true := (F_Url___repr__ c).choose_spec.kp
theorem sc_Url___repr__ : FnScope ["self", "text"] ["self"] (defScope s_Url___repr__) := ⟨rfl, rfl, rfl, by decide +kernel, rfl, by decide +kernel, by decide +kernel⟩
theorem F_Url___str__ (c : Ct w K mg) : ∃ fd, FunD K d_Url___str__.name d_Url___str__.qual d_Url___str__.params d_Url___str__.body d_Url___str__.scope (d_Url___str__.dvs K) (d_Url___str__.kws K) (d_Url___str__.at_ K) fd := c.says.def_ 61 (d := d_Url___str__) rfl
theorem k_Url___str__ (c : Ct w K mg) : PySem.W.keepIn K (.ref (d_Url___str__.at_ K)) = true := (F_Url___str__ c).choose_spec.kp
theorem sc_Url___str__ : FnScope ["self", "pieces"] ["self"] (defScope s_Url___str__) := ⟨rfl, rfl, rfl, by decide +kernel, rfl, by decide +kernel, by decide +kernel⟩
def kv_MORE : List (Str × He.Dv) := [(("user" : Str), He.Dv.str ":"), (("host" : Str), He.Dv.str ""), (("path" : Str), He.Dv.str ":@/"), (("query" : Str), He.Dv.str ":@/?"), (("fragment" : Str), He.Dv.str ":@/?")]
theorem kd_MORE (c : Ct w K mg) {q : Str × He.Dv} (hq : q ∈ kv_MORE) : KDct K w (He.ga K "MORE") q.1 (q.2.v K) := by
  obtain ⟨es, n, D⟩ := c.says.tab 0 rfl
  obtain ⟨u, e, r⟩ := He.valsB_ok (c.says.more 0 (e := fun K => He.valsB K (He.ga K "MORE") kv_MORE) rfl) hq
  exact ⟨es, n, u, D.at_, D.lit, e, r⟩
theorem oex_BadUrl (c : Ct w K mg) : OexC K (He.ga K "BadUrl") := Hc.oexB_ok (c.says.more 1 (e := (fun K => Hc.oexB K (He.ga K "BadUrl"))) rfl)
theorem xf_BadUrl (c : Ct w K mg) : XfC K (He.ga K "BadUrl") := xfB_ok (c.says.more 2 (e := (fun K => xfB K (He.ga K "BadUrl"))) rfl)
theorem ini_BadUrl (c : Ct w K mg) : PySem.W.findIn K (.ref (He.ga K "BadUrl")) "__init__" = some (some (.ref (He.ma K (He.ga K "BadUrl") "__init__"))) ∧ PySem.W.typeIn K (.ref (He.ma K (He.ga K "BadUrl") "__init__")) = some (.type "function") := Hc.iniB_ok (c.says.more 3 (e := (fun K => Hc.iniB K (He.ga K "BadUrl") (He.ma K (He.ga K "BadUrl") "__init__"))) rfl)
theorem oex_BadPart (c : Ct w K mg) : OexC K (He.ga K "BadPart") := Hc.oexB_ok (c.says.more 4 (e := (fun K => Hc.oexB K (He.ga K "BadPart"))) rfl)
theorem xf_BadPart (c : Ct w K mg) : XfC K (He.ga K "BadPart") := xfB_ok (c.says.more 5 (e := (fun K => xfB K (He.ga K "BadPart"))) rfl)
theorem ini_BadPart (c : Ct w K mg) : PySem.W.findIn K (.ref (He.ga K "BadPart")) "__init__" = some (some (.ref (He.ma K (He.ga K "BadPart") "__init__"))) ∧ PySem.W.typeIn K (.ref (He.ma K (He.ga K "BadPart") "__init__")) = some (.type "function") := Hc.iniB_ok (c.says.more 6 (e := (fun K => Hc.iniB K (He.ga K "BadPart") (He.ma K (He.ga K "BadPart") "__init__"))) rfl)
theorem oex_NoBase (c : Ct w K mg) : OexC K (He.ga K "NoBase") := Hc.oexB_ok (c.says.more 7 (e := (fun K => Hc.oexB K (He.ga K "NoBase"))) rfl)
theorem xf_NoBase (c : Ct w K mg) : XfC K (He.ga K "NoBase") := xfB_ok (c.says.more 8 (e := (fun K => xfB K (He.ga K "NoBase"))) rfl)
theorem ini_NoBase (c : Ct w K mg) : PySem.W.findIn K (.ref (He.ga K "NoBase")) "__init__" = some (some (.ref (He.ma K (He.ga K "NoBase") "__init__"))) ∧ PySem.W.typeIn K (.ref (He.ma K (He.ga K "NoBase") "__init__")) = some (.type "function") := Hc.iniB_ok (c.says.more 9 (e := (fun K => Hc.iniB K (He.ga K "NoBase") (He.ma K (He.ga K "NoBase") "__init__"))) rfl)
theorem oxa_NoText (c : Ct w K mg) : OexA K (He.ga K "NoText") := oexAB_ok (c.says.more 10 (e := (fun K => oexAB K (He.ga K "NoText"))) rfl)
theorem xf_NoText (c : Ct w K mg) : XfC K (He.ga K "NoText") := xfB_ok (c.says.more 11 (e := (fun K => xfB K (He.ga K "NoText"))) rfl)
theorem ini_NoText (c : Ct w K mg) : PySem.W.findIn K (.ref (He.ga K "NoText")) "__init__" = some (some (.ref (He.ma K (He.ga K "NoText") "__init__"))) ∧ PySem.W.typeIn K (.ref (He.ma K (He.ga K "NoText") "__init__")) = some (.type "function") := Hc.iniB_ok (c.says.more 12 (e := (fun K => Hc.iniB K (He.ga K "NoText") (He.ma K (He.ga K "NoText") "__init__"))) rfl)
theorem read_Url (c : Ct w K mg) : CRead K (He.ga K "Url") (.type "type") := Hc.readB_ok (c.says.more 13 (e := (fun K => Hc.readB K (He.ga K "Url"))) rfl)
theorem cval_Url_PARTS (c : Ct w K mg) : CVal K (He.ga K "Url") (.type "type") "PARTS" (.ref (Hc.cvalP K (He.ga K "Url") "PARTS")) (.ref (Hc.cvalP K (He.ga K "Url") "PARTS")) := Hc.cvalB_ok (c.says.more 14 (e := (fun K => Hc.cvalB K (He.ga K "Url") "PARTS")) rfl)
theorem tups_Url_PARTS (c : Ct w K mg) (H : Hp) : SqT K H (Hc.cvalP K (He.ga K "Url") "PARTS") (([("scheme" : Str), ("user" : Str), ("host" : Str), ("port" : Str), ("path" : Str), ("query" : Str), ("fragment" : Str)] : List Str).map V.str) := Hc.tupSB_ok (c.says.more 15 (e := (fun K => Hc.tupSB K (Hc.cvalP K (He.ga K "Url") "PARTS") [("scheme" : Str), ("user" : Str), ("host" : Str), ("port" : Str), ("path" : Str), ("query" : Str), ("fragment" : Str)])) rfl) H
theorem cm_Url_of (c : Ct w K mg) : CMet K (He.ga K "Url") (.type "type") "of" (Hc.cmP K (He.ga K "Url") "of") (He5.wf K (He.ga K "Url") "classmethod" "of") := Hc.cmB_ok (c.says.more 16 (e := (fun K => Hc.cmB K (He.ga K "Url") "of" (He5.wf K (He.ga K "Url") "classmethod" "of"))) rfl)
theorem prop_Url_scheme (c : Ct w K mg) : PropOf K (He.ga K "Url") "scheme" (Hc.propP K (He.ga K "Url") "scheme") (He5.wf K (He.ga K "Url") "property" "scheme") := Hc.propB_ok (c.says.more 17 (e := (fun K => Hc.propB K (He.ga K "Url") "scheme" (He5.wf K (He.ga K "Url") "property" "scheme"))) rfl)
theorem prop_Url_user (c : Ct w K mg) : PropOf K (He.ga K "Url") "user" (Hc.propP K (He.ga K "Url") "user") (He5.wf K (He.ga K "Url") "property" "user") := Hc.propB_ok (c.says.more 18 (e := (fun K => Hc.propB K (He.ga K "Url") "user" (He5.wf K (He.ga K "Url") "property" "user"))) rfl)
theorem prop_Url_host (c : Ct w K mg) : PropOf K (He.ga K "Url") "host" (Hc.propP K (He.ga K "Url") "host") (He5.wf K (He.ga K "Url") "property" "host") := Hc.propB_ok (c.says.more 19 (e := (fun K => Hc.propB K (He.ga K "Url") "host" (He5.wf K (He.ga K "Url") "property" "host"))) rfl)
theorem prop_Url_port (c : Ct w K mg) : PropOf K (He.ga K "Url") "port" (Hc.propP K (He.ga K "Url") "port") (He5.wf K (He.ga K "Url") "property" "port") := Hc.propB_ok (c.says.more 20 (e := (fun K => Hc.propB K (He.ga K "Url") "port" (He5.wf K (He.ga K "Url") "property" "port"))) rfl)
theorem prop_Url_path (c : Ct w K mg) : PropOf K (He.ga K "Url") "path" (Hc.propP K (He.ga K "Url") "path") (He5.wf K (He.ga K "Url") "property" "path") := Hc.propB_ok (c.says.more 21 (e := (fun K => Hc.propB K (He.ga K "Url") "path" (He5.wf K (He.ga K "Url") "property" "path"))) rfl)
theorem prop_Url_query (c : Ct w K mg) : PropOf K (He.ga K "Url") "query" (Hc.propP K (He.ga K "Url") "query") (He5.wf K (He.ga K "Url") "property" "query") := Hc.propB_ok (c.says.more 22 (e := (fun K => Hc.propB K (He.ga K "Url") "query" (He5.wf K (He.ga K "Url") "property" "query"))) rfl)
theorem prop_Url_fragment (c : Ct w K mg) : PropOf K (He.ga K "Url") "fragment" (Hc.propP K (He.ga K "Url") "fragment") (He5.wf K (He.ga K "Url") "property" "fragment") := Hc.propB_ok (c.says.more 23 (e := (fun K => Hc.propB K (He.ga K "Url") "fragment" (He5.wf K (He.ga K "Url") "property" "fragment"))) rfl)
theorem prop_Url_has_authority (c : Ct w K mg) : PropOf K (He.ga K "Url") "has_authority" (Hc.propP K (He.ga K "Url") "has_authority") (He5.wf K (He.ga K "Url") "property" "has_authority") := Hc.propB_ok (c.says.more 24 (e := (fun K => Hc.propB K (He.ga K "Url") "has_authority" (He5.wf K (He.ga K "Url") "property" "has_authority"))) rfl)
theorem prop_Url_is_base (c : Ct w K mg) : PropOf K (He.ga K "Url") "is_base" (Hc.propP K (He.ga K "Url") "is_base") (He5.wf K (He.ga K "Url") "property" "is_base") := Hc.propB_ok (c.says.more 25 (e := (fun K => Hc.propB K (He.ga K "Url") "is_base" (He5.wf K (He.ga K "Url") "property" "is_base"))) rfl)
theorem prop_Url_is_opaque (c : Ct w K mg) : PropOf K (He.ga K "Url") "is_opaque" (Hc.propP K (He.ga K "Url") "is_opaque") (He5.wf K (He.ga K "Url") "property" "is_opaque") := Hc.propB_ok (c.says.more 26 (e := (fun K => Hc.propB K (He.ga K "Url") "is_opaque" (He5.wf K (He.ga K "Url") "property" "is_opaque"))) rfl)
theorem sf_Url (c : Ct w K mg) : PySem.W.selfFirst K (He.ga K "Url") = true := id (c.says.more 27 (e := (fun K => PySem.W.selfFirst K (He.ga K "Url"))) rfl)
theorem spc_Url___add__ (c : Ct w K mg) : PySem.W.findIn K (.ref (He.ga K "Url")) "__add__" = some (some (.ref (He.ma K (He.ga K "Url") "__add__"))) ∧ PySem.W.isFn K (.ref (He.ma K (He.ga K "Url") "__add__")) = true := Hc.spcB_ok (c.says.more 28 (e := (fun K => Hc.spcB K (He.ga K "Url") "__add__" (He.ma K (He.ga K "Url") "__add__"))) rfl)
theorem eqc_Url (c : Ct w K mg) : Xr.EqC K (He.ga K "Url") (He.ma K (He.ga K "Url") "__eq__") := Xr.eqcB_ok (c.says.more 29 (e := (fun K => Xr.eqcB K (He.ga K "Url") (He.ma K (He.ga K "Url") "__eq__"))) rfl)
theorem spc_Url___eq__ (c : Ct w K mg) : PySem.W.findIn K (.ref (He.ga K "Url")) "__eq__" = some (some (.ref (He.ma K (He.ga K "Url") "__eq__"))) ∧ PySem.W.isFn K (.ref (He.ma K (He.ga K "Url") "__eq__")) = true := Hc.spcB_ok (c.says.more 30 (e := (fun K => Hc.spcB K (He.ga K "Url") "__eq__" (He.ma K (He.ga K "Url") "__eq__"))) rfl)
theorem spc_Url___len__ (c : Ct w K mg) : PySem.W.findIn K (.ref (He.ga K "Url")) "__len__" = some (some (.ref (He.ma K (He.ga K "Url") "__len__"))) ∧ PySem.W.isFn K (.ref (He.ma K (He.ga K "Url") "__len__")) = true := Hc.spcB_ok (c.says.more 31 (e := (fun K => Hc.spcB K (He.ga K "Url") "__len__" (He.ma K (He.ga K "Url") "__len__"))) rfl)
theorem spc_Url___repr__ (c : Ct w K mg) : PySem.W.findIn K (.ref (He.ga K "Url")) "__repr__" = some (some (.ref (He.ma K (He.ga K "Url") "__repr__"))) ∧ PySem.W.isFn K (.ref (He.ma K (He.ga K "Url") "__repr__")) = true := Hc.spcB_ok (c.says.more 32 (e := (fun K => Hc.spcB K (He.ga K "Url") "__repr__" (He.ma K (He.ga K "Url") "__repr__"))) rfl)
theorem spc_Url___str__ (c : Ct w K mg) : PySem.W.findIn K (.ref (He.ga K "Url")) "__str__" = some (some (.ref (He.ma K (He.ga K "Url") "__str__"))) ∧ PySem.W.isFn K (.ref (He.ma K (He.ga K "Url") "__str__")) = true := Hc.spcB_ok (c.says.more 33 (e := (fun K => Hc.spcB K (He.ga K "Url") "__str__" (He.ma K (He.ga K "Url") "__str__"))) rfl)
end
end Fx
set_option Elab.async false
set_option linter.all false
set_option maxRecDepth 100000
/-! Mi: the mathematics of parts and their wrong places, over lists of codes. -/
namespace Mi
open PySem PySem.Builtin PySem.Builtin.Str PySem.StrLaws L2 TL
abbrev T := List Nat
/-! ### signs -/
def LETT : T := tl "ABCDEFGHIJKLMNOPQRSTUVWXYZabcdefghijklmnopqrstuvwxyz"
def DIGT : T := tl "0123456789"
def HEXT : T := tl "0123456789ABCDEFabcdef"
def PLNT : T := tl "-.0123456789ABCDEFGHIJKLMNOPQRSTUVWXYZ_abcdefghijklmnopqrstuvwxyz~"
def INNT : T := tl "!$&'()*+,;="
/-- the length of the longest beginning of signs of S -/
def fo (l S : T) : Nat := (l.takeWhile S.contains).length
def hex2 : T → Bool
  | a :: b :: _ => HEXT.contains a && HEXT.contains b
  | _ => false
theorem fo_le (l S : T) : fo l S ≤ l.length := by
  unfold fo
  induction l with
  | nil => exact Nat.le_refl _
  | cons c r ih =>
    rw [List.takeWhile_cons]
    split
    · simp only [List.length_cons]; omega
    · simp
theorem fo_nil (S : T) : fo [] S = 0 := rfl
theorem fo_in {c : Nat} {r S : T} (h : S.contains c = true) : fo (c :: r) S = fo r S + 1 := by
  unfold fo; rw [List.takeWhile_cons, if_pos h]; rfl
theorem fo_out {c : Nat} {r S : T} (h : S.contains c = false) : fo (c :: r) S = 0 := by
  unfold fo; rw [List.takeWhile_cons, if_neg (by rw [h]; exact Bool.false_ne_true)]; rfl
/-- the sign at the first other place is none of S; all ahead of it are -/
theorem fo_at {l S : T} (h : fo l S < l.length) : ∃ c, l[fo l S]? = some c ∧ S.contains c = false := by
  induction l with
  | nil => exact absurd h (Nat.lt_irrefl _)
  | cons c r ih =>
    cases hc : S.contains c with
    | true =>
      rw [fo_in hc] at h ⊢
      obtain ⟨d, h1, h2⟩ := ih (by simpa using h)
      exact ⟨d, by simpa using h1, h2⟩
    | false =>
      rw [fo_out hc]
      exact ⟨c, rfl, hc⟩
theorem fo_before {l S : T} {i : Nat} (h : i < fo l S) : ∃ c, l[i]? = some c ∧ S.contains c = true := by
  induction l generalizing i with
  | nil => exact absurd h (Nat.not_lt_zero _)
  | cons c r ih =>
    cases hc : S.contains c with
    | true =>
      rw [fo_in hc] at h
      cases i with
      | zero => exact ⟨c, rfl, hc⟩
      | succ i =>
        obtain ⟨d, h1, h2⟩ := ih (i := i) (by omega)
        exact ⟨d, by simpa using h1, h2⟩
    | false =>
      rw [fo_out hc] at h
      exact absurd h (Nat.not_lt_zero _)
theorem lstrip_tl (x y : Str) : tl (Txt.lstripChars x y) = (tl x).drop (fo (tl x) (tl y)) := by
  have hg : stripLo y.cps.contains true x = fo (tl x) (tl y) := by
    unfold stripLo fo
    rw [if_pos rfl]
    congr 2
    funext c
    show y.cps.contains c = (tl y).contains c
    simp [tl]
  have hh : ∀ lo, stripHi y.cps.contains false x lo = x.length := fun lo => by unfold stripHi; rw [if_neg Bool.false_ne_true]
  unfold Txt.lstripChars Txt.stripBy
  split
  · rename_i h
    unfold stripSame at h
    rw [hg, hh] at h
    have h0 : fo (tl x) (tl y) = 0 := by simpa using h
    rw [h0]; rfl
  · unfold stripped
    rw [hg, hh, tl_strSub_end]
theorem lstrip_len (x y : Str) : (x.length : Int) - ((Txt.lstripChars x y).length : Int) = (fo (tl x) (tl y) : Int) := by
  rw [len_tl x, len_tl (Txt.lstripChars x y), lstrip_tl, List.length_drop]
  have := fo_le (tl x) (tl y)
  omega
/-! ### a text cut at one sign -/
/-- the pieces between the signs c -/
def cut (c : Nat) : T → List T
  | [] => [[]]
  | d :: r => if d = c then [] :: cut c r else match cut c r with
    | p :: ps => (d :: p) :: ps
    | [] => [[d]]
theorem cut_ne (c : Nat) (l : T) : cut c l ≠ [] := by
  cases l with
  | nil => exact List.cons_ne_nil _ _
  | cons d r =>
    unfold cut
    split
    · exact List.cons_ne_nil _ _
    · split <;> exact List.cons_ne_nil _ _
theorem cut_hit (c : Nat) (r : T) : cut c (c :: r) = [] :: cut c r := by
  conv => lhs; unfold cut
  rw [if_pos rfl]
theorem cut_miss {c d : Nat} (h : d ≠ c) (r : T) : cut c (d :: r) = (match cut c r with | p :: ps => (d :: p) :: ps | [] => [[d]]) := by
  conv => lhs; unfold cut
  rw [if_neg h]
theorem spl_cut (c : Nat) : ∀ (l acc : T), spl [c] 0 acc l = (match cut c l with | p :: ps => (acc ++ p) :: ps | [] => [acc])
  | [], acc => by
    rw [spl_nil]
    show [acc] = [acc ++ []]
    rw [List.append_nil]
  | d :: r, acc => by
    by_cases h : d = c
    · subst h
      have hp : pre [d] (d :: r) = true := by simp [pre]
      rw [spl_hit hp]
      show acc :: spl [d] 0 [] r = _
      rw [spl_cut d r [], cut_hit]
      show _ = (acc ++ []) :: cut d r
      rw [List.append_nil]
      cases e : cut d r with
      | nil => exact absurd e (cut_ne d r)
      | cons p ps => rfl
    · have hp : pre [c] (d :: r) = false := by simp [pre, h]
      rw [spl_miss hp, spl_cut c r (acc ++ [d])]
      rw [cut_miss h]
      cases e : cut c r with
      | nil => exact absurd e (cut_ne c r)
      | cons p ps =>
        show (acc ++ [d] ++ p) :: ps = (acc ++ d :: p) :: ps
        rw [List.append_assoc]; rfl
theorem split_cut (x : Str) (c : Nat) (hc : c < 256) : (Txt.split x ⟨#[c]⟩).map tl = cut c (tl x) := by
  have h := split_spl x ⟨#[c]⟩ (show tl ⟨#[c]⟩ ≠ [] from List.cons_ne_nil _ _) (kind_ok (by simpa using hc))
  rw [h]
  show spl [c] 0 [] (tl x) = _
  rw [spl_cut]
  cases e : cut c (tl x) with
  | nil => exact absurd e (cut_ne c _)
  | cons p ps => rfl
/-- what stands before the first c; what stands behind it -/
def bef (c : Nat) (l : T) : T := l.takeWhile (· != c)
def aft (c : Nat) (l : T) : T := (l.dropWhile (· != c)).drop 1
theorem par_cut (c : Nat) : ∀ (l acc : T), par [c] acc l = if l.contains c = true then some (acc ++ bef c l, aft c l) else none
  | [], acc => by simp [par]
  | d :: r, acc => by
    by_cases h : d = c
    · subst h
      have hp : pre [d] (d :: r) = true := by simp [pre]
      rw [par_hit hp]
      simp [bef, aft]
    · have hp : pre [c] (d :: r) = false := by simp [pre, h]
      have hb : (d != c) = true := by simpa using h
      rw [par_miss hp, par_cut c r]
      have e1 : (d :: r).contains c = r.contains c := by
        simp only [List.contains_cons]
        have : (c == d) = false := by simpa using fun e : c = d => h e.symm
        rw [this, Bool.false_or]
      rw [e1]
      have e2 : bef c (d :: r) = d :: bef c r := by unfold bef; rw [List.takeWhile_cons, if_pos hb]
      have e3 : aft c (d :: r) = aft c r := by unfold aft; rw [List.dropWhile_cons, if_pos hb]
      rw [e2, e3, List.append_assoc]
      rfl
theorem bef_none {c : Nat} : ∀ {l : T}, l.contains c = false → bef c l = l
  | [], _ => rfl
  | d :: r, h => by
    have h2 := h
    simp only [List.contains_cons, Bool.or_eq_false_iff] at h2
    have : (d != c) = true := by
      have := h2.1
      simp only [beq_eq_false_iff_ne] at this
      simpa using fun e : d = c => this e.symm
    unfold bef
    rw [List.takeWhile_cons, if_pos this]
    exact congrArg (d :: ·) (bef_none h2.2)
theorem bef_aft {c : Nat} {l : T} (h : l.contains c = true) : l = bef c l ++ c :: aft c l := by
  unfold bef aft
  induction l with
  | nil => cases h
  | cons d r ih =>
    by_cases e : d = c
    · subst e; simp
    · have hb : (d != c) = true := by simpa using e
      have h' : r.contains c = true := by
        simp only [List.contains_cons] at h
        have : (c == d) = false := by simpa using fun q : c = d => e q.symm
        rw [this, Bool.false_or] at h
        exact h
      rw [List.takeWhile_cons, if_pos hb, List.dropWhile_cons, if_pos hb, List.cons_append, ← ih h']
theorem bef_free (c : Nat) (l : T) : (bef c l).contains c = false := by
  unfold bef
  induction l with
  | nil => rfl
  | cons d r ih =>
    rw [List.takeWhile_cons]
    split
    · rename_i h
      have : (c == d) = false := by
        have : d ≠ c := by simpa using h
        simpa using fun q : c = d => this q.symm
      simp only [List.contains_cons]
      rw [this, Bool.false_or]
      exact ih
    · rfl
/-- partition at one sign -/
theorem part_cut (x : Str) (c : Nat) : tl (Txt.partition x ⟨#[c]⟩).1 = bef c (tl x) ∧ (Txt.partition x ⟨#[c]⟩).2.1 = (if (tl x).contains c = true then ⟨#[c]⟩ else Str.empty) ∧
    tl (Txt.partition x ⟨#[c]⟩).2.2 = (if (tl x).contains c = true then aft c (tl x) else []) := by
  rw [partition_par x ⟨#[c]⟩ (show tl ⟨#[c]⟩ ≠ [] from List.cons_ne_nil _ _)]
  rw [show tl (⟨#[c]⟩ : Str) = [c] from rfl, par_cut]
  cases h : (tl x).contains c with
  | true =>
    rw [if_pos rfl, if_pos rfl, if_pos rfl]
    refine ⟨?_, rfl, ?_⟩
    · show tl ⟨(([] : T) ++ bef c (tl x)).toArray⟩ = _
      rw [tl_mk]; rfl
    · show tl ⟨(aft c (tl x)).toArray⟩ = _
      rw [tl_mk]
  | false =>
    rw [if_neg Bool.false_ne_true, if_neg Bool.false_ne_true, if_neg Bool.false_ne_true]
    exact ⟨(bef_none h).symm, rfl, rfl⟩
end Mi
set_option Elab.async false
set_option linter.all false
set_option maxRecDepth 100000
/-! Mj: mirrors of the program: wrong places of parts. -/
namespace Mi
open PySem PySem.Builtin PySem.Builtin.Str PySem.StrLaws L2 TL
abbrev KP := Option (Str × Nat)
def kE : Str := "escape"
def kS : Str := "sign"
def kC : Str := "scheme"
def kP : Str := "port"
def kH : Str := "host"
/-- the pieces between "^", one behind another -/
def wAm (S : T) : Nat → Nat → List T → KP
  | _, _, [] => none
  | k, st, p :: ps => if 0 < k ∧ hex2 p = false then some (kE, st - 1) else if fo p S < p.length then some (kS, st + fo p S) else wAm S (k + 1) (st + p.length + 1) ps
/-- sign by sign -/
def scan (S : T) : Nat → T → KP
  | _, [] => none
  | i, c :: r => if c = 94 then (match r with
      | a :: b :: q => if (HEXT.contains a && HEXT.contains b) = true then scan S (i + 3) q else some (kE, i)
      | _ => some (kE, i)) else if S.contains c = true then scan S (i + 1) r else some (kS, i)
def SCHT : T := LETT ++ DIGT ++ tl "+-."
def badHead : T → Bool
  | [] => true
  | c :: _ => !LETT.contains c
def wSch (l : T) : KP := if badHead l = true then some (kC, 0) else if fo l SCHT < l.length then some (kC, fo l SCHT) else none
def val5 (l : T) : Nat := l.foldl (fun a c => a * 10 + (c - 48)) 0
def wPort (l : T) : KP := if fo (l.take 5) DIGT = 5 ∧ 65535 < val5 (l.take 5) then some (kP, 0) else if fo (l.take 5) DIGT < l.length then some (kP, fo (l.take 5) DIGT) else none
def BRKT : T := HEXT ++ tl ":."
def wBr (l : T) : KP := if fo (l.drop 1) BRKT = 0 ∨ (l.drop (1 + fo (l.drop 1) BRKT)).take 1 ≠ [93] then some (kH, 1 + fo (l.drop 1) BRKT)
  else if 1 + fo (l.drop 1) BRKT + 1 < l.length then some (kH, 1 + fo (l.drop 1) BRKT + 1) else none
theorem wAm_pos (S : T) : ∀ (ps : List T) (k k' st : Nat), 0 < k → 0 < k' → wAm S k st ps = wAm S k' st ps
  | [], _, _, _, _, _ => rfl
  | p :: ps, k, k', st, h, h' => by
    show (if 0 < k ∧ hex2 p = false then _ else if _ then _ else wAm S (k + 1) (st + p.length + 1) ps) = (if 0 < k' ∧ hex2 p = false then _ else if _ then _ else wAm S (k' + 1) (st + p.length + 1) ps)
    rw [wAm_pos S ps (k + 1) (k' + 1) _ (by omega) (by omega)]
    simp only [h, h', true_and]
theorem hex94 : HEXT.contains 94 = false := by decide +kernel
theorem hex2_cut (l : T) : ∀ p ps, cut 94 l = p :: ps → hex2 p = hex2 l := by
  intro p ps h
  match l with
  | [] => cases h; rfl
  | c :: r =>
    by_cases hc : c = 94
    · subst hc
      rw [cut_hit] at h
      cases h
      match r with
      | [] => rfl
      | d :: q => show false = (HEXT.contains 94 && HEXT.contains d); rw [hex94]; rfl
    · rw [cut_miss hc] at h
      match r with
      | [] => cases h; rfl
      | d :: q =>
        by_cases hd : d = 94
        · subst hd
          rw [cut_hit] at h
          cases h
          show false = (HEXT.contains c && HEXT.contains 94)
          rw [hex94, Bool.and_false]
        · rw [cut_miss hd] at h
          cases e : cut 94 q with
          | nil => exact absurd e (cut_ne 94 q)
          | cons p' ps' =>
            rw [e] at h
            cases h
            rfl
theorem scan_94 (S : T) (st : Nat) (r : T) : scan S st (94 :: r) = (match r with
      | a :: b :: q => if (HEXT.contains a && HEXT.contains b) = true then scan S (st + 3) q else some (kE, st)
      | _ => some (kE, st)) := by
  conv => lhs; unfold scan
  rw [if_pos rfl]
  rcases r with _ | ⟨a, _ | ⟨b, q⟩⟩ <;> rfl
theorem wAm_scan (S : T) (h94 : S.contains 94 = false) (hhex : ∀ c, HEXT.contains c = true → S.contains c = true) : ∀ (n : Nat) (l : T), l.length ≤ n → ∀ k st,
    wAm S k st (cut 94 l) = if 0 < k ∧ hex2 l = false then some (kE, st - 1) else scan S st l
  | n, [], _, k, st => by
    show (if 0 < k ∧ hex2 [] = false then some (kE, st - 1) else if fo [] S < ([] : T).length then _ else none) = _
    rw [fo_nil, if_neg (show ¬ 0 < ([] : T).length from Nat.lt_irrefl 0)]
    rfl
  | 0, c :: r, h, _, _ => absurd h (by simp)
  | n + 1, c :: r, h, k, st => by
    have hr : r.length ≤ n := by simpa using h
    by_cases hc : c = 94
    · subst hc
      have h2 : hex2 (94 :: r) = false := by
        match r with
        | [] => rfl
        | d :: q => show (HEXT.contains 94 && HEXT.contains d) = false; rw [hex94]; rfl
      rw [cut_hit, h2]
      show (if 0 < k ∧ hex2 [] = false then some (kE, st - 1) else if fo [] S < ([] : T).length then _ else wAm S (k + 1) (st + ([] : T).length + 1) (cut 94 r)) = _
      rw [fo_nil, if_neg (show ¬ 0 < ([] : T).length from Nat.lt_irrefl 0), show hex2 [] = false from rfl]
      by_cases hk : 0 < k
      · rw [if_pos ⟨hk, rfl⟩, if_pos ⟨hk, rfl⟩]
      · rw [if_neg (fun z => hk z.1), if_neg (fun z => hk z.1)]
        rw [wAm_scan S h94 hhex n r hr]
        rw [scan_94]
        match r with
        | [] => rfl
        | [a] => rfl
        | a :: b :: q =>
          show (if 0 < k + 1 ∧ (HEXT.contains a && HEXT.contains b) = false then some (kE, st) else scan S (st + 1) (a :: b :: q)) = if (HEXT.contains a && HEXT.contains b) = true then scan S (st + 3) q else some (kE, st)
          cases hab : (HEXT.contains a && HEXT.contains b) with
          | false => rw [if_pos ⟨Nat.succ_pos _, rfl⟩, if_neg Bool.false_ne_true]
          | true =>
            rw [if_neg (fun z => by cases z.2), if_pos rfl]
            rw [Bool.and_eq_true] at hab
            have ha := hhex a hab.1
            have hb := hhex b hab.2
            have na : a ≠ 94 := fun e => by subst e; rw [h94] at ha; cases ha
            have nb : b ≠ 94 := fun e => by subst e; rw [h94] at hb; cases hb
            conv => lhs; unfold scan
            rw [if_neg na, if_pos ha]
            conv => lhs; unfold scan
            rw [if_neg nb, if_pos hb]
    · have e1 : scan S st (c :: r) = if S.contains c = true then scan S (st + 1) r else some (kS, st) := by
        conv => lhs; unfold scan
        rw [if_neg hc]
      cases e : cut 94 r with
      | nil => exact absurd e (cut_ne 94 r)
      | cons p ps =>
        have ec : cut 94 (c :: r) = (c :: p) :: ps := by rw [cut_miss hc, e]
        have e2 := hex2_cut (c :: r) _ _ ec
        have e3 := wAm_scan S h94 hhex n r hr 0 (st + 1)
        rw [e, if_neg (fun z => Nat.lt_irrefl 0 z.1)] at e3
        rw [ec, e1]
        show (if 0 < k ∧ hex2 (c :: p) = false then some (kE, st - 1) else if fo (c :: p) S < (c :: p).length then some (kS, st + fo (c :: p) S) else wAm S (k + 1) (st + (c :: p).length + 1) ps) = _
        rw [e2]
        by_cases hk : 0 < k ∧ hex2 (c :: r) = false
        · rw [if_pos hk, if_pos hk]
        · rw [if_neg hk, if_neg hk]
          cases hs : S.contains c with
          | false =>
            rw [fo_out hs, if_pos (by simp), if_neg Bool.false_ne_true]
            rfl
          | true =>
            have e4 : wAm S 0 (st + 1) (p :: ps) = if fo p S < p.length then some (kS, st + 1 + fo p S) else wAm S 1 (st + 1 + p.length + 1) ps := by
              show (if 0 < 0 ∧ hex2 p = false then some (kE, st + 1 - 1) else if fo p S < p.length then some (kS, st + 1 + fo p S) else wAm S (0 + 1) (st + 1 + p.length + 1) ps) = _
              have hz : ¬ (0 < 0 ∧ hex2 p = false) := fun z => Nat.lt_irrefl 0 z.1
              rw [if_neg hz]
            rw [if_pos rfl, ← e3, e4, fo_in hs, wAm_pos S ps (k + 1) 1 _ (by omega) (by omega)]
            by_cases hl : fo p S < p.length
            · rw [if_pos hl, if_pos (by simp only [List.length_cons]; omega), show st + (fo p S + 1) = st + 1 + fo p S by omega]
            · rw [if_neg hl, if_neg (by simp only [List.length_cons]; omega)]
              congr 1
              simp only [List.length_cons]
              omega
theorem sw_pre (x y : Str) (hy : tl y ≠ []) : Txt.startswith x y = pre (tl y) (tl x) := by
  have h := at_iff (x := x) hy 0
  rw [List.drop_zero] at h
  unfold At at h
  show (decide (0 + y.length ≤ x.length) && subAt x y 0) = _
  cases hp : pre (tl y) (tl x) with
  | true =>
    obtain ⟨h1, h2⟩ := h.mpr hp
    rw [h2, decide_eq_true h1]; rfl
  | false =>
    cases hd : (decide (0 + y.length ≤ x.length) && subAt x y 0) with
    | false => rfl
    | true =>
      rw [Bool.and_eq_true] at hd
      rw [h.mp ⟨of_decide_eq_true hd.1, hd.2⟩] at hp
      cases hp
end Mi
set_option Elab.async false
set_option linter.all false
set_option maxRecDepth 100000
/-! Mk: find in a range; the split of a text into its parts. -/
namespace Mi
open PySem PySem.Builtin PySem.Builtin.Str PySem.StrLaws L2 TL
theorem range'_pre {lo n a : Nat} {pre post : List Nat} (h : List.range' lo n = pre ++ a :: post) : lo ≤ a ∧ ∀ k, lo ≤ k → k < a → k ∈ pre := by
  have hL : n = pre.length + (post.length + 1) := by
    have := congrArg List.length h
    simpa using this
  have hlen : a = lo + pre.length := by
    have h1 : (List.range' lo n)[pre.length]? = some a := by rw [h]; simp
    rw [List.getElem?_range' (by omega)] at h1
    have := Option.some.inj h1
    omega
  refine ⟨by omega, fun k h0 h1 => ?_⟩
  have h2 : (List.range' lo n)[k - lo]? = pre[k - lo]? := by rw [h, List.getElem?_append_left (by omega)]
  rw [List.getElem?_range' (by omega)] at h2
  have h3 : pre[k - lo]? = some k := by
    rw [← h2]
    congr 1
    omega
  exact List.mem_of_getElem? h3
theorem occ_from (x y : Str) (lo hi limit : Nat) (hl : 1 ≤ limit) :
    (occurrences x y lo hi limit = [] ∧ ∀ i, lo ≤ i → ¬ At x y hi i) ∨ ∃ i r, occurrences x y lo hi limit = i :: r ∧ lo ≤ i ∧ At x y hi i ∧ ∀ k, lo ≤ k → k < i → ¬ At x y hi k := by
  rw [occ_eq]
  rcases occ_first x y hi limit hl (List.range' lo (hi + 1 - lo)) lo (fun i h => by have := List.mem_range'.mp h; omega) with ⟨h0, hn⟩ | ⟨pre, a, post, e, h0, ha, hn⟩
  · refine .inl ⟨by rw [h0], fun i hlo hi' => ?_⟩
    have := hi'.1
    exact hn i (List.mem_range'.mpr ⟨i - lo, by omega, by omega⟩) hi'
  · obtain ⟨ha0, hpre⟩ := range'_pre e
    refine .inr ⟨a, ((forIn (List.range' lo (hi + 1 - lo)) ((#[] : Array Nat), lo) (occBody x y hi limit)).run.fst.toList).tail, ?_, ha0, ha, fun k h1 h2 => hn k (hpre k h1 h2)⟩
    generalize (forIn (List.range' lo (hi + 1 - lo)) ((#[] : Array Nat), lo) (occBody x y hi limit)).run.fst = arr at h0
    have h1 : arr.toList[0]? = some a := by simpa using h0
    cases hL : arr.toList with
    | nil => rw [hL] at h1; cases h1
    | cons b t => rw [hL] at h1; simp at h1; rw [h1]; rfl
theorem at_one (x : Str) (c hi i : Nat) (hh : hi ≤ (tl x).length) : At x ⟨#[c]⟩ hi i ↔ i < hi ∧ (tl x)[i]? = some c := by
  unfold At
  show i + 1 ≤ hi ∧ subAt x ⟨#[c]⟩ i = true ↔ _
  rw [subAt_eq]
  show i + 1 ≤ hi ∧ (((tl x).drop i).take 1 == [c]) = true ↔ _
  constructor
  · rintro ⟨h1, h2⟩
    refine ⟨h1, ?_⟩
    have h2 := eq_of_beq h2
    have : ((tl x).drop i)[0]? = some c := by
      have e : (((tl x).drop i).take 1)[0]? = some c := by rw [h2]; rfl
      rw [List.getElem?_take_of_lt (by decide)] at e
      exact e
    rw [List.getElem?_drop] at this
    simpa using this
  · rintro ⟨h1, h2⟩
    refine ⟨h1, ?_⟩
    obtain ⟨hk, e⟩ := List.getElem?_eq_some_iff.mp h2
    rw [List.drop_eq_getElem_cons hk, e]
    simp
theorem bef_len {c : Nat} : ∀ {m : T} {k : Nat}, m[k]? = some c → (∀ j, j < k → m[j]? ≠ some c) → (bef c m).length = k
  | [], k, h, _ => by simp at h
  | d :: r, 0, h, _ => by
    cases h
    simp [bef]
  | d :: r, k + 1, h, hn => by
    have hd : d ≠ c := fun e => hn 0 (Nat.succ_pos _) (by rw [e]; rfl)
    have ih := bef_len (m := r) (k := k) (by simpa using h) fun j hj => by
      have := hn (j + 1) (by omega)
      simpa using this
    unfold bef at ih ⊢
    rw [List.takeWhile_cons, if_pos (by simpa using hd), List.length_cons, ih]
/-- the first c from lo on, ahead of hi -/
def ixf (c : Nat) (l : T) (lo hi : Nat) : Option Nat := if ((l.take hi).drop lo).contains c = true then some (lo + (bef c ((l.take hi).drop lo)).length) else none
def ixI (o : Option Nat) : Int := match o with
  | some k => (k : Nat)
  | none => -1
theorem occ_ix (x : Str) (c lo hi : Nat) (hh : hi ≤ (tl x).length) : (match occurrences x ⟨#[c]⟩ lo hi 1 with | k :: _ => ((k : Nat) : Int) | [] => -1) = ixI (ixf c (tl x) lo hi) := by
  have hm : ∀ j, (((tl x).take hi).drop lo)[j]? = if lo + j < hi then (tl x)[lo + j]? else none := fun j => by
    rw [List.getElem?_drop, List.getElem?_take]
  rcases occ_from x ⟨#[c]⟩ lo hi 1 (Nat.le_refl _) with ⟨e, hn⟩ | ⟨i, r, e, h0, ha, hn⟩
  · rw [e]
    have : (((tl x).take hi).drop lo).contains c = false := by
      cases h : (((tl x).take hi).drop lo).contains c with
      | false => rfl
      | true =>
        obtain ⟨j, hj⟩ := List.mem_iff_getElem?.mp (List.contains_iff_mem.mp h)
        rw [hm] at hj
        by_cases hlt : lo + j < hi
        · rw [if_pos hlt] at hj
          exact absurd ((at_one x c hi (lo + j) hh).mpr ⟨hlt, hj⟩) (hn _ (by omega))
        · rw [if_neg hlt] at hj; cases hj
    unfold ixf
    rw [this, if_neg (by decide)]
    rfl
  · rw [e]
    obtain ⟨h1, h2⟩ := (at_one x c hi i hh).mp ha
    have hi0 : (((tl x).take hi).drop lo)[i - lo]? = some c := by
      rw [hm, if_pos (by omega), show lo + (i - lo) = i by omega]
      exact h2
    have hb := bef_len hi0 fun j hj hc => by
      rw [hm] at hc
      by_cases hlt : lo + j < hi
      · rw [if_pos hlt] at hc
        exact hn (lo + j) (by omega) (by omega) ((at_one x c hi _ hh).mpr ⟨hlt, hc⟩)
      · rw [if_neg hlt] at hc; cases hc
    unfold ixf
    rw [if_pos (List.contains_iff_mem.mpr (List.mem_of_getElem? hi0)), hb]
    show ((i : Nat) : Int) = ((lo + (i - lo) : Nat) : Int)
    congr 1
    omega
theorem find_ix (x : Str) (c : Nat) : Txt.find x ⟨#[c]⟩ = ixI (ixf c (tl x) 0 (tl x).length) := by
  rw [← occ_ix x c 0 _ (Nat.le_refl _), ← len_tl]
  rfl
theorem find3_ix (x : Str) (c i : Nat) : Txt.find3 x ⟨#[c]⟩ (i : Int) = ixI (ixf c (tl x) i (tl x).length) := by
  rw [← occ_ix x c i _ (Nat.le_refl _), ← len_tl]
  have e : fromIndex x.length (i : Int) = i := by
    unfold fromIndex
    rw [if_neg (by omega)]
    omega
  unfold Txt.find3
  rw [e]
  cases occurrences x ⟨#[c]⟩ i x.length 1 <;> rfl
theorem findIn_ix (x : Str) (c i j : Nat) (hj : j ≤ (tl x).length) : Txt.findIn x ⟨#[c]⟩ (i : Int) (j : Int) = ixI (ixf c (tl x) i j) := by
  rw [← occ_ix x c i _ hj]
  have e : fromIndex x.length (i : Int) = i := by
    unfold fromIndex
    rw [if_neg (by omega)]
    omega
  have e2 : toIndexW x.length (j : Int) = j := by
    unfold toIndexW
    rw [if_neg (by omega)]
    rw [len_tl]
    omega
  unfold Txt.findIn
  rw [e, e2]
  cases occurrences x ⟨#[c]⟩ i j 1 <;> rfl
theorem ixf_lt {c : Nat} {l : T} {lo hi k : Nat} (h : ixf c l lo hi = some k) : lo ≤ k ∧ k < hi ∧ l[k]? = some c := by
  unfold ixf at h
  split at h
  · rename_i hc
    have hk := Option.some.inj h
    generalize hm : (l.take hi).drop lo = m at *
    have hb := bef_aft hc
    have hg : (bef c m ++ c :: aft c m)[(bef c m).length]? = some c := by simp
    rw [← hb] at hg
    subst hm
    rw [List.getElem?_drop, List.getElem?_take] at hg
    subst hk
    by_cases hlt : lo + (bef c ((l.take hi).drop lo)).length < hi
    · rw [if_pos hlt] at hg
      exact ⟨by omega, hlt, hg⟩
    · rw [if_neg hlt] at hg; cases hg
  · cases h
/-! ### the split of a text -/
def eoh (l : T) (h : Nat) : Nat := if (l.drop h).take 1 = [91] then (match ixf 93 l h l.length with
    | some b => if (l.drop (b + 1)).take 1 = [58] then b + 1 else l.length
    | none => l.length) else (match ixf 58 l h l.length with
    | some k => k
    | none => l.length)
theorem eoh_le {l : T} {h : Nat} (hh : h ≤ l.length) : h ≤ eoh l h ∧ eoh l h ≤ l.length := by
  unfold eoh
  split
  · cases e : ixf 93 l h l.length with
    | none => exact ⟨hh, Nat.le_refl _⟩
    | some b =>
      have := ixf_lt e
      dsimp only
      split
      · omega
      · exact ⟨hh, Nat.le_refl _⟩
  · cases e : ixf 58 l h l.length with
    | none => exact ⟨hh, Nat.le_refl _⟩
    | some b =>
      have := ixf_lt e
      dsimp only
      omega
abbrev Rows3 := List (Nat × Nat × T)
def hostAt (l : T) : Nat := match ixf 64 l 0 l.length with
  | some k => k + 1
  | none => 0
def splA (l : T) (st : Nat) : Rows3 := (if 0 < hostAt l then [(1, st, l.take (hostAt l - 1))] else []) ++ ([(2, st + hostAt l, (l.drop (hostAt l)).take (eoh l (hostAt l) - hostAt l))] ++ (if eoh l (hostAt l) < l.length then [(3, st + eoh l (hostAt l) + 1, l.drop (eoh l (hostAt l) + 1))] else []))
def schAt (l : T) : Nat := if (bef 47 l).contains 58 = true then (match ixf 58 l 0 l.length with
    | some k => k + 1
    | none => 0) else 0
def splB (l : T) : Rows3 := (if (bef 47 l).contains 58 = true then [(0, 0, l.take (schAt l - 1))] else []) ++ (if (l.drop (schAt l)).take 2 = [47, 47] then splA (bef 47 (l.drop (schAt l + 2))) (schAt l + 2) ++ [(4, schAt l + 2 + (bef 47 (l.drop (schAt l + 2))).length, l.drop (schAt l + 2 + (bef 47 (l.drop (schAt l + 2))).length))] else [(4, schAt l, l.drop (schAt l))])
def splT (l : T) : Rows3 := splB (bef 63 (bef 35 l)) ++ ((if (bef 35 l).contains 63 = true then [(5, (bef 63 (bef 35 l)).length + 1, aft 63 (bef 35 l))] else []) ++ (if l.contains 35 = true then [(6, (bef 35 l).length + 1, aft 35 l)] else []))
theorem bef_mem {c d : Nat} {l : T} (h : (bef c l).contains d = true) : l.contains d = true := by
  rw [List.contains_iff_mem] at h ⊢
  exact (List.takeWhile_sublist _).subset h
theorem ixf_all {c : Nat} {l : T} : ixf c l 0 l.length = if l.contains c = true then some (bef c l).length else none := by
  unfold ixf
  rw [List.take_length, List.drop_zero, Nat.zero_add]
theorem splA_len (l : T) (st : Nat) : (splA l st).length ≤ 3 := by
  unfold splA
  simp only [List.length_append]
  split <;> split <;> simp
end Mi
set_option Elab.async false
set_option linter.all false
set_option maxRecDepth 100000
/-! Mm: rows of a split: their order, their lengths. -/
namespace Mi
open PySem PySem.Builtin PySem.Builtin.Str PySem.StrLaws L2 TL
theorem bef_le (c : Nat) (l : T) : (bef c l).length ≤ l.length := (List.takeWhile_sublist _).length_le
theorem aft_le (c : Nat) (l : T) : (aft c l).length ≤ l.length := by
  unfold aft
  rw [List.length_drop]
  have := (List.dropWhile_sublist (l := l) (fun d => d != c)).length_le
  omega
theorem mem_if {α : Type} {p : Prop} [Decidable p] {x y : α} (h : y ∈ (if p then [x] else [])) : p ∧ y = x := by
  by_cases hp : p
  · rw [if_pos hp] at h
    exact ⟨hp, List.mem_singleton.mp h⟩
  · rw [if_neg hp] at h
    cases h
theorem splA_tl {l : T} {st : Nat} {r : Nat × Nat × T} (h : r ∈ splA l st) : r.2.2.length ≤ l.length := by
  unfold splA at h
  rcases List.mem_append.mp h with h | h
  · rw [(mem_if h).2]
    show (l.take _).length ≤ _
    rw [List.length_take]; omega
  · rcases List.mem_append.mp h with h | h
    · rw [List.mem_singleton.mp h]
      show ((l.drop _).take _).length ≤ _
      rw [List.length_take, List.length_drop]; omega
    · rw [(mem_if h).2]
      show (l.drop _).length ≤ _
      rw [List.length_drop]; omega
theorem splB_tl {l : T} {r : Nat × Nat × T} (h : r ∈ splB l) : r.2.2.length ≤ l.length := by
  unfold splB at h
  rcases List.mem_append.mp h with h | h
  · rw [(mem_if h).2]
    show (l.take _).length ≤ _
    rw [List.length_take]; omega
  · by_cases hp : (l.drop (schAt l)).take 2 = [47, 47]
    · rw [if_pos hp] at h
      rcases List.mem_append.mp h with h | h
      · have h1 := splA_tl h
        have h2 := bef_le 47 (l.drop (schAt l + 2))
        rw [List.length_drop] at h2
        omega
      · rw [List.mem_singleton.mp h]
        show (l.drop _).length ≤ _
        rw [List.length_drop]; omega
    · rw [if_neg hp] at h
      rw [List.mem_singleton.mp h]
      show (l.drop _).length ≤ _
      rw [List.length_drop]; omega
theorem splT_tl {l : T} {r : Nat × Nat × T} (h : r ∈ splT l) : r.2.2.length ≤ l.length := by
  have b1 := bef_le 35 l
  have b2 := bef_le 63 (bef 35 l)
  unfold splT at h
  rcases List.mem_append.mp h with h | h
  · have := splB_tl h
    omega
  · rcases List.mem_append.mp h with h | h
    · rw [(mem_if h).2]
      show (aft 63 (bef 35 l)).length ≤ _
      have := aft_le 63 (bef 35 l)
      omega
    · rw [(mem_if h).2]
      exact aft_le 35 l
theorem splT_idx (l : T) : ((splT l).map (·.1)).Sublist [0, 1, 2, 3, 4, 5, 6] := by
  unfold splT splB splA
  simp only [List.map_append]
  split <;> split <;> split <;> split <;> first
    | (simp only [List.map_cons, List.map_nil]; decide)
    | (simp only [List.map_append]; split <;> split <;> (simp only [List.map_cons, List.map_nil]; decide))
end Mi
set_option Elab.async false
set_option linter.all false
set_option maxRecDepth 100000
/-! Mn: what is written is split into the same parts. -/
namespace Mi
open PySem PySem.Builtin PySem.Builtin.Str PySem.StrLaws L2 TL
theorem con_app (c : Nat) (l r : T) : (l ++ r).contains c = (l.contains c || r.contains c) := by
  rw [Bool.eq_iff_iff]; simp [List.contains_iff_mem]
theorem con_one (c d : Nat) : ([d] : T).contains c = decide (c = d) := by
  rw [Bool.eq_iff_iff]; simp
theorem con_ne {c d : Nat} {l : T} (h : (d :: l).contains c = false) : d ≠ c ∧ l.contains c = false := by
  simp only [List.contains_cons, Bool.or_eq_false_iff, beq_eq_false_iff_ne] at h
  exact ⟨fun e => h.1 e.symm, h.2⟩
theorem bef_hit (c : Nat) (r : T) : bef c (c :: r) = [] := by simp [bef]
theorem bef_miss {c d : Nat} (h : d ≠ c) (r : T) : bef c (d :: r) = d :: bef c r := by
  unfold bef; rw [List.takeWhile_cons, if_pos (by simpa using h)]
theorem aft_hit (c : Nat) (r : T) : aft c (c :: r) = r := by simp [aft]
theorem aft_miss {c d : Nat} (h : d ≠ c) (r : T) : aft c (d :: r) = aft c r := by
  unfold aft; rw [List.dropWhile_cons, if_pos (by simpa using h)]
theorem bef_app {c : Nat} : ∀ {l : T} (r : T), l.contains c = false → bef c (l ++ r) = l ++ bef c r
  | [], _, _ => rfl
  | d :: l, r, h => by
    obtain ⟨h1, h2⟩ := con_ne h
    rw [List.cons_append, bef_miss h1, bef_app r h2]; rfl
theorem aft_app {c : Nat} : ∀ {l : T} (r : T), l.contains c = false → aft c (l ++ r) = aft c r
  | [], _, _ => rfl
  | d :: l, r, h => by
    obtain ⟨h1, h2⟩ := con_ne h
    rw [List.cons_append, aft_miss h1, aft_app r h2]
theorem foAll {l S : T} (h : l.length ≤ fo l S) : ∀ c ∈ l, S.contains c = true := by
  intro c hc
  obtain ⟨i, hi, e⟩ := List.mem_iff_getElem.mp hc
  obtain ⟨d, h1, h2⟩ := fo_before (l := l) (S := S) (i := i) (by omega)
  rw [List.getElem?_eq_getElem hi] at h1
  rw [← e, Option.some.inj h1]
  exact h2
/-! ### signs of right parts -/
theorem nin {c : Nat} {l S : T} (h : ∀ d ∈ l, d = 94 ∨ S.contains d = true) (hc : S.contains c = false) (h94 : c ≠ 94) : l.contains c = false := by
  cases e : l.contains c with
  | false => rfl
  | true =>
    rcases h c (List.contains_iff_mem.mp e) with e2 | e2
    · exact absurd e2 h94
    · rw [hc] at e2; cases e2
theorem scan_all (S : T) (hhex : ∀ c, HEXT.contains c = true → S.contains c = true) : ∀ (n : Nat) (l : T) (i : Nat), l.length ≤ n → Mi.scan S i l = none → ∀ c ∈ l, c = 94 ∨ S.contains c = true
  | _, [], _, _, _ => fun c h => nomatch h
  | 0, c :: r, _, h, _ => absurd h (by simp)
  | n + 1, c :: r, i, h, e => by
    have hr : r.length ≤ n := by simpa using h
    by_cases hc : c = 94
    · subst hc
      rw [scan_94] at e
      match r, hr, e with
      | [], _, e => cases e
      | [a], _, e => cases e
      | a :: b :: q, hr, e =>
        have e' : (if (HEXT.contains a && HEXT.contains b) = true then Mi.scan S (i + 3) q else some (kE, i)) = none := e
        cases hab : (HEXT.contains a && HEXT.contains b) with
        | false => rw [hab, if_neg Bool.false_ne_true] at e'; cases e'
        | true =>
          rw [hab, if_pos rfl] at e'
          rw [Bool.and_eq_true] at hab
          simp only [List.length_cons] at hr
          have ih := scan_all S hhex n q (i + 3) (by omega) e'
          intro d hd
          rcases List.mem_cons.mp hd with e1 | hd
          · exact .inl e1
          rcases List.mem_cons.mp hd with e1 | hd
          · rw [e1]; exact .inr (hhex a hab.1)
          rcases List.mem_cons.mp hd with e1 | hd
          · rw [e1]; exact .inr (hhex b hab.2)
          · exact ih d hd
    · have e1 : Mi.scan S i (c :: r) = if S.contains c = true then Mi.scan S (i + 1) r else some (kS, i) := by
        conv => lhs; unfold Mi.scan
        rw [if_neg hc]
      rw [e1] at e
      cases hs : S.contains c with
      | false => rw [hs, if_neg Bool.false_ne_true] at e; cases e
      | true =>
        rw [hs, if_pos rfl] at e
        have ih := scan_all S hhex n r (i + 1) hr e
        intro d hd
        rcases List.mem_cons.mp hd with e1 | hd
        · rw [e1]; exact .inr hs
        · exact ih d hd
theorem wAm_all {S l : T} (h94 : S.contains 94 = false) (hhex : ∀ c, HEXT.contains c = true → S.contains c = true) (h : wAm S 0 0 (cut 94 l) = none) : ∀ c ∈ l, c = 94 ∨ S.contains c = true := by
  rw [wAm_scan S h94 hhex l.length l (Nat.le_refl _) 0 0, if_neg (fun z => Nat.lt_irrefl 0 z.1)] at h
  exact scan_all S hhex l.length l 0 (Nat.le_refl _) h
theorem wSch_all {l : T} (h : wSch l = none) : ∀ c ∈ l, c = 94 ∨ SCHT.contains c = true := by
  unfold wSch at h
  split at h
  · cases h
  · split at h
    · cases h
    · rename_i h1
      exact fun c hc => .inr (foAll (by omega) c hc)
theorem wPort_all {l : T} (h : wPort l = none) : ∀ c ∈ l, c = 94 ∨ DIGT.contains c = true := by
  unfold wPort at h
  split at h
  · cases h
  · split at h
    · cases h
    · rename_i h1
      have h2 := fo_le (l.take 5) DIGT
      rw [List.length_take] at h2
      have h3 : l.take 5 = l := List.take_of_length_le (by omega)
      rw [h3] at h1
      exact fun c hc => .inr (foAll (by omega) c hc)
theorem fo_split {l S : T} {n : Nat} (h : n ≤ fo l S) : ∀ c ∈ l.take n, S.contains c = true := by
  intro c hc
  obtain ⟨i, hi, e⟩ := List.mem_iff_getElem.mp hc
  rw [List.length_take] at hi
  obtain ⟨d, h1, h2⟩ := fo_before (l := l) (S := S) (i := i) (by omega)
  rw [List.getElem_take] at e
  rw [List.getElem?_eq_getElem (by omega)] at h1
  rw [← e, Option.some.inj h1]
  exact h2
/-- a right host in brackets -/
theorem wBr_form {l : T} (h0 : l.take 1 = [91]) (h : wBr l = none) : ∃ b, l = 91 :: (b ++ [93]) ∧ ∀ c ∈ b, c = 94 ∨ BRKT.contains c = true := by
  unfold wBr at h
  split at h
  · cases h
  · rename_i h1
    split at h
    · cases h
    · rename_i h2
      have h3 : (l.drop (1 + fo (l.drop 1) BRKT)).take 1 = [93] := Classical.byContradiction fun z => h1 (.inr z)
      rcases l with _ | ⟨a, r⟩
      · cases h0
      · have ea : a = 91 := (List.cons.inj h0).1
        subst ea
        have e1 : List.drop 1 (91 :: r) = r := rfl
        rw [e1] at h2 h3
        rw [Nat.add_comm 1 (fo r BRKT), List.drop_succ_cons] at h3
        have hb := fo_split (l := r) (S := BRKT) (Nat.le_refl _)
        have hl : (r.drop (fo r BRKT)).length ≤ 1 := by
          rw [List.length_drop]; simp only [List.length_cons] at h2; omega
        rw [List.take_of_length_le hl] at h3
        refine ⟨r.take (fo r BRKT), ?_, fun c hc => .inr (hb c hc)⟩
        rw [← h3, List.take_append_drop]
/-! ### the authority -/
theorem ixf_end (c : Nat) (pre B : T) : ixf c (pre ++ B) pre.length (pre ++ B).length = if B.contains c = true then some (pre.length + (bef c B).length) else none := by
  unfold ixf
  rw [List.take_length, List.drop_left]
def HostOk (h : T) : Prop := (∃ b, h = 91 :: (b ++ [93]) ∧ b.contains 93 = false) ∨ (h.take 1 ≠ [91] ∧ h.contains 58 = false)
theorem eoh_txt {pre h pp : T} (hpp : pp = [] ∨ ∃ p, pp = 58 :: p) (hh : HostOk h) : eoh (pre ++ (h ++ pp)) pre.length = pre.length + h.length := by
  have hlen : (pre ++ (h ++ pp)).length = pre.length + (h.length + pp.length) := by rw [List.length_append, List.length_append]
  have hdr : (pre ++ (h ++ pp)).drop (pre.length + h.length) = pp := by
    rw [← List.append_assoc, ← List.length_append, List.drop_left]
  unfold eoh
  rw [List.drop_left, ixf_end, ixf_end]
  rcases hh with ⟨b, rfl, hb⟩ | ⟨h1, h2⟩
  · have e0 : List.take 1 (91 :: (b ++ [93]) ++ pp) = [91] := rfl
    rw [if_pos e0]
    have e1 : (91 :: (b ++ [93]) ++ pp) = (91 :: b) ++ (93 :: pp) := by simp
    have hc : (91 :: b : T).contains 93 = false := by
      rw [show (91 :: b : T) = [91] ++ b from rfl, con_app, hb]; rfl
    have e2 : bef 93 (91 :: (b ++ [93]) ++ pp) = 91 :: b := by
      rw [e1, bef_app _ hc, bef_hit, List.append_nil]
    have e3 : (91 :: (b ++ [93]) ++ pp).contains 93 = true := by
      rw [e1, con_app]; simp
    rw [if_pos e3, e2]
    dsimp only
    have e4 : pre.length + (91 :: b).length + 1 = pre.length + (91 :: (b ++ [93])).length := by
      simp only [List.length_cons, List.length_append, List.length_nil]; omega
    rw [e4, hdr]
    rcases hpp with rfl | ⟨p, rfl⟩
    · rw [if_neg (by simp), hlen]; rfl
    · have e5 : List.take 1 (58 :: p) = [58] := rfl
      rw [if_pos e5]
  · have e1 : ¬ (h ++ pp).take 1 = [91] := by
      rcases h with _ | ⟨a, r⟩
      · rcases hpp with rfl | ⟨p, rfl⟩
        · simp
        · simp
      · simpa using h1
    rw [if_neg e1]
    rcases hpp with rfl | ⟨p, rfl⟩
    · rw [List.append_nil, h2, if_neg Bool.false_ne_true]
      dsimp only
      rw [List.length_append]
    · have e3 : (h ++ 58 :: p).contains 58 = true := by rw [con_app]; simp
      rw [if_pos e3, bef_app _ h2, bef_hit, List.append_nil]
theorem splA_txt {uN pN : Bool} {u h p : T} (st : Nat) (hu : uN = false → u.contains 64 = false) (hh : h.contains 64 = false) (hp : pN = false → p.contains 64 = false) (ho : HostOk h) :
    ∃ k2 k3, splA ((if uN = true then [] else u ++ [64]) ++ (h ++ (if pN = true then [] else [58] ++ p))) st = (if uN = true then [] else [(1, st, u)]) ++ ([(2, k2, h)] ++ (if pN = true then [] else [(3, k3, p)])) := by
  have hB : (h ++ (if pN = true then [] else [58] ++ p)).contains 64 = false := by
    rw [con_app, hh, Bool.false_or]
    cases pN with
    | true => rfl
    | false => rw [if_neg Bool.false_ne_true, con_app, hp rfl]; rfl
  have hpp : (if pN = true then [] else [58] ++ p : T) = [] ∨ ∃ q, (if pN = true then [] else [58] ++ p : T) = 58 :: q := by
    cases pN with
    | true => exact .inl rfl
    | false => exact .inr ⟨p, rfl⟩
  have hA : hostAt ((if uN = true then [] else u ++ [64]) ++ (h ++ (if pN = true then [] else [58] ++ p))) = (if uN = true then [] else u ++ [64] : T).length := by
    unfold hostAt
    rw [ixf_all]
    cases uN with
    | true =>
      rw [if_pos rfl, List.nil_append, hB, if_neg Bool.false_ne_true]; rfl
    | false =>
      have e : (if false = true then [] else u ++ [64] : T) = u ++ [64] := rfl
      rw [e, List.append_assoc, con_app, if_pos (by simp), bef_app _ (hu rfl)]
      rw [List.singleton_append, bef_hit, List.append_nil]
      dsimp only
      rw [List.length_append]; rfl
  generalize hpre : (if uN = true then [] else u ++ [64] : T) = pre at *
  generalize hppe : (if pN = true then [] else [58] ++ p : T) = pp at *
  have he := eoh_txt (pre := pre) hpp ho
  unfold splA
  rw [hA, he]
  refine ⟨st + pre.length, st + (pre.length + h.length) + 1, ?_⟩
  have r1 : (if 0 < pre.length then [(1, st, (pre ++ (h ++ pp)).take (pre.length - 1))] else [] : Rows3) = (if uN = true then [] else [(1, st, u)]) := by
    cases uN with
    | true =>
      have : pre = [] := hpre.symm
      subst this; rfl
    | false =>
      have : pre = u ++ [64] := hpre.symm
      subst this
      rw [if_pos (by simp), if_neg Bool.false_ne_true]
      congr 3
      rw [List.length_append, List.append_assoc]
      show (u ++ _).take u.length = u
      rw [List.take_left]
  have r2 : ((pre ++ (h ++ pp)).drop pre.length).take (pre.length + h.length - pre.length) = h := by
    rw [List.drop_left, Nat.add_sub_cancel_left, List.take_left]
  have r3 : (if pre.length + h.length < (pre ++ (h ++ pp)).length then [(3, st + (pre.length + h.length) + 1, (pre ++ (h ++ pp)).drop (pre.length + h.length + 1))] else [] : Rows3) = (if pN = true then [] else [(3, st + (pre.length + h.length) + 1, p)]) := by
    have hlen : (pre ++ (h ++ pp)).length = pre.length + (h.length + pp.length) := by rw [List.length_append, List.length_append]
    rw [hlen]
    cases pN with
    | true =>
      have : pp = [] := hppe.symm
      subst this
      rw [if_neg (by simp), if_pos rfl]
    | false =>
      have : pp = [58] ++ p := hppe.symm
      subst this
      rw [if_pos (by simp only [List.length_append, List.length_cons, List.length_nil]; omega), if_neg Bool.false_ne_true]
      congr 3
      have e : pre ++ (h ++ ([58] ++ p)) = (pre ++ (h ++ [58])) ++ p := by simp
      rw [e, show pre.length + h.length + 1 = (pre ++ (h ++ [58])).length by simp [Nat.add_assoc], List.drop_left]
  rw [r1, r2, r3]
/-! ### the whole -/
def atxt (uN hN pN : Bool) (u h p : T) : T := (if hN = true then [] else [47, 47]) ++ ((if uN = true then [] else u ++ [64]) ++ ((if hN = true then [] else h) ++ (if pN = true then [] else [58] ++ p)))
structure PathOk (sN hN : Bool) (l : T) : Prop where
  a : hN = false → l = [] ∨ l.take 1 = [47]
  n : hN = true → l.take 2 ≠ [47, 47]
  s : hN = true → sN = true → (bef 47 l).contains 58 = false
structure AuthOk (uN hN pN : Bool) (u h p : T) : Prop where
  no : hN = true → uN = true ∧ pN = true
  u : uN = false → u.contains 64 = false ∧ u.contains 47 = false
  h : hN = false → h.contains 64 = false ∧ h.contains 47 = false ∧ HostOk h
  p : pN = false → p.contains 64 = false ∧ p.contains 47 = false
theorem splB_txt {sN uN hN pN : Bool} {s u h p l : T} (hs : sN = false → s.contains 58 = false ∧ s.contains 47 = false) (A : AuthOk uN hN pN u h p) (hl : PathOk sN hN l) :
    ∃ k1 k2 k3 k4, splB ((if sN = true then [] else s ++ [58]) ++ (atxt uN hN pN u h p ++ l)) = (if sN = true then [] else [(0, 0, s)]) ++ ((if uN = true then [] else [(1, k1, u)]) ++ ((if hN = true then [] else [(2, k2, h)]) ++ ((if pN = true then [] else [(3, k3, p)]) ++ [(4, k4, l)]))) := by
  generalize hZ : atxt uN hN pN u h p ++ l = Z
  have hc : sN = true → (bef 47 Z).contains 58 = false := by
    intro es
    cases hN with
    | true =>
      obtain ⟨rfl, rfl⟩ := A.no rfl
      rw [← hZ]
      exact hl.s rfl es
    | false =>
      rw [← hZ]
      show (bef 47 (47 :: _)).contains 58 = false
      rw [bef_hit]; rfl
  generalize hpre : (if sN = true then [] else s ++ [58] : T) = pre
  have hcc : (bef 47 (pre ++ Z)).contains 58 = !sN := by
    cases sN with
    | true =>
      have : pre = [] := hpre.symm
      subst this
      exact hc rfl
    | false =>
      have : pre = s ++ [58] := hpre.symm
      subst this
      have hs2 := hs rfl
      rw [List.append_assoc, bef_app _ hs2.2, con_app]
      rw [List.singleton_append, bef_miss (by decide)]
      simp
  have hsc : schAt (pre ++ Z) = pre.length := by
    unfold schAt
    rw [hcc]
    cases sN with
    | true =>
      have : pre = [] := hpre.symm
      subst this
      rfl
    | false =>
      have : pre = s ++ [58] := hpre.symm
      subst this
      have hs2 := hs rfl
      rw [if_pos (show (!false) = true from rfl), ixf_all, List.append_assoc, con_app, if_pos (by simp), bef_app _ hs2.1]
      rw [List.singleton_append, bef_hit, List.append_nil]
      dsimp only
      rw [List.length_append]; rfl
  have r0 : (if (bef 47 (pre ++ Z)).contains 58 = true then [(0, 0, (pre ++ Z).take (pre.length - 1))] else [] : Rows3) = (if sN = true then [] else [(0, 0, s)]) := by
    rw [hcc]
    cases sN with
    | true => rfl
    | false =>
      have : pre = s ++ [58] := hpre.symm
      subst this
      rw [if_pos (show (!false) = true from rfl), if_neg Bool.false_ne_true]
      congr 3
      rw [List.length_append, List.append_assoc]
      show (s ++ _).take s.length = s
      rw [List.take_left]
  unfold splB
  rw [hsc, r0, List.drop_left]
  cases hN with
  | true =>
    obtain ⟨rfl, rfl⟩ := A.no rfl
    have eZ : Z = l := hZ.symm
    subst eZ
    rw [if_neg (hl.n rfl)]
    exact ⟨0, 0, 0, pre.length, rfl⟩
  | false =>
    have A3 := A.h rfl
    generalize hAt : (if uN = true then [] else u ++ [64]) ++ (h ++ (if pN = true then [] else [58] ++ p)) = At
    have eZ : Z = [47, 47] ++ (At ++ l) := by
      rw [← hZ, ← hAt]
      unfold atxt
      simp
    have h47 : At.contains 47 = false := by
      rw [← hAt, con_app, con_app, A3.2.1]
      have h1 : (if uN = true then [] else u ++ [64] : T).contains 47 = false := by
        cases uN with
        | true => rfl
        | false => rw [if_neg Bool.false_ne_true, con_app, (A.u rfl).2]; rfl
      have h2 : (if pN = true then [] else [58] ++ p : T).contains 47 = false := by
        cases pN with
        | true => rfl
        | false => rw [if_neg Bool.false_ne_true, con_app, (A.p rfl).2]; rfl
      rw [h1, h2]; rfl
    have hd2 : (pre ++ Z).drop (pre.length + 2) = At ++ l := by
      rw [eZ, ← List.append_assoc, show pre.length + 2 = (pre ++ [47, 47]).length by simp, List.drop_left]
    have hbl : bef 47 (At ++ l) = At := by
      rw [bef_app _ h47]
      rcases hl.a rfl with rfl | e
      · exact List.append_nil _
      · rcases l with _ | ⟨c, r⟩
        · exact List.append_nil _
        · have : c = 47 := (List.cons.inj e).1
          subst this
          rw [bef_hit, List.append_nil]
    have hd3 : (pre ++ Z).drop (pre.length + 2 + At.length) = l := by
      rw [← List.drop_drop, hd2, List.drop_left]
    have hz2 : Z.take 2 = [47, 47] := by rw [eZ]; rfl
    rw [if_pos hz2, hd2, hbl, hd3]
    obtain ⟨k2, k3, e⟩ := splA_txt (uN := uN) (pN := pN) (u := u) (h := h) (p := p) (pre.length + 2) (fun e => (A.u e).1) A3.1 (fun e => (A.p e).1) A3.2.2
    rw [← hAt, e]
    refine ⟨pre.length + 2, k2, k3, pre.length + 2 + ((if uN = true then [] else u ++ [64]) ++ (h ++ (if pN = true then [] else [58] ++ p))).length, ?_⟩
    rw [if_neg Bool.false_ne_true]
    simp only [List.append_assoc]
def ytxt (sN uN hN pN : Bool) (s u h p l : T) : T := (if sN = true then [] else s ++ [58]) ++ (atxt uN hN pN u h p ++ l)
theorem splT_txt {sN uN hN pN qN fN : Bool} {s u h p l q f : T} (hs : sN = false → s.contains 58 = false ∧ s.contains 47 = false) (A : AuthOk uN hN pN u h p) (hl : PathOk sN hN l)
    (h63 : (ytxt sN uN hN pN s u h p l).contains 63 = false) (h35 : (ytxt sN uN hN pN s u h p l).contains 35 = false) (hq : qN = false → q.contains 35 = false) :
    ∃ k1 k2 k3 k4 k5 k6, splT (ytxt sN uN hN pN s u h p l ++ ((if qN = true then [] else [63] ++ q) ++ (if fN = true then [] else [35] ++ f))) =
      ((if sN = true then [] else [(0, 0, s)]) ++ ((if uN = true then [] else [(1, k1, u)]) ++ ((if hN = true then [] else [(2, k2, h)]) ++ ((if pN = true then [] else [(3, k3, p)]) ++ [(4, k4, l)])))) ++ ((if qN = true then [] else [(5, k5, q)]) ++ (if fN = true then [] else [(6, k6, f)])) := by
  obtain ⟨k1, k2, k3, k4, e⟩ := splB_txt hs A hl
  change splB (ytxt sN uN hN pN s u h p l) = _ at e
  generalize ytxt sN uN hN pN s u h p l = Y at *
  generalize hQ : (if qN = true then [] else [63] ++ q : T) = Qt
  have hQ35 : Qt.contains 35 = false := by
    rw [← hQ]
    cases qN with
    | true => rfl
    | false => rw [if_neg Bool.false_ne_true, con_app, hq rfl]; rfl
  have hX : (Y ++ Qt).contains 35 = false := by rw [con_app, h35, hQ35]; rfl
  have b35 : bef 35 (Y ++ (Qt ++ (if fN = true then [] else [35] ++ f))) = Y ++ Qt := by
    rw [← List.append_assoc, bef_app _ hX]
    cases fN with
    | true => rw [if_pos rfl]; exact List.append_nil _
    | false => rw [if_neg Bool.false_ne_true, List.singleton_append, bef_hit, List.append_nil]
  have b63 : bef 63 (Y ++ Qt) = Y := by
    rw [bef_app _ h63, ← hQ]
    cases qN with
    | true => rw [if_pos rfl]; exact List.append_nil _
    | false => rw [if_neg Bool.false_ne_true, List.singleton_append, bef_hit, List.append_nil]
  have c35 : (Y ++ (Qt ++ (if fN = true then [] else [35] ++ f))).contains 35 = !fN := by
    rw [← List.append_assoc, con_app, hX, Bool.false_or]
    cases fN with
    | true => rfl
    | false => rw [if_neg Bool.false_ne_true, con_app]; rfl
  have c63 : (Y ++ Qt).contains 63 = !qN := by
    rw [con_app, h63, Bool.false_or, ← hQ]
    cases qN with
    | true => rfl
    | false => rw [if_neg Bool.false_ne_true, con_app]; rfl
  unfold splT
  rw [b35, b63, e, c35, c63]
  refine ⟨k1, k2, k3, k4, Y.length + 1, (Y ++ Qt).length + 1, ?_⟩
  congr 1
  congr 1
  · cases qN with
    | true => rfl
    | false =>
      rw [if_pos (show (!false) = true from rfl), if_neg Bool.false_ne_true, aft_app _ h63, ← hQ, if_neg Bool.false_ne_true, List.singleton_append, aft_hit]
  · cases fN with
    | true => rfl
    | false =>
      rw [if_pos (show (!false) = true from rfl), if_neg Bool.false_ne_true, ← List.append_assoc, aft_app _ hX, if_neg Bool.false_ne_true, List.singleton_append, aft_hit]
end Mi
set_option Elab.async false
set_option linter.all false
set_option maxRecDepth 100000
/-! Mo: texts of right signs and escapes, put together. -/
namespace Mi
open PySem PySem.Builtin PySem.Builtin.Str PySem.StrLaws L2 TL
theorem scan_step {S : T} {i c : Nat} {r : T} (hc : c ≠ 94) : Mi.scan S i (c :: r) = if S.contains c = true then Mi.scan S (i + 1) r else some (kS, i) := by
  conv => lhs; unfold Mi.scan
  rw [if_neg hc]
/-- nothing wrong, wherever it stands -/
def Nw (S l : T) : Prop := ∀ i, Mi.scan S i l = none
theorem scan_shift (S : T) : ∀ (n : Nat) (l : T) (i : Nat), l.length ≤ n → Mi.scan S i l = none → ∀ j, Mi.scan S j l = none
  | _, [], _, _, _, _ => rfl
  | 0, c :: r, _, h, _, _ => absurd h (by simp)
  | n + 1, c :: r, i, h, e, j => by
    have hr : r.length ≤ n := by simpa using h
    by_cases hc : c = 94
    · subst hc
      rw [scan_94] at e ⊢
      match r, hr, e with
      | [], _, e => cases e
      | [a], _, e => cases e
      | a :: b :: q, hr, e =>
        have e' : (if (HEXT.contains a && HEXT.contains b) = true then Mi.scan S (i + 3) q else some (kE, i)) = none := e
        show (if (HEXT.contains a && HEXT.contains b) = true then Mi.scan S (j + 3) q else some (kE, j)) = none
        cases hab : (HEXT.contains a && HEXT.contains b) with
        | false => rw [hab, if_neg Bool.false_ne_true] at e'; cases e'
        | true =>
          rw [hab, if_pos rfl] at e'
          rw [if_pos rfl]
          simp only [List.length_cons] at hr
          exact scan_shift S n q (i + 3) (by omega) e' (j + 3)
    · rw [scan_step hc] at e ⊢
      cases hs : S.contains c with
      | false => rw [hs, if_neg Bool.false_ne_true] at e; cases e
      | true =>
        rw [hs, if_pos rfl] at e
        rw [if_pos rfl]
        exact scan_shift S n r (i + 1) hr e (j + 1)
theorem Nw.of {S l : T} {i : Nat} (h : Mi.scan S i l = none) : Nw S l := scan_shift S l.length l i (Nat.le_refl _) h
theorem scan_app (S : T) (b : T) (hb : Nw S b) : ∀ (n : Nat) (l : T) (i : Nat), l.length ≤ n → Mi.scan S i l = none → Mi.scan S i (l ++ b) = none
  | _, [], i, _, _ => hb i
  | 0, c :: r, _, h, _ => absurd h (by simp)
  | n + 1, c :: r, i, h, e => by
    have hr : r.length ≤ n := by simpa using h
    by_cases hc : c = 94
    · subst hc
      rw [scan_94] at e
      match r, hr, e with
      | [], _, e => cases e
      | [a], _, e => cases e
      | x :: y :: q, hr, e =>
        have e' : (if (HEXT.contains x && HEXT.contains y) = true then Mi.scan S (i + 3) q else some (kE, i)) = none := e
        show Mi.scan S i (94 :: x :: y :: (q ++ b)) = none
        rw [scan_94]
        show (if (HEXT.contains x && HEXT.contains y) = true then Mi.scan S (i + 3) (q ++ b) else some (kE, i)) = none
        cases hab : (HEXT.contains x && HEXT.contains y) with
        | false => rw [hab, if_neg Bool.false_ne_true] at e'; cases e'
        | true =>
          rw [hab, if_pos rfl] at e'
          rw [if_pos rfl]
          simp only [List.length_cons] at hr
          exact scan_app S b hb n q (i + 3) (by omega) e'
    · rw [List.cons_append, scan_step hc]
      rw [scan_step hc] at e
      cases hs : S.contains c with
      | false => rw [hs, if_neg Bool.false_ne_true] at e; cases e
      | true =>
        rw [hs, if_pos rfl] at e
        rw [if_pos rfl]
        exact scan_app S b hb n r (i + 1) hr e
theorem Nw.nil {S : T} : Nw S [] := fun _ => rfl
theorem Nw.app {S a b : T} (ha : Nw S a) (hb : Nw S b) : Nw S (a ++ b) := fun i => scan_app S b hb a.length a i (Nat.le_refl _) (ha i)
theorem Nw.one {S : T} {c : Nat} (hc : c ≠ 94) (h : S.contains c = true) : Nw S [c] := fun i => by
  rw [scan_step hc, if_pos h]; rfl
theorem Nw.esc {S : T} {a b : Nat} (ha : HEXT.contains a = true) (hb : HEXT.contains b = true) : Nw S [94, a, b] := fun i => by
  rw [scan_94]
  show (if (HEXT.contains a && HEXT.contains b) = true then Mi.scan S (i + 3) [] else some (kE, i)) = none
  rw [ha, hb]; rfl
theorem Nw.tail {S r : T} {c : Nat} (hc : c ≠ 94) (h : Nw S (c :: r)) : Nw S r := by
  have := h 0
  rw [scan_step hc] at this
  cases hs : S.contains c with
  | false => rw [hs, if_neg Bool.false_ne_true] at this; cases this
  | true => rw [hs, if_pos rfl] at this; exact Nw.of this
theorem Nw.lit {S l : T} (h : (Mi.scan S 0 l).isNone = true) : Nw S l := Nw.of (Option.isNone_iff_eq_none.mp h)
/-- of the signs of z, and escapes -/
def Va (z t : T) : Prop := ∀ S : T, (∀ c, z.contains c = true → S.contains c = true) → Nw S t
theorem Va.nil {z : T} : Va z [] := fun _ _ => .nil
theorem Va.app {z a b : T} (ha : Va z a) (hb : Va z b) : Va z (a ++ b) := fun S h => (ha S h).app (hb S h)
theorem Va.one {z : T} {c : Nat} (hc : c ≠ 94) (h : z.contains c = true) : Va z [c] := fun S hs => .one hc (hs c h)
theorem Va.esc {z : T} {a b : Nat} (ha : HEXT.contains a = true) (hb : HEXT.contains b = true) : Va z [94, a, b] := fun S _ => .esc ha hb
theorem Va.use {z t S : T} (h : Va z t) (hs : z.all S.contains = true) : Nw S t := h S fun c hc => List.all_eq_true.mp hs c (List.contains_iff_mem.mp hc)
theorem nwJ {S : T} (h47 : S.contains 47 = true) : ∀ ps : List T, (∀ p ∈ ps, Nw S p) → Nw S (joinL [47] ps)
  | [], _ => .nil
  | [p], h => by
    have := h p (List.mem_cons_self ..)
    simpa only [joinL] using this
  | p :: q :: r, h => by
    have h1 := h p (List.mem_cons_self ..)
    have h2 := nwJ h47 (q :: r) fun x hx => h x (List.mem_cons_of_mem _ hx)
    simp only [joinL]
    exact h1.app ((Nw.one (by decide) h47).app h2)
end Mi
set_option Elab.async false
set_option linter.all false
set_option maxRecDepth 100000
/-! Ms: the mathematics of segments, stacks and cleaned paths, over lists of codes. -/
namespace Ms
open PySem PySem.Builtin PySem.Builtin.Str PySem.StrLaws L2 TL Mi
theorem cut_join {c : Nat} {ps : List T} (hne : ps ≠ []) (h : ∀ p ∈ ps, c ∉ p) : cut c (joinL [c] ps) = ps := by
  have a := spl_cut c (joinL [c] ps) []
  rw [TL.spl_join hne h] at a
  cases e : cut c (joinL [c] ps) with
  | nil => exact absurd e (cut_ne _ _)
  | cons p r => rw [e] at a; simpa using a.symm
theorem cut_free (c : Nat) : ∀ (l : T), ∀ p ∈ cut c l, c ∉ p
  | [], p, hp => by
    rw [List.mem_singleton.mp hp]
    exact List.not_mem_nil
  | d :: r, p, hp => by
    by_cases h : d = c
    · subst h
      rw [cut_hit] at hp
      rcases List.mem_cons.mp hp with e | hp
      · rw [e]; exact List.not_mem_nil
      · exact cut_free d r p hp
    · rw [cut_miss h] at hp
      have ih := cut_free c r
      cases e : cut c r with
      | nil => exact absurd e (cut_ne c r)
      | cons q qs =>
        rw [e] at hp ih
        rcases List.mem_cons.mp hp with e | hp
        · rw [e]
          intro z
          rcases List.mem_cons.mp z with z | z
          · exact h z.symm
          · exact ih q (List.mem_cons_self ..) z
        · exact ih p (List.mem_cons_of_mem _ hp)
theorem cut_mem (c : Nat) : ∀ (l : T), ∀ p ∈ cut c l, ∀ d ∈ p, d ∈ l
  | [], p, hp => by
    rw [List.mem_singleton.mp hp]
    exact fun d h => nomatch h
  | d :: r, p, hp => by
    by_cases h : d = c
    · subst h
      rw [cut_hit] at hp
      rcases List.mem_cons.mp hp with e | hp
      · rw [e]; exact fun d h => nomatch h
      · exact fun x hx => List.mem_cons_of_mem _ (cut_mem d r p hp x hx)
    · rw [cut_miss h] at hp
      have ih := cut_mem c r
      cases e : cut c r with
      | nil => exact absurd e (cut_ne c r)
      | cons q qs =>
        rw [e] at hp ih
        rcases List.mem_cons.mp hp with e | hp
        · rw [e]
          intro x z
          rcases List.mem_cons.mp z with z | z
          · rw [z]; exact List.mem_cons_self ..
          · exact List.mem_cons_of_mem _ (ih q (List.mem_cons_self ..) x z)
        · exact fun x hx => List.mem_cons_of_mem _ (ih p (List.mem_cons_of_mem _ hp) x hx)
/-- signs, and one for each piece -/
def wt (ps : List T) : Nat := (ps.map fun p => p.length + 1).sum
theorem wt_nil : wt [] = 0 := rfl
theorem wt_cons (p : T) (ps : List T) : wt (p :: ps) = p.length + 1 + wt ps := by simp [wt]
theorem wt_app (ps qs : List T) : wt (ps ++ qs) = wt ps + wt qs := by simp [wt]
theorem wt_cut (c : Nat) : ∀ l : T, wt (cut c l) = l.length + 1
  | [] => rfl
  | d :: r => by
    have ih := wt_cut c r
    by_cases h : d = c
    · subst h
      rw [cut_hit, wt_cons, ih]
      simp only [List.length_nil, List.length_cons]
      omega
    · rw [cut_miss h]
      cases e : cut c r with
      | nil => exact absurd e (cut_ne c r)
      | cons q qs =>
        rw [e, wt_cons] at ih
        simp only [wt_cons, List.length_cons]
        omega
theorem wt_join (c : Nat) : ∀ ps : List T, (joinL [c] ps).length ≤ wt ps
  | [] => Nat.zero_le _
  | [p] => by rw [wt_cons]; simp only [joinL]; omega
  | p :: q :: r => by
    have ih := wt_join c (q :: r)
    rw [wt_cons]
    simp only [joinL, List.length_append, List.length_cons, List.length_nil]
    omega
theorem wt_join1 (c : Nat) : ∀ ps : List T, ps ≠ [] → (joinL [c] ps).length + 1 = wt ps
  | [], h => absurd rfl h
  | [p], _ => by rw [wt_cons]; simp only [joinL, wt_nil, Nat.add_zero]
  | p :: q :: r, _ => by
    have ih := wt_join1 c (q :: r) (List.cons_ne_nil _ _)
    rw [wt_cons]
    simp only [joinL, List.length_append, List.length_cons, List.length_nil]
    omega
theorem wt_len (ps : List T) : ps.length ≤ wt ps := by
  induction ps with
  | nil => exact Nat.le_refl _
  | cons p r ih => rw [wt_cons, List.length_cons]; omega
theorem wt_sum (ps : List T) : (ps.map (·.length)).sum + ps.length = wt ps := by
  induction ps with
  | nil => rfl
  | cons p r ih => rw [wt_cons, List.map_cons, List.sum_cons, List.length_cons]; omega
theorem wt_drop (ps : List T) : wt ps.dropLast ≤ wt ps := by
  induction ps with
  | nil => exact Nat.le_refl _
  | cons p r ih =>
    cases r with
    | nil => rw [List.dropLast_singleton, wt_nil]; exact Nat.zero_le _
    | cons q s => rw [List.dropLast_cons_of_ne_nil (List.cons_ne_nil _ _), wt_cons, wt_cons]; omega
def isDot (s : T) : Bool := s == [46] || s == [46, 46]
/-- one segment on a stack -/
def stp (k : List T) (s : T) : List T := if s = [46] then k else if s = [46, 46] then k.dropLast else k ++ [s]
def lastDot (ss : List T) : Bool := match ss.getLast? with
  | some s => isDot s
  | none => false
/-- the stack of segments -/
def stkL (ss : List T) : List T := ss.foldl stp [] ++ (if lastDot ss = true then [[]] else [])
def stk (l : T) : List T := stkL (cut 47 (l.drop 1))
/-- the cleaned path; b: whether there is an authority -/
def cln (b : Bool) (l : T) : T := if l.take 1 = [47] then (if b = false ∧ (47 :: joinL [47] (stk l)).take 2 = [47, 47] then 47 :: 46 :: 47 :: joinL [47] (stk l) else 47 :: joinL [47] (stk l)) else l
theorem isDot_iff {s : T} : isDot s = true ↔ s = [46] ∨ s = [46, 46] := by simp [isDot]
theorem isDot_not {s : T} : isDot s = false ↔ s ≠ [46] ∧ s ≠ [46, 46] := by simp [isDot]
theorem stp_plain {k : List T} {s : T} (h : isDot s = false) : stp k s = k ++ [s] := by
  have h := isDot_not.mp h
  unfold stp
  rw [if_neg h.1, if_neg h.2]
theorem fold_plain : ∀ (ss k : List T), (∀ s ∈ ss, isDot s = false) → ss.foldl stp k = k ++ ss
  | [], k, _ => (List.append_nil _).symm
  | s :: r, k, h => by
    rw [List.foldl_cons, stp_plain (h s (List.mem_cons_self ..)), fold_plain r _ fun x hx => h x (List.mem_cons_of_mem _ hx), List.append_assoc]
    rfl
theorem lastDot_plain {ss : List T} (h : ∀ s ∈ ss, isDot s = false) : lastDot ss = false := by
  unfold lastDot
  cases e : ss.getLast? with
  | none => rfl
  | some s => exact h s (List.mem_of_getLast? e)
theorem stkL_plain {ss : List T} (h : ∀ s ∈ ss, isDot s = false) : stkL ss = ss := by
  unfold stkL
  rw [fold_plain ss [] h, lastDot_plain h, if_neg Bool.false_ne_true, List.append_nil, List.nil_append]
theorem stp_mem {k : List T} {s p : T} (h : p ∈ stp k s) : p ∈ k ∨ (p = s ∧ isDot s = false) := by
  unfold stp at h
  split at h
  · exact .inl h
  · split at h
    · exact .inl (List.dropLast_subset _ h)
    · rename_i h1 h2
      rcases List.mem_append.mp h with h | h
      · exact .inl h
      · exact .inr ⟨List.mem_singleton.mp h, isDot_not.mpr ⟨h1, h2⟩⟩
theorem fold_mem : ∀ {ss k : List T} {p : T}, p ∈ ss.foldl stp k → p ∈ k ∨ (p ∈ ss ∧ isDot p = false)
  | [], k, p, h => .inl h
  | s :: r, k, p, h => by
    rw [List.foldl_cons] at h
    rcases fold_mem h with h | h
    · rcases stp_mem h with h | ⟨rfl, h⟩
      · exact .inl h
      · exact .inr ⟨List.mem_cons_self .., h⟩
    · exact .inr ⟨List.mem_cons_of_mem _ h.1, h.2⟩
theorem stkL_mem {ss : List T} {p : T} (h : p ∈ stkL ss) : (p ∈ ss ∧ isDot p = false) ∨ p = [] := by
  unfold stkL at h
  rcases List.mem_append.mp h with h | h
  · rcases fold_mem h with h | h
    · exact nomatch h
    · exact .inl h
  · split at h
    · exact .inr (List.mem_singleton.mp h)
    · exact nomatch h
theorem stkL_dot {ss : List T} {p : T} (h : p ∈ stkL ss) : isDot p = false := by
  rcases stkL_mem h with h | h
  · exact h.2
  · rw [h]; rfl
theorem stkL_ne {ss : List T} (h : ss ≠ []) : stkL ss ≠ [] := by
  unfold stkL
  intro e
  obtain ⟨e1, e2⟩ := List.append_eq_nil_iff.mp e
  have hl : lastDot ss = false := by
    cases z : lastDot ss with
    | false => rfl
    | true => rw [z, if_pos rfl] at e2; cases e2
  obtain ⟨r, s, rfl⟩ : ∃ r s, ss = r ++ [s] := ⟨ss.dropLast, ss.getLast h, (List.dropLast_concat_getLast h).symm⟩
  have hd : isDot s = false := by
    unfold lastDot at hl
    rw [List.getLast?_append] at hl
    exact hl
  rw [List.foldl_append, List.foldl_cons, List.foldl_nil, stp_plain hd] at e1
  exact absurd e1 (by simp)
theorem stp_wt (k : List T) (s : T) : wt (stp k s) ≤ wt k + (s.length + 1) := by
  unfold stp
  split
  · omega
  · split
    · have := wt_drop k
      omega
    · rw [wt_app, wt_cons, wt_nil]; omega
theorem fold_wt : ∀ (ss k : List T), wt (ss.foldl stp k) ≤ wt k + wt ss
  | [], k => Nat.le_refl _
  | s :: r, k => by
    have := fold_wt r (stp k s)
    have := stp_wt k s
    rw [List.foldl_cons, wt_cons]
    omega
theorem stkL_wt (ss : List T) : wt (stkL ss) ≤ wt ss + 1 := by
  unfold stkL
  have := fold_wt ss []
  rw [wt_nil] at this
  rw [wt_app]
  split
  · rw [wt_cons, wt_nil]; simp only [List.length_nil]; omega
  · rw [wt_nil]; omega
theorem stk_wt (l : T) : wt (stk l) ≤ l.length + 2 := by
  have := stkL_wt (cut 47 (l.drop 1))
  rw [wt_cut, List.length_drop] at this
  show wt (stkL (cut 47 (l.drop 1))) ≤ _
  omega
theorem stk_ne (l : T) : stk l ≠ [] := stkL_ne (cut_ne _ _)
theorem stk_free {l p : T} (h : p ∈ stk l) : 47 ∉ p := by
  rcases stkL_mem h with h | h
  · exact cut_free 47 _ p h.1
  · rw [h]; exact List.not_mem_nil
theorem stk_sub {l p : T} (h : p ∈ stk l) : ∀ c ∈ p, c ∈ l := by
  rcases stkL_mem h with h | h
  · exact fun c hc => List.mem_of_mem_drop (cut_mem 47 _ p h.1 c hc)
  · rw [h]; exact fun c hc => nomatch hc
theorem stk_join (l : T) : stk (47 :: joinL [47] (stk l)) = stk l := by
  show stkL (cut 47 (joinL [47] (stk l))) = stk l
  rw [cut_join (stk_ne l) fun p hp => stk_free hp]
  exact stkL_plain fun p hp => stkL_dot hp
theorem stk_dot (l : T) : stk (47 :: 46 :: 47 :: joinL [47] (stk l)) = stk l := by
  show stkL (cut 47 (46 :: 47 :: joinL [47] (stk l))) = stk l
  rw [cut_miss (by decide), cut_hit, cut_join (stk_ne l) fun p hp => stk_free hp]
  show stkL ([46] :: stk l) = stk l
  unfold stkL
  have h1 : stp [] [46] = [] := rfl
  have hne := stk_ne l
  have h2 : lastDot ([46] :: stk l) = lastDot (stk l) := by
    unfold lastDot
    rw [List.getLast?_cons_of_ne_nil hne]
  have h3 : ∀ s ∈ stk l, isDot s = false := fun p hp => stkL_dot hp
  rw [List.foldl_cons, h1, h2, lastDot_plain h3, fold_plain _ _ h3, if_neg Bool.false_ne_true, List.append_nil, List.nil_append]
theorem cln_other {b : Bool} {l : T} (h : l.take 1 ≠ [47]) : cln b l = l := by
  unfold cln
  rw [if_neg h]
theorem cln_slash (b : Bool) (r : T) : cln b (47 :: r) = if b = false ∧ (47 :: joinL [47] (stk (47 :: r))).take 2 = [47, 47] then 47 :: 46 :: 47 :: joinL [47] (stk (47 :: r)) else 47 :: joinL [47] (stk (47 :: r)) := by
  unfold cln
  rw [if_pos (show List.take 1 (47 :: r) = [47] from rfl)]
theorem cln_cln (b : Bool) (l : T) : cln b (cln b l) = cln b l := by
  by_cases h : l.take 1 = [47]
  · by_cases h2 : b = false ∧ (47 :: joinL [47] (stk l)).take 2 = [47, 47]
    · have e : cln b l = 47 :: 46 :: 47 :: joinL [47] (stk l) := by
        unfold cln
        rw [if_pos h, if_pos h2]
      rw [e, cln_slash, stk_dot, if_pos h2]
    · have e : cln b l = 47 :: joinL [47] (stk l) := by
        unfold cln
        rw [if_pos h, if_neg h2]
      rw [e, cln_slash, stk_join, if_neg h2]
  · rw [cln_other h, cln_other h]
end Ms
set_option Elab.async false
set_option linter.all false
set_option maxRecDepth 100000
set_option maxHeartbeats 4000000
/-! Md: texts and lists of texts as values: slices, splits, beginnings. -/
namespace Md
open PySem PySem.Spec PyProof.Rows L2 Xs Mi Ms
open TL (tl)
theorem sl_to (z : Str) (n : Nat) : tl (cutS z none (some (n : Int))) = (tl z).take n := by
  show ((tl z).drop (HT.sIx z.length 0 none)).take _ = _
  rw [HT.sIx_nat, HT.sIx_none, List.drop_zero, Nat.sub_zero]
  rw [TL.len_tl]
  by_cases h : n ≤ (tl z).length
  · rw [Nat.min_eq_left h]
  · rw [Nat.min_eq_right (by omega), List.take_of_length_le (Nat.le_refl _), List.take_of_length_le (by omega)]
theorem sl_from (z : Str) (n : Nat) : tl (cutS z (some (n : Int)) none) = (tl z).drop n := by
  show ((tl z).drop (HT.sIx z.length 0 (some (n : Int)))).take _ = _
  rw [HT.sIx_nat, HT.sIx_none, TL.len_tl]
  rw [List.take_of_length_le (by rw [List.length_drop]; exact Nat.le_refl _)]
  by_cases h : n ≤ (tl z).length
  · rw [Nat.min_eq_left h]
  · rw [Nat.min_eq_right (by omega), List.drop_length, List.drop_of_length_le (by omega)]
theorem sl_mid (z : Str) (m n : Nat) : tl (cutS z (some (m : Int)) (some (n : Int))) = ((tl z).drop m).take (n - m) := by
  show ((tl z).drop (HT.sIx z.length 0 (some (m : Int)))).take _ = _
  rw [HT.sIx_nat, HT.sIx_nat, TL.len_tl]
  by_cases h : m ≤ (tl z).length
  · rw [Nat.min_eq_left h]
    by_cases h2 : n ≤ (tl z).length
    · rw [Nat.min_eq_left h2]
    · rw [Nat.min_eq_right (by omega)]
      rw [List.take_of_length_le (by rw [List.length_drop]; exact Nat.le_refl _), List.take_of_length_le (by rw [List.length_drop]; omega)]
  · have e : ∀ k : Nat, (List.drop (min m (tl z).length) (tl z)).take k = [] := fun k => by
      rw [show min m (tl z).length = (tl z).length by omega, List.drop_length, List.take_nil]
    rw [e, List.drop_of_length_le (by omega), List.take_nil]
theorem sl_len (z : Str) (lo hi : Option Int) : (cutS z lo hi).length ≤ z.length := by
  show ((z.cps.toList.drop _).take _).toArray.size ≤ z.cps.size
  simp only [List.size_toArray, List.length_take, List.length_drop, Array.length_toList]
  omega
theorem cutV_tail {x : V} {xs : List V} : cutV (x :: xs) (some 1) none = xs := by
  show ((x :: xs).drop (HT.sIx (x :: xs).length 0 (some 1))).take _ = xs
  have e : HT.sIx (x :: xs).length 0 (some 1) = 1 := by
    rw [show (some (1 : Int)) = some ((1 : Nat) : Int) from rfl, HT.sIx_nat]
    simp only [List.length_cons]
    omega
  rw [e, HT.sIx_none]
  simp
theorem str_dot {z : Str} : z = Str.ofString "." ↔ tl z = [46] := ⟨fun h => by rw [h]; rfl, fun h => TL.ext_tl h⟩
theorem str_dots {z : Str} : z = Str.ofString ".." ↔ tl z = [46, 46] := ⟨fun h => by rw [h]; rfl, fun h => TL.ext_tl h⟩
theorem inV_dot (z : Str) : inV (V.str z) [V.str (Str.ofString "."), V.str (Str.ofString "..")] = isDot (tl z) := by
  have e : inV (V.str z) [V.str (Str.ofString "."), V.str (Str.ofString "..")] = (decide (z = Str.ofString ".") || decide (z = Str.ofString "..")) := by
    unfold inV
    simp only [List.any_cons, List.any_nil, Bool.or_false]
    congr 1 <;> (simp only [eqV]; exact decide_eq_decide.mpr ⟨fun h => h.symm, fun h => h.symm⟩)
  rw [e, Bool.eq_iff_iff, isDot_iff]
  simp only [Bool.or_eq_true, decide_eq_true_eq, str_dot, str_dots]
theorem split_slash {t : Str} (h : (tl t).take 1 = [47]) : ∃ z zs, Txt.split t (Str.ofString "/") = z :: zs ∧ zs.map tl = cut 47 ((tl t).drop 1) := by
  have e := split_cut t 47 (by decide)
  obtain ⟨r, hr⟩ : ∃ r, tl t = 47 :: r := by
    cases z : tl t with
    | nil => rw [z] at h; cases h
    | cons c r => rw [z] at h; exact ⟨r, by rw [show c = 47 from by simpa using h]⟩
  rw [hr, cut_hit] at e
  change (Txt.split t (Str.ofString "/")).map tl = _ at e
  cases z : Txt.split t (Str.ofString "/") with
  | nil => rw [z] at e; cases e
  | cons y ys =>
    rw [z] at e
    refine ⟨y, ys, rfl, ?_⟩
    rw [hr]
    exact (List.cons.inj e).2
theorem take_snoc {α : Type} {zs : List α} {i : Nat} {z : α} (h : zs[i]? = some z) : zs.take (i + 1) = zs.take i ++ [z] := by
  rw [List.take_succ, h]; rfl
theorem map_str {zs : List Str} {i : Nat} {x : V} (h : (zs.map V.str)[i]? = some x) : ∃ z, zs[i]? = some z ∧ x = V.str z := by
  rw [List.getElem?_map] at h
  cases e : zs[i]? with
  | none => rw [e] at h; cases h
  | some z => rw [e] at h; exact ⟨z, rfl, (Option.some.inj h).symm⟩
theorem last_str {zs : List Str} (h : zs ≠ []) : ∃ z, atI (zs.map V.str) (-1) = some (V.str z) ∧ zs.getLast? = some z := by
  obtain ⟨r, s, rfl⟩ : ∃ r s, zs = r ++ [s] := ⟨zs.dropLast, zs.getLast h, (List.dropLast_concat_getLast h).symm⟩
  refine ⟨s, ?_, by simp⟩
  unfold atI ixN
  rw [if_neg (by decide), if_pos (by simp only [List.map_append, List.length_append, List.length_map, List.map_cons, List.length_cons]; omega)]
  show ((r ++ [s]).map V.str)[_]? = _
  have e : (-1 + (((r ++ [s]).map V.str).length : Int)).toNat = r.length := by
    simp only [List.length_map, List.length_append, List.length_cons, List.length_nil]; omega
  rw [e]
  simp
theorem slash_of {t : Str} : cutS t none (some 1) = Str.ofString "/" ↔ (tl t).take 1 = [47] := by
  have h := sl_to t 1
  exact ⟨fun e => by rw [← h]; show tl (cutS t none (some 1)) = _; rw [e]; rfl, fun e => TL.ext_tl (h.trans e)⟩
theorem slashes_of {t : Str} : cutS t none (some 2) = Str.ofString "//" ↔ (tl t).take 2 = [47, 47] := by
  have h := sl_to t 2
  exact ⟨fun e => by rw [← h]; show tl (cutS t none (some 2)) = _; rw [e]; rfl, fun e => TL.ext_tl (h.trans e)⟩
theorem starts1 (t : Str) : Txt.startswith t (Str.ofString "/") = decide ((tl t).take 1 = [47]) := by
  rw [sw_pre t _ (by decide)]
  show TL.pre [47] (tl t) = _
  rw [Bool.eq_iff_iff, decide_eq_true_eq]
  cases tl t with
  | nil => simp [TL.pre]
  | cons c r => simp [TL.pre]
theorem starts2 (t : Str) : Txt.startswith t (Str.ofString "//") = decide ((tl t).take 2 = [47, 47]) := by
  rw [sw_pre t _ (by decide)]
  show TL.pre [47, 47] (tl t) = _
  rw [Bool.eq_iff_iff, decide_eq_true_eq]
  cases tl t with
  | nil => simp [TL.pre]
  | cons c r => cases r with
    | nil => simp [TL.pre]
    | cons d r => simp [TL.pre]
theorem cutV_init (xs : List V) : cutV xs none (some (if (xs.length : Int) - 1 > 0 then (xs.length : Int) - 1 else 0)) = xs.dropLast := by
  have e : (if (xs.length : Int) - 1 > 0 then (xs.length : Int) - 1 else 0) = ((xs.length - 1 : Nat) : Int) := by
    split <;> omega
  rw [e]
  show (xs.drop (HT.sIx xs.length 0 none)).take _ = _
  rw [HT.sIx_nat, HT.sIx_none, List.drop_zero, Nat.sub_zero, List.dropLast_eq_take]
  rw [Nat.min_eq_left (by omega)]
end Md
set_option Elab.async false
set_option linter.all false
set_option maxRecDepth 100000
set_option maxHeartbeats 4000000
/-! Mq: folders of paths, right signs of cleaned paths. -/
namespace Mq
open PySem PySem.Spec PyProof.Rows L2 Xs Mi Ms Md
open TL (tl joinL)
theorem cut_app (c : Nat) : ∀ a b : T, cut c (a ++ c :: b) = cut c a ++ cut c b
  | [], b => by rw [List.nil_append, cut_hit]; rfl
  | d :: r, b => by
    have ih := cut_app c r b
    rw [List.cons_append]
    by_cases h : d = c
    · subst h
      rw [cut_hit, cut_hit, ih]; rfl
    · rw [cut_miss h, cut_miss h, ih]
      cases e : cut c r with
      | nil => exact absurd e (cut_ne c r)
      | cons p ps => rfl
theorem cut_none {c : Nat} : ∀ {l : T}, c ∉ l → cut c l = [l]
  | [], _ => rfl
  | d :: r, h => by
    have h1 : d ≠ c := fun e => h (by rw [e]; exact List.mem_cons_self ..)
    have ih := cut_none (c := c) (l := r) fun e => h (List.mem_cons_of_mem _ e)
    rw [cut_miss h1, ih]
theorem last_split {c : Nat} : ∀ {l : T}, c ∈ l → ∃ a b, l = a ++ c :: b ∧ c ∉ b
  | [], h => nomatch h
  | d :: r, h => by
    by_cases hr : c ∈ r
    · obtain ⟨a, b, e, hb⟩ := last_split hr
      exact ⟨d :: a, b, by rw [e]; rfl, hb⟩
    · have : d = c := by
        rcases List.mem_cons.mp h with e | e
        · exact e.symm
        · exact absurd e hr
      exact ⟨[], r, by rw [this]; rfl, hr⟩
/-- what stands behind the last slash -/
def lastP (l : T) : T := (cut 47 l).getLast?.getD []
theorem lastP_none {l : T} (h : 47 ∉ l) : lastP l = l := by
  unfold lastP
  rw [cut_none h]; rfl
theorem lastP_app {a b : T} (h : 47 ∉ b) : lastP (a ++ 47 :: b) = b := by
  unfold lastP
  rw [cut_app, cut_none h, List.getLast?_append]
  rfl
/-- the folder of a path -/
def fld (l : T) : T := if l.take (l.length - (lastP l).length) = [] then [47] else l.take (l.length - (lastP l).length)
theorem take_pre (a b : T) : (a ++ 47 :: b).take ((a ++ 47 :: b).length - b.length) = a ++ [47] := by
  have e : (a ++ 47 :: b).length - b.length = (a ++ [47]).length := by
    simp only [List.length_append, List.length_cons, List.length_nil]; omega
  rw [e, show a ++ 47 :: b = (a ++ [47]) ++ b by simp, List.take_left]
theorem fld_none {l : T} (h : 47 ∉ l) : fld l = [47] := by
  unfold fld
  rw [lastP_none h, Nat.sub_self, List.take_zero, if_pos rfl]
theorem fld_app {a b : T} (h : 47 ∉ b) : fld (a ++ 47 :: b) = a ++ [47] := by
  unfold fld
  rw [lastP_app h, take_pre, if_neg (by simp)]
theorem fld_len (l : T) : (fld l).length ≤ l.length + 1 := by
  unfold fld
  split
  · simp
  · rw [List.length_take]; omega
/-- what rfind tells -/
theorem rfind_slash (t : Str) : (Txt.rfind t (Str.ofString "/") = -1 ∧ 47 ∉ tl t) ∨ ∃ a b, tl t = a ++ 47 :: b ∧ 47 ∉ b ∧ Txt.rfind t (Str.ofString "/") = (a.length : Nat) := by
  have hl := TL.len_tl t
  rcases rfind_whole t (Str.ofString "/") with ⟨e, hn⟩ | ⟨i, e, hi, hn⟩
  · refine .inl ⟨e, fun h => ?_⟩
    obtain ⟨k, hk, e2⟩ := List.mem_iff_getElem.mp h
    exact hn k ((at_one t 47 t.length k (by omega)).mpr ⟨by omega, by rw [List.getElem?_eq_getElem hk, e2]⟩)
  · refine .inr ?_
    have hi2 := (at_one t 47 t.length i (by omega)).mp hi
    obtain ⟨hlt, e2⟩ := List.getElem?_eq_some_iff.mp hi2.2
    obtain ⟨a, b, e3, hb⟩ := last_split (c := 47) (l := tl t) (by rw [← e2]; exact List.getElem_mem hlt)
    refine ⟨a, b, e3, hb, ?_⟩
    rw [e]
    have h1 : ¬ i < a.length := fun z => by
      refine hn a.length z ((at_one t 47 t.length a.length (by omega)).mpr ⟨?_, ?_⟩)
      · rw [hl, e3]; simp only [List.length_append, List.length_cons]; omega
      · rw [e3]; simp
    have h2 : ¬ a.length < i := fun z => by
      refine hb ?_
      have := hi2.2
      rw [e3, List.getElem?_append_right (by omega)] at this
      obtain ⟨k, hk⟩ : ∃ k, i - a.length = k + 1 := ⟨i - a.length - 1, by omega⟩
      rw [hk, List.getElem?_cons_succ] at this
      exact List.mem_of_getElem? this
    omega
/-! ### right signs -/
theorem hex47 : HEXT.contains 47 = false := by decide +kernel
theorem scan_cut {S b : T} : ∀ (n : Nat) (a : T) (i : Nat), a.length ≤ n → Mi.scan S i (a ++ 47 :: b) = none → Mi.scan S i a = none ∧ ∃ j, Mi.scan S j b = none
  | n, [], i, _, h => by
    rw [List.nil_append, scan_step (by decide)] at h
    refine ⟨rfl, ?_⟩
    cases hc : S.contains 47 with
    | true => rw [hc, if_pos rfl] at h; exact ⟨_, h⟩
    | false => rw [hc, if_neg Bool.false_ne_true] at h; cases h
  | 0, c :: r, i, hl, h => absurd hl (by simp)
  | n + 1, c :: r, i, hl, h => by
    simp only [List.length_cons] at hl
    by_cases h94 : c = 94
    · subst h94
      rw [List.cons_append, scan_94] at h
      match r, hl, h with
      | [], hl, h =>
        cases b with
        | nil => cases h
        | cons y q =>
          dsimp only [List.nil_append] at h
          rw [hex47, Bool.false_and] at h
          cases h
      | [x], hl, h =>
        dsimp only [List.nil_append, List.cons_append] at h
        rw [hex47, Bool.and_false] at h
        cases h
      | x :: y :: q, hl, h =>
        dsimp only [List.cons_append] at h
        simp only [List.length_cons] at hl
        cases hx : (HEXT.contains x && HEXT.contains y) with
        | false => rw [hx] at h; cases h
        | true =>
          rw [hx, if_pos rfl] at h
          have ih := scan_cut n q (i + 3) (by omega) h
          refine ⟨?_, ih.2⟩
          rw [scan_94]
          dsimp only
          rw [hx, if_pos rfl]
          exact ih.1
    · rw [List.cons_append, scan_step h94] at h
      rw [scan_step h94]
      cases hc : S.contains c with
      | false => rw [hc, if_neg Bool.false_ne_true] at h; cases h
      | true =>
        rw [hc, if_pos rfl] at h
        rw [if_pos rfl]
        exact scan_cut n r (i + 1) (by omega) h
theorem nw_split {S a b : T} (h : Nw S (a ++ 47 :: b)) : Nw S a ∧ Nw S b := by
  obtain ⟨h1, j, h2⟩ := scan_cut a.length a 0 (Nat.le_refl _) (h 0)
  exact ⟨.of h1, .of h2⟩
theorem nw_cut {S : T} : ∀ (n : Nat) (l : T), l.length ≤ n → Nw S l → ∀ p ∈ cut 47 l, Nw S p
  | n, l, hl, h, p, hp => by
    by_cases hm : 47 ∈ l
    · obtain ⟨a, b, e, hb⟩ := last_split hm
      subst e
      have := nw_split h
      rw [cut_app, cut_none hb] at hp
      simp only [List.length_append, List.length_cons] at hl
      match n, hl with
      | n + 1, hl =>
        rcases List.mem_append.mp hp with hp | hp
        · exact nw_cut n a (by omega) this.1 p hp
        · rw [List.mem_singleton.mp hp]; exact this.2
    · rw [cut_none hm] at hp
      rw [List.mem_singleton.mp hp]; exact h
theorem nw_stk {S l : T} (h : Nw S l) (h1 : l.take 1 = [47]) : ∀ p ∈ stk l, Nw S p := by
  intro p hp
  obtain ⟨r, er⟩ : ∃ r, l = 47 :: r := by
    cases l with
    | nil => cases h1
    | cons c r => exact ⟨r, by rw [show c = 47 from by simpa using h1]⟩
  subst er
  have hr : Nw S r := (nw_split (a := []) h).2
  rcases stkL_mem hp with hp | hp
  · exact nw_cut r.length r (Nat.le_refl _) hr p hp.1
  · rw [hp]; exact Nw.nil
theorem nw_cln {S l : T} (h47 : S.contains 47 = true) (h46 : S.contains 46 = true) (b : Bool) (h : Nw S l) : Nw S (cln b l) := by
  by_cases h1 : l.take 1 = [47]
  · have hj := nwJ h47 (stk l) (nw_stk h h1)
    have hf : Nw S (47 :: joinL [47] (stk l)) := (Nw.one (by decide) h47).app hj
    obtain ⟨r, er⟩ : ∃ r, l = 47 :: r := by
      cases l with
      | nil => cases h1
      | cons c r => exact ⟨r, by rw [show c = 47 from by simpa using h1]⟩
    subst er
    rw [cln_slash]
    split
    · exact ((Nw.one (by decide) h47).app (Nw.one (by decide) h46)).app hf
    · exact hf
  · rw [cln_other h1]; exact h
theorem nw_fld {S l : T} (h47 : S.contains 47 = true) (h : Nw S l) : Nw S (fld l) := by
  by_cases hm : 47 ∈ l
  · obtain ⟨a, b, e, hb⟩ := last_split hm
    subst e
    rw [fld_app hb]
    exact (nw_split h).1.app (Nw.one (by decide) h47)
  · rw [fld_none hm]; exact Nw.one (by decide) h47
theorem fld_head {l : T} (h : l = [] ∨ l.take 1 = [47]) : (fld l).take 1 = [47] := by
  by_cases hm : 47 ∈ l
  · obtain ⟨a, b, e, hb⟩ := last_split hm
    subst e
    rw [fld_app hb]
    cases a with
    | nil => rfl
    | cons c r =>
      rcases h with h | h
      · cases h
      · simpa using h
  · rw [fld_none hm]; rfl
theorem cln_head {b : Bool} {l : T} (h : l.take 1 = [47]) : (cln b l).take 1 = [47] := by
  obtain ⟨r, er⟩ : ∃ r, l = 47 :: r := by
    cases l with
    | nil => cases h
    | cons c r => exact ⟨r, by rw [show c = 47 from by simpa using h]⟩
  subst er
  rw [cln_slash]
  split <;> rfl
theorem cln_two {l : T} (h : l.take 2 ≠ [47, 47]) : (cln false l).take 2 ≠ [47, 47] := by
  by_cases h1 : l.take 1 = [47]
  · obtain ⟨r, er⟩ : ∃ r, l = 47 :: r := by
      cases l with
      | nil => cases h1
      | cons c r => exact ⟨r, by rw [show c = 47 from by simpa using h1]⟩
    subst er
    rw [cln_slash]
    split
    · intro e
      exact absurd (List.cons.inj (List.cons.inj e).2).1 (by decide)
    · rename_i n
      exact fun e => n ⟨rfl, e⟩
  · rw [cln_other h1]; exact h
theorem cln_two' {l : T} (h1 : l.take 1 = [47]) : (cln false l).take 2 ≠ [47, 47] := by
  obtain ⟨r, er⟩ : ∃ r, l = 47 :: r := by
    cases l with
    | nil => cases h1
    | cons c r => exact ⟨r, by rw [show c = 47 from by simpa using h1]⟩
  subst er
  rw [cln_slash]
  split
  · intro e
    exact absurd (List.cons.inj (List.cons.inj e).2).1 (by decide)
  · rename_i n
    exact fun e => n ⟨rfl, e⟩
theorem cln_len (b : Bool) (l : T) : (cln b l).length ≤ l.length + 5 := by
  by_cases h1 : l.take 1 = [47]
  · have h2 := stk_wt l
    have h3 := wt_join 47 (stk l)
    unfold cln
    rw [if_pos h1]
    split <;> simp only [List.length_cons] <;> omega
  · rw [cln_other h1]; omega
end Mq
set_option Elab.async false
set_option linter.all false
set_option maxRecDepth 100000
/-! Me: plain segments exchanged, over lists of codes. -/
namespace Me
open PySem PySem.Builtin PySem.Builtin.Str PySem.StrLaws L2 TL Mi Ms Mq
/-- a way to exchange segments -/
structure Fx (f : T → T) : Prop where
  nil : f [] = []
  d1 : f [46] = [46]
  d2 : f [46, 46] = [46, 46]
  ne : ∀ x, f x = [] → x = []
  n1 : ∀ x, f x = [46] → x = [46]
  n2 : ∀ x, f x = [46, 46] → x = [46, 46]
  fr : ∀ x, 47 ∉ x → 47 ∉ f x
  len : ∀ x, (f x).length ≤ x.length + 8
/-- a path with its segments exchanged -/
def ex (f : T → T) (l : T) : T := joinL [47] ((cut 47 l).map f)
variable {f : T → T}
theorem cut_ex (h : Fx f) (l : T) : cut 47 (ex f l) = (cut 47 l).map f := by
  refine cut_join (fun e => cut_ne 47 l (List.map_eq_nil_iff.mp e)) fun p hp => ?_
  obtain ⟨q, hq, rfl⟩ := List.mem_map.mp hp
  exact h.fr q (cut_free 47 l q hq)
theorem ex_join {ps : List T} (hne : ps ≠ []) (hp : ∀ p ∈ ps, 47 ∉ p) : ex f (joinL [47] ps) = joinL [47] (ps.map f) := by
  unfold ex
  rw [cut_join hne hp]
theorem join_cut (l : T) : joinL [47] (cut 47 l) = l := by
  induction l with
  | nil => rfl
  | cons d r ih =>
    by_cases h : d = 47
    · subst h
      rw [cut_hit]
      cases e : cut 47 r with
      | nil => exact absurd e (cut_ne 47 r)
      | cons p ps =>
        rw [e] at ih
        show [] ++ ([47] ++ joinL [47] (p :: ps)) = 47 :: r
        rw [ih]; rfl
    · rw [cut_miss h]
      cases e : cut 47 r with
      | nil => exact absurd e (cut_ne 47 r)
      | cons p ps =>
        rw [e] at ih
        cases ps with
        | nil =>
          show d :: p = d :: r
          rw [show p = r from ih]
        | cons q qs =>
          show d :: p ++ ([47] ++ joinL [47] (q :: qs)) = d :: r
          rw [← ih]
          rfl
theorem joinL_app {c : Nat} : ∀ {a b : List T}, a ≠ [] → b ≠ [] → joinL [c] (a ++ b) = joinL [c] a ++ c :: joinL [c] b
  | [], _, h, _ => absurd rfl h
  | [p], [], _, h => absurd rfl h
  | [p], q :: r, _, _ => rfl
  | p :: q :: r, b, _, hb => by
    have ih := joinL_app (c := c) (a := q :: r) (List.cons_ne_nil _ _) hb
    show p ++ ([c] ++ joinL [c] ((q :: r) ++ b)) = p ++ ([c] ++ joinL [c] (q :: r)) ++ c :: joinL [c] b
    rw [ih]
    simp [List.append_assoc]
theorem ex_app (a b : T) : ex f (a ++ 47 :: b) = ex f a ++ 47 :: ex f b := by
  unfold ex
  rw [cut_app, List.map_append]
  exact joinL_app (fun e => cut_ne 47 a (List.map_eq_nil_iff.mp e)) (fun e => cut_ne 47 b (List.map_eq_nil_iff.mp e))
theorem ex_free {l : T} (h : 47 ∉ l) : ex f l = f l := by
  unfold ex
  rw [cut_none h]
  rfl
theorem ex_nil (h : Fx f) : ex f [] = [] := by
  rw [ex_free List.not_mem_nil, h.nil]
theorem ex_slash (h : Fx f) (r : T) : ex f (47 :: r) = 47 :: ex f r := by
  have := ex_app (f := f) [] r
  rw [ex_nil h] at this
  exact this
theorem bef_mem_not (l : T) : 47 ∉ bef 47 l := by
  induction l with
  | nil => exact List.not_mem_nil
  | cons d r ih =>
    by_cases h : d = 47
    · subst h
      rw [bef_hit]
      exact List.not_mem_nil
    · rw [bef_miss h]
      intro z
      rcases List.mem_cons.mp z with z | z
      · exact h z.symm
      · exact ih z
theorem head_or (l : T) : l = [] ∨ (∃ r, l = 47 :: r) ∨ ∃ p t, l = p ++ t ∧ p ≠ [] ∧ 47 ∉ p ∧ (t = [] ∨ ∃ r, t = 47 :: r) := by
  by_cases h47 : 47 ∈ l
  · obtain ⟨i, hi⟩ : ∃ a b, l = a ++ 47 :: b ∧ 47 ∉ a := by
      have := bef_aft (c := 47) (l := l) (List.contains_iff_mem.mpr h47)
      exact ⟨_, _, this, bef_mem_not l⟩
    obtain ⟨b, e, ha⟩ := hi
    cases i with
    | nil => exact .inr (.inl ⟨b, e⟩)
    | cons c r => exact .inr (.inr ⟨c :: r, 47 :: b, e, List.cons_ne_nil _ _, ha, .inr ⟨b, rfl⟩⟩)
  · cases l with
    | nil => exact .inl rfl
    | cons c r => exact .inr (.inr ⟨c :: r, [], (List.append_nil _).symm, List.cons_ne_nil _ _, h47, .inl rfl⟩)
theorem ex_parts (h : Fx f) {p t : T} (hp : 47 ∉ p) (ht : t = [] ∨ ∃ r, t = 47 :: r) : ∃ t', ex f (p ++ t) = f p ++ t' ∧ (t' = [] ∨ ∃ r, t' = 47 :: r) := by
  rcases ht with rfl | ⟨r, rfl⟩
  · exact ⟨[], by rw [List.append_nil, ex_free hp, List.append_nil], .inl rfl⟩
  · exact ⟨47 :: ex f r, by rw [ex_app, ex_free hp], .inr ⟨_, rfl⟩⟩
theorem ex_emp (h : Fx f) {l : T} : ex f l = [] ↔ l = [] := by
  refine ⟨fun e => ?_, fun e => by rw [e, ex_nil h]⟩
  rcases head_or l with rfl | ⟨r, rfl⟩ | ⟨p, t, rfl, hp, hf, ht⟩
  · rfl
  · rw [ex_slash h] at e
    cases e
  · obtain ⟨t', e2, _⟩ := ex_parts h hf ht
    rw [e2] at e
    exact absurd (h.ne p (List.append_eq_nil_iff.mp e).1) hp
theorem ex_head (h : Fx f) {l : T} : (ex f l).take 1 = [47] ↔ l.take 1 = [47] := by
  rcases head_or l with rfl | ⟨r, rfl⟩ | ⟨p, t, rfl, hp, hf, ht⟩
  · rw [ex_nil h]
  · rw [ex_slash h]
    exact ⟨fun _ => rfl, fun _ => rfl⟩
  · obtain ⟨t', e2, _⟩ := ex_parts h hf ht
    have hq : f p ≠ [] := fun e => hp (h.ne p e)
    have hfq := h.fr p hf
    rw [e2]
    have no : ∀ (q s : T), q ≠ [] → 47 ∉ q → (q ++ s).take 1 ≠ [47] := fun q s h1 h2 e => by
      cases q with
      | nil => exact h1 rfl
      | cons c r => exact h2 (by rw [show c = 47 from (List.cons.inj e).1]; exact List.mem_cons_self ..)
    exact ⟨fun e => absurd e (no _ _ hq hfq), fun e => absurd e (no _ _ hp hf)⟩
theorem stp_map (h : Fx f) (k : List T) (s : T) : stp (k.map f) (f s) = (stp k s).map f := by
  unfold stp
  by_cases h1 : s = [46]
  · subst h1
    rw [if_pos rfl, if_pos h.d1]
  · rw [if_neg h1, if_neg fun e => h1 (h.n1 s e)]
    by_cases h2 : s = [46, 46]
    · subst h2
      rw [if_pos rfl, if_pos h.d2, List.map_dropLast]
    · rw [if_neg h2, if_neg fun e => h2 (h.n2 s e), List.map_append]
      rfl
theorem fold_map (h : Fx f) : ∀ (ss k : List T), (ss.map f).foldl stp (k.map f) = (ss.foldl stp k).map f
  | [], _ => rfl
  | s :: r, k => by
    rw [List.map_cons, List.foldl_cons, List.foldl_cons, stp_map h, fold_map h r]
theorem isDot_map (h : Fx f) (s : T) : isDot (f s) = isDot s := by
  rw [Bool.eq_iff_iff, isDot_iff, isDot_iff]
  constructor
  · rintro (e | e)
    · exact .inl (h.n1 s e)
    · exact .inr (h.n2 s e)
  · rintro (rfl | rfl)
    · exact .inl h.d1
    · exact .inr h.d2
theorem lastDot_map (h : Fx f) (ss : List T) : lastDot (ss.map f) = lastDot ss := by
  unfold lastDot
  rw [List.getLast?_map]
  cases ss.getLast? with
  | none => rfl
  | some s => exact isDot_map h s
theorem stkL_map (h : Fx f) (ss : List T) : stkL (ss.map f) = (stkL ss).map f := by
  unfold stkL
  rw [show ([] : List T) = ([] : List T).map f from rfl, fold_map h, lastDot_map h, List.map_append]
  split
  · rw [List.map_cons, h.nil]
    rfl
  · rfl
theorem stk_ex (h : Fx f) (r : T) : stk (47 :: ex f r) = (stk (47 :: r)).map f := by
  show stkL (cut 47 (ex f r)) = (stkL (cut 47 r)).map f
  rw [cut_ex h, stkL_map h]
theorem two_ex (h : Fx f) {r : T} : (47 :: ex f r).take 2 = [47, 47] ↔ (47 :: r).take 2 = [47, 47] := by
  have a : ∀ l : T, (47 :: l).take 2 = [47, 47] ↔ l.take 1 = [47] := fun l => by
    cases l with
    | nil => simp
    | cons c s => simp
  rw [a, a]
  exact ex_head h
theorem cln_ex (h : Fx f) (b : Bool) (l : T) : cln b (ex f l) = ex f (cln b l) := by
  by_cases h1 : l.take 1 = [47]
  · obtain ⟨r, rfl⟩ : ∃ r, l = 47 :: r := by
      cases l with
      | nil => cases h1
      | cons c r => exact ⟨r, by rw [show c = 47 from (List.cons.inj h1).1]⟩
    have ej : joinL [47] ((stk (47 :: r)).map f) = ex f (joinL [47] (stk (47 :: r))) := (ex_join (stk_ne _) fun p hp => stk_free hp).symm
    rw [ex_slash h, cln_slash, cln_slash, stk_ex h, ej]
    by_cases c : b = false ∧ (47 :: joinL [47] (stk (47 :: r))).take 2 = [47, 47]
    · rw [if_pos c, if_pos ⟨c.1, (two_ex h).mpr c.2⟩, ex_slash h, show (46 :: 47 :: joinL [47] (stk (47 :: r)) : T) = [46] ++ 47 :: joinL [47] (stk (47 :: r)) from rfl, ex_app, ex_free (l := [46]) (by decide), h.d1]
      rfl
    · rw [if_neg c, if_neg fun z => c ⟨z.1, (two_ex h).mp z.2⟩, ex_slash h]
  · rw [cln_other h1, cln_other fun e => h1 ((ex_head h).mp e)]
theorem road_ex (h : Fx f) (l r : T) : ex f (fld l ++ r) = fld (ex f l) ++ ex f r := by
  by_cases h47 : 47 ∈ l
  · obtain ⟨a, b, rfl, hb⟩ := last_split h47
    rw [fld_app hb, ex_app, ex_free (l := b) hb, fld_app (h.fr b hb), List.append_assoc, List.append_assoc]
    exact ex_app a r
  · rw [fld_none h47, ex_free h47, fld_none (h.fr l h47)]
    exact ex_slash h r
theorem wt_map (h : Fx f) (ps : List T) : wt (ps.map f) ≤ 9 * wt ps := by
  induction ps with
  | nil => exact Nat.zero_le _
  | cons p r ih =>
    rw [List.map_cons, wt_cons, wt_cons]
    have := h.len p
    omega
theorem ex_len (h : Fx f) (l : T) : (ex f l).length ≤ 9 * l.length + 8 := by
  have e1 := wt_join1 47 ((cut 47 l).map f) fun e => cut_ne 47 l (List.map_eq_nil_iff.mp e)
  have e2 := wt_map h (cut 47 l)
  have e3 := wt_cut 47 l
  unfold ex
  omega
theorem ex_bef (h : Fx f) (l : T) : bef 47 (ex f l) = f (bef 47 l) := by
  rcases head_or l with rfl | ⟨r, rfl⟩ | ⟨p, t, rfl, hp, hf, ht⟩
  · rw [ex_nil h]
    exact h.nil.symm
  · rw [ex_slash h, bef_hit, bef_hit, h.nil]
  · have cb : ∀ {p : T}, 47 ∉ p → ∀ t : T, (t = [] ∨ ∃ r, t = 47 :: r) → bef 47 (p ++ t) = p := fun {p} hp t ht => by
      rw [bef_app _ (by
        cases e : p.contains 47 with
        | false => rfl
        | true => exact absurd (List.contains_iff_mem.mp e) hp)]
      rcases ht with rfl | ⟨r, rfl⟩
      · show p ++ [] = p
        rw [List.append_nil]
      · rw [bef_hit, List.append_nil]
    obtain ⟨t', e2, ht'⟩ := ex_parts h hf ht
    rw [e2, cb (h.fr p hf) _ ht', cb hf _ ht]
/-- the exchange that a list of pairs tells -/
def exf (prs : List (T × T)) (x : T) : T := ((prs.find? fun p => decide (p.1 = x)).map (·.2)).getD x
/-- pairs that exchange plain segments -/
def okPr (p : T × T) : Bool := decide (p.1 ≠ [] ∧ p.1 ≠ [46] ∧ p.1 ≠ [46, 46] ∧ p.2 ≠ [] ∧ p.2 ≠ [46] ∧ p.2 ≠ [46, 46] ∧ p.2.length ≤ 8) && !p.2.contains 47
theorem exf_or (prs : List (T × T)) (x : T) : exf prs x = x ∨ ∃ p ∈ prs, p.1 = x ∧ exf prs x = p.2 := by
  unfold exf
  cases e : prs.find? fun p => decide (p.1 = x) with
  | none => exact .inl rfl
  | some p => exact .inr ⟨p, List.mem_of_find?_eq_some e, of_decide_eq_true (by simpa using List.find?_some e), rfl⟩
theorem exf_fx {prs : List (T × T)} (h : ∀ p ∈ prs, okPr p = true) : Fx (exf prs) := by
  have hp : ∀ p ∈ prs, (p.1 ≠ [] ∧ p.1 ≠ [46] ∧ p.1 ≠ [46, 46] ∧ p.2 ≠ [] ∧ p.2 ≠ [46] ∧ p.2 ≠ [46, 46] ∧ p.2.length ≤ 8) ∧ 47 ∉ p.2 := fun p hp => by
    have := h p hp
    unfold okPr at this
    rw [Bool.and_eq_true] at this
    refine ⟨of_decide_eq_true this.1, fun z => ?_⟩
    have t := this.2
    rw [List.contains_iff_mem.mpr z] at t
    cases t
  constructor
  · rcases exf_or prs [] with e | ⟨p, m, e, _⟩
    · exact e
    · exact absurd e (hp p m).1.1
  · rcases exf_or prs [46] with e | ⟨p, m, e, _⟩
    · exact e
    · exact absurd e (hp p m).1.2.1
  · rcases exf_or prs [46, 46] with e | ⟨p, m, e, _⟩
    · exact e
    · exact absurd e (hp p m).1.2.2.1
  · intro x z
    rcases exf_or prs x with e | ⟨p, m, e, e2⟩
    · rw [← e, z]
    · exact absurd (by rw [← e2, z]) (hp p m).1.2.2.2.1
  · intro x z
    rcases exf_or prs x with e | ⟨p, m, e, e2⟩
    · rw [← e, z]
    · exact absurd (by rw [← e2, z]) (hp p m).1.2.2.2.2.1
  · intro x z
    rcases exf_or prs x with e | ⟨p, m, e, e2⟩
    · rw [← e, z]
    · exact absurd (by rw [← e2, z]) (hp p m).1.2.2.2.2.2.1
  · intro x z
    rcases exf_or prs x with e | ⟨p, m, e, e2⟩
    · rw [e]; exact z
    · rw [e2]; exact (hp p m).2
  · intro x
    rcases exf_or prs x with e | ⟨p, m, e, e2⟩
    · rw [e]; omega
    · rw [e2]
      have := (hp p m).1.2.2.2.2.2.2
      omega
end Me
set_option Elab.async false
set_option linter.all false
set_option maxRecDepth 100000
set_option maxHeartbeats 4000000
/-! R21: comprehensions over lists and over enumerate. -/
namespace Xs
open PySem PySem.Spec PyProof.Rows L2
theorem lcp_list {K : PySem.W.Frag} {a : Addr} {xs : List V} {g : TG} {tt : TT} {te : TE} {vs : List Nat} {σ : L2.St} {H1 : Hp} {D : Addr} {Qd : Hp → Prop} (Pv : Nat → Hp → Prop) (h0 : Pv 0 (upd H1 D (.lst []))) (hl : ∀ i H, i ≤ xs.length → Pv i H → SqL K H a xs)
    (hs : ∀ i x H, xs[i]? = some x → Pv i H → g x (wipe σ vs) H fun σ2 H2 => wipe σ2 vs = wipe σ vs ∧ tt σ2 H2 fun b H3 =>
      if b = true then te σ2 H3 fun y H4 => ∃ acc, H4 D = some (.lst acc) ∧ acc.length < sizeLine ∧ Pv (i + 1) (upd H4 D (.lst (acc ++ [y]))) else Pv (i + 1) H3) (hd : ∀ H, Pv xs.length H → Qd H) : LcP (Itl K a) g tt te vs σ H1 D Qd := by
  refine ⟨fun i m H => m = xs.length - i ∧ i ≤ xs.length ∧ Pv i H, ⟨xs.length, by simp, Nat.zero_le _, h0⟩, ?_⟩
  rintro i m H ⟨rfl, hi, p⟩
  have q := hl i H hi p
  by_cases hlt : i < xs.length
  · refine .inr ⟨⟨xs, xs[i], q, by simp [hlt]⟩, Pv (i + 1), fun H' p' => ⟨xs.length - (i + 1), by omega, rfl, hlt, p'⟩, fun v H' y => ?_⟩
    obtain ⟨e, y⟩ := y
    subst e
    exact hs i v _ (y xs q) p
  · have e : i = xs.length := by omega
    subst e
    exact .inl ⟨⟨xs, q, Nat.le_refl _⟩, hd H p⟩
theorem lcp_enum {K : PySem.W.Frag} {a : Addr} {xs : List V} {g : TG} {tt : TT} {te : TE} {vs : List Nat} {σ : L2.St} {H1 : Hp} {D : Addr} {Qd : Hp → Prop} (Pv : Nat → Hp → Prop) (h0 : Pv 0 (upd H1 D (.lst []))) (hl : ∀ i H, i ≤ xs.length → Pv i H → SqL K H a xs)
    (hs : ∀ i x H T, xs[i]? = some x → Pv i H → H T = none → g (.ref T) (wipe σ vs) (upd H T (.tup [.int (i : Nat), x])) fun σ2 H2 => wipe σ2 vs = wipe σ vs ∧ tt σ2 H2 fun b H3 =>
      if b = true then te σ2 H3 fun y H4 => ∃ acc, H4 D = some (.lst acc) ∧ acc.length < sizeLine ∧ Pv (i + 1) (upd H4 D (.lst (acc ++ [y]))) else Pv (i + 1) H3) (hd : ∀ H, Pv xs.length H → Qd H) : LcP (Ite K a) g tt te vs σ H1 D Qd := by
  refine ⟨fun i m H => m = xs.length - i ∧ i ≤ xs.length ∧ Pv i H, ⟨xs.length, by simp, Nat.zero_le _, h0⟩, ?_⟩
  rintro i m H ⟨rfl, hi, p⟩
  have q := hl i H hi p
  by_cases hlt : i < xs.length
  · refine .inr ⟨⟨xs, xs[i], q, by simp [hlt]⟩, Pv (i + 1), fun H' p' => ⟨xs.length - (i + 1), by omega, rfl, hlt, p'⟩, fun v H' y => ?_⟩
    obtain ⟨T, z, e, hT, e2, y⟩ := y
    subst e e2
    exact hs i z _ T (y xs q) p hT
  · have e : i = xs.length := by omega
    subst e
    exact .inl ⟨⟨xs, q, Nat.le_refl _⟩, hd H p⟩
section
variable {X : Cx} {s : Shared} {H : Hp} {sc : Scope} {env : Env} {fp : List Addr}
/-- a target of several names in a comprehension -/
theorem pg_tupB {es : List Expr} {k : Nat} {t : TGs} {n : Nat} {pos : Pos} (hc : X.calm = true) (h : PGs (X.blk s H sc env fp) es t)
    (hn : (assignEach es (X.blk s H sc env fp).env).length = n := by rfl) (hst : (assignEach es (X.blk s H sc env fp).env).findIdx? (·.1) = none := by rfl) : PG (X.blk s H sc env fp) (.Tuple es k pos) (gTup X.K n t) := pg_tup (X := X.blk s H sc env fp) hc h hn hst
/-- a place of a sequence, in a comprehension -/
theorem hixB {a b : Expr} {ta tb : TE} {pos : Pos} (ha : PE (X.blk s H sc env fp) a ta) (hb : PE (X.blk s H sc env fp) b tb) (hp : PlainIx b := by exact fun _ _ => rfl) : PE (X.blk s H sc env fp) (.Subscript a b pos) (tOp (hIx X.K) ta tb) := hix (X := X.blk s H sc env fp) ha hb hp
/-- +, in a comprehension -/
theorem co_addB : OpR (X.blk s H sc env fp) (binaryOp .Add) (cAdd X.K) := co_add (X := X.blk s H sc env fp)
end
end Xs
/-! dicts of texts that tell an exchange -/
namespace Me
open PySem PySem.Spec PyProof.Rows L2 TL
def kvP (prs : List (Str × Str)) : List (Key × V) := prs.map fun p => (.inr p.1, .str p.2)
def prT (prs : List (Str × Str)) : List (List Nat × List Nat) := prs.map fun p => (tl p.1, tl p.2)
theorem val_ex : ∀ (prs : List (Str × Str)) (z : Str), ∃ z' : Str, (valV (kvP prs) (.inr z)).getD (.str z) = .str z' ∧ tl z' = exf (prT prs) (tl z)
  | [], z => ⟨z, rfl, rfl⟩
  | p :: r, z => by
    by_cases e : p.1 = z
    · refine ⟨p.2, ?_, ?_⟩
      · show (valV ((.inr p.1, V.str p.2) :: kvP r) (.inr z)).getD (.str z) = _
        rw [valV_pos (p := ((.inr p.1 : Key), V.str p.2)) (by rw [e])]
        rfl
      · show _ = exf ((tl p.1, tl p.2) :: prT r) (tl z)
        unfold exf
        rw [List.find?_cons_of_pos (by rw [e]; simp)]
        rfl
    · obtain ⟨z', e1, e2⟩ := val_ex r z
      refine ⟨z', ?_, ?_⟩
      · show (valV ((.inr p.1, V.str p.2) :: kvP r) (.inr z)).getD (.str z) = _
        rw [valV_neg (p := ((.inr p.1 : Key), V.str p.2)) (fun h => e (Sum.inr.inj h))]
        exact e1
      · rw [e2]
        show _ = exf ((tl p.1, tl p.2) :: prT r) (tl z)
        unfold exf
        have hn : ¬ tl p.1 = tl z := fun h => e (TL.ext_tl h)
        simp [List.find?_cons, hn]
end Me
set_option Elab.async false
set_option linter.all false
set_option maxRecDepth 100000
set_option maxHeartbeats 4000000
/-! R22: list(text). -/
namespace Xs
open PySem PySem.Spec PyProof.Rows L2
theorem vals_signs : ∀ (cs : List Nat) (vs : List Value), vs.length = cs.length → (∀ (j : Nat) (v : Value), vs[j]? = some v → ∃ c u, cs[j]? = some c ∧ v = .str ⟨#[c]⟩ u) → Vals (cs.map fun c => V.str ⟨#[c]⟩) vs
  | [], [], _, _ => .nil
  | [], _ :: _, h, _ => nomatch h
  | _ :: _, [], h, _ => nomatch h
  | c :: cs, v :: vs, h, k => by
    obtain ⟨c', u, e1, e2⟩ := k 0 v rfl
    cases Option.some.inj e1
    exact .cons ⟨u, e2⟩ (vals_signs cs vs (Nat.succ.inj h) fun j w e => k (j + 1) w (by simpa using e))
theorem call_listS {X : Cx} (hc : X.calm = true) : CallR X (.type "list") (fun xs H Q => ∃ x : Str, xs = [.str x] ∧ x.length ≤ sizeLine ∧ ∀ p, H p = none → Q (.ref p) (upd H p (.lst ((TL.tl x).map fun c => V.str ⟨#[c]⟩)))) := by
  intro pins s σ H xs us Q I r h
  obtain ⟨x, rfl, hz, q⟩ := h
  obtain ⟨u, rfl, t, rfl⟩ := vals1 r
  refine PySem.call_list_str (hn := hz) (I.ok.hd hc) x t fun h' tk acc' c' hk hS' hacc => ?_
  have hl : (TL.tl x).length = x.cps.size := by simp [TL.tl]
  have hv : Vals ((TL.tl x).map fun c => V.str ⟨#[c]⟩) acc'.toList := vals_signs _ _ (by rw [hl]; simpa using hacc.1) fun j v e => by
    obtain ⟨c, u, hc, e2⟩ := hacc.2 j v (by simpa using e)
    exact ⟨c, u, by rw [show (TL.tl x)[j]? = x.cps.toList[j]? from rfl, Array.getElem?_toList]; exact hc, e2⟩
  refine ⟨.ref s.heap.objs.size, _, I.laid (t' := tk) hk (Nat.le_refl _) (show ObjOk X.prog X.w _ h' _ (.lst ((TL.tl x).map fun c => V.str ⟨#[c]⟩)) from ⟨by rw [List.length_map, hl]; exact hz, acc'.toList, c', hv, by simpa using hS'⟩), rfl, q _ (I.hok.fresh (Nat.le_refl _))⟩
section
variable {X : Cx} {s s2 : Shared} {H H2 : Hp} {sc sc2 : Scope} {env env2 : Env} {fp fp2 : List Addr}
/-- a place of a sequence, in a comprehension within a comprehension -/
theorem hixBB {a b : Expr} {ta tb : TE} {pos : Pos} (ha : PE ((X.blk s H sc env fp).blk s2 H2 sc2 env2 fp2) a ta) (hb : PE ((X.blk s H sc env fp).blk s2 H2 sc2 env2 fp2) b tb) (hp : PlainIx b := by exact fun _ _ => rfl) : PE ((X.blk s H sc env fp).blk s2 H2 sc2 env2 fp2) (.Subscript a b pos) (tOp (hIx X.K) ta tb) := hix (X := (X.blk s H sc env fp).blk s2 H2 sc2 env2 fp2) ha hb hp
/-- joined, in a comprehension -/
theorem hm_joinB : MtR (X.blk s H sc env fp) "str.join" (cJoin X.K) := hm_join (X := X.blk s H sc env fp)
end
end Xs
set_option Elab.async false
set_option linter.all false
set_option maxRecDepth 100000
set_option maxHeartbeats 4000000
namespace Da
open PySem PySem.Spec PyProof.Rows L2 Hd Xs Fx
theorem hu64 {A : Around} {k : Nat} (h : Room k A) : A.units + 64 < cLine := by have := h.un; omega
/-- the bag: two numbers -/
def Bg (H : Hp) (a : Addr) : Prop := ∃ x y : Int, H a = some (.lst [.int x, .int y]) ∧ 0 ≤ y ∧ y < 4294967296
def spTake : Sp := fun vs H Q _ => match vs with
  | [.ref a, .int n] => Bg H a ∧ 1 ≤ n ∧ n ≤ 1000000 ∧ ∀ d H', 0 ≤ d → d < n → Bg H' a → Kp a H H' → Q (.int d) H'
  | _ => False
theorem fm {x m : Int} (h : 0 < m) : 0 ≤ x.fmod m ∧ x.fmod m < m := by
  rw [Int.fmod_eq_emod_of_nonneg _ (by omega)]
  exact ⟨Int.emod_nonneg _ (by omega), Int.emod_lt_of_pos _ h⟩
section
variable {P : Program} {w : World} {K : PySem.W.Frag} {mg : Str → Option Value} {base : Heap}
theorem ok__law_take (c : Ct w K mg) : OkF P w K mg base CX0 1 (He.ga K "_law_take") ["bag", "size"] spTake := by
  obtain ⟨fd, F⟩ := F__law_take c
  refine ⟨fd, F.ok sc__law_take (fun vs H Q E h => ?_) (fun cdv A outer s H vs Q E hr h => ⟨_, PSs.nox ((pss_cons (ps_if (ctc co_gt (hix (cv 0) pe_int) pe_int (by rfl)) (pss_cons (ps_set (i := 2) (sc__law_take).nd rfl (Or.inl rfl) (pe_op co_mod (hix (cv 0) pe_int) (cv 1))) (pss_cons (ps_asg (pe_op co_fdiv (hix (cv 0) pe_int) (cv 1)) (pg_sub (cv 0) pe_int set_list)) (pss_one (ps_ret (cv 2))))) pss_nil) (pss_cons (ps_asg (pe_op co_mod (pe_op co_add (pe_op co_mul (hix (cv 0) pe_int) pe_int) pe_int) pe_int) (pg_sub (cv 0) pe_int set_list)) (pss_one (ps_ret (pe_op co_mod (pe_op co_fdiv (pe_op co_mod (pe_op co_mul (pe_op co_fdiv (hix (cv 0) pe_int) pe_int) pe_int) pe_int) pe_int) (cv 1))))))), ?_⟩), F.bindsN fun _ _ _ _ _ _ us hl => match us, hl with | [_, _], _ => rfl⟩
  · unfold spTake at h
    split at h
    · rfl
    · exact h.elim
  · unfold spTake at h
    split at h
    case h_2 => exact h.elim
    case h_1 vs a n =>
    obtain ⟨⟨x, y, ha, y0, y1⟩, n0, n1, q⟩ := h
    have e0 : atI [V.int x, V.int y] 0 = some (.int x) := rfl
    have e1 : atI [V.int x, V.int y] 1 = some (.int y) := rfl
    (try simp only [tSeq, tNext, tIfS, tFor_eq, cBl, tOp, tC, cI, cIc, cAdd, cVar, hEq, hNe, hIn, hNotIn, hLen, hSl, tM1, tBM, cT1, cT1f, cFind3, cSplit, cPart, rNewStrs, hIsS, hTru, tAsg, gName, gSub, tRet, tRetN, tCons, tNil, tTup, tLst, tCB, tNot, tAnd, tNotV, tAndV, tOrV, tOr, V.bl.injEq, V.int.injEq, V.str.injEq, exists_eq_left', exists_eq_left, exists_eq', true_and, and_true, cIsN, L2.start, gTup, gCons, gNil, nox_K, cx_K, tCallF, tSl, tPart, tNoPart, iEnum, RZ.iZipA, iRng1, iRng2, cAbs, List.map_cons, List.map_nil, List.length_cons, List.length_nil, List.replicate, List.cons_append, List.nil_append, List.getElem?_cons_zero, List.getElem?_cons_succ, List.getElem?_nil, List.set_cons_zero, List.set_cons_succ, Nat.reduceAdd, Nat.reduceSub, Nat.zero_add, if_true, if_false, reduceIte, reduceCtorEq, Bool.false_eq_true, decide_eq_true_eq, tDrop, cMin2, cJoin, iList, tDNewK, tLc_eq, iStr, wipe])
    simp only [hIx, seqAt_lst ha, e0, e1]
    split
    · refine ⟨by omega, ⟨by omega, by omega⟩, setL_at ha rfl ?_⟩
      have hm := fm (x := x) (m := n) (by omega)
      exact q _ _ hm.1 hm.2 ⟨_, _, upd_self, y0, y1⟩ (Kp.refl.at)
    · refine ⟨.inr ⟨by decide, by decide⟩, by decide, setL_at ha rfl ?_⟩
      have hm := fm (x := y * 40692 + 3301) (m := 2147483399) (by decide)
      have eg : ∀ z : V, atI ([V.int x, V.int y].set 1 z) 1 = some z := fun _ => rfl
      simp only [hIx, seqAt_lst (upd_self (H := H) (a := a)), eg]
      have hm1 := fm (x := ((y * 40692 + 3301).fmod 2147483399).fdiv 11 * 69621) (m := 2147483587) (by decide)
      have hm2 := fm (x := (((((y * 40692 + 3301).fmod 2147483399).fdiv 11 * 69621).fmod 2147483587).fdiv 32)) (m := n) (by omega)
      refine ⟨⟨by decide, by decide⟩, .inr ⟨by decide, by decide⟩, by decide, ⟨by decide, by decide⟩, by omega, q _ _ hm2.1 hm2.2 ⟨_, _, upd_self, hm.1, by omega⟩ (Kp.refl.at)⟩
theorem take_ok {H : Hp} {a : Addr} {n : Int} {Q : VK} {E : XK} (hb : Bg H a) (n0 : 1 ≤ n) (n1 : n ≤ 1000000) (q : ∀ d H', 0 ≤ d → d < n → Bg H' a → Kp a H H' → Q (.int d) H') : spTake [.ref a, .int n] H Q E := ⟨hb, n0, n1, q⟩
theorem Bg.fresh {H : Hp} {a p : Addr} {o : HO} (h : Bg H a) (hp : H p = none) : Bg (upd H p o) a := by
  obtain ⟨x, y, e, r⟩ := h
  exact ⟨x, y, upd_old e hp, r⟩
theorem Bg.ne {H : Hp} {a p : Addr} (h : Bg H a) (hp : H p = none) : p ≠ a := by
  obtain ⟨x, y, e, r⟩ := h
  exact (ne_none e hp).symm
def spBag (K : PySem.W.Frag) : Sp := fun vs H Q _ => match vs with
  | [.ref a, .int i] => ∃ ns : List Int, SqL K H a (ns.map V.int) ∧ 0 ≤ i ∧ i ≤ 100 ∧ ∀ p H', Ext H H' → H p = none → Bg H' p → Q (.ref p) H'
  | _ => False
theorem ok__law_bag (c : Ct w K mg) : OkF P w K mg base CX0 1 (He.ga K "_law_bag") ["script", "at"] (spBag K) := by
  obtain ⟨fd, F⟩ := F__law_bag c
  refine ⟨fd, F.ok sc__law_bag (fun vs H Q E h => ?_) (fun cdv A outer s H vs Q E hr h => ⟨_, PSs.nox ((pss_cons (ps_set (i := 2) (sc__law_bag).nd rfl (Or.inl rfl) (pe_ifExp (ctc co_lt (cv 1) (pe_callB cc_len (by rfl) (b_len c) (by decide +kernel) (pa_cons (cv 0) pa_nil)) (by rfl)) (cix (cv 0) (cv 1)) pe_int)) (pss_cons (ps_set (i := 3) (sc__law_bag).nd rfl (Or.inl rfl) (pe_op co_add (pe_op co_mul pe_int (cv 1)) pe_int)) (pss_cons (ps_for PassesOwn.never rfl (pi_enum rfl (b_enumerate c) (pa_cons (pe_slice cs_any (cv 0) po_none (po_some pe_int)) pa_nil)) (pg_tup (n := 2) rfl (pgs_cons (pg_name (i := 4) (sc__law_bag).nd rfl (Or.inl rfl)) (pgs_cons (pg_name (i := 5) (sc__law_bag).nd rfl (Or.inl rfl)) pgs_nil))) (pss_one (ps_set (i := 3) (sc__law_bag).nd rfl (Or.inl rfl) (pe_op co_mod (pe_op co_add (pe_op co_add (pe_op co_add (pe_op co_mul (cv 3) pe_int) (pe_op co_mod (cv 5) pe_int)) (pe_op co_mul pe_int (cv 4))) pe_int) pe_int)))) (pss_one (ps_ret (pe_lst (pa_cons (pe_ifExp (ctc co_ge (pe_callB cc_abs (by rfl) (b_abs c) (by decide +kernel) (pa_cons (cv 2) pa_nil)) (pe_op co_pow pe_int pe_int) (by rfl)) (pe_callB cc_abs (by rfl) (b_abs c) (by decide +kernel) (pa_cons (cv 2) pa_nil)) pe_int) (pa_cons (cv 3) pa_nil))))))))), ?_⟩), F.bindsN fun _ _ _ _ _ _ us hl => match us, hl with | [_, _], _ => rfl⟩
  · unfold spBag at h
    split at h
    · rfl
    · exact h.elim
  · unfold spBag at h
    split at h
    case h_2 => exact h.elim
    case h_1 vs a i =>
    obtain ⟨ns, hS, i0, i1, q⟩ := h
    (try simp only [tSeq, tNext, tIfS, tFor_eq, cBl, tOp, tC, cI, cIc, cAdd, cVar, hEq, hNe, hIn, hNotIn, hLen, hSl, tM1, tBM, cT1, cT1f, cFind3, cSplit, cPart, rNewStrs, hIsS, hTru, tAsg, gName, gSub, tRet, tRetN, tCons, tNil, tTup, tLst, tCB, tNot, tAnd, tNotV, tAndV, tOrV, tOr, V.bl.injEq, V.int.injEq, V.str.injEq, exists_eq_left', exists_eq_left, exists_eq', true_and, and_true, cIsN, L2.start, gTup, gCons, gNil, nox_K, cx_K, tCallF, tSl, tPart, tNoPart, iEnum, RZ.iZipA, iRng1, iRng2, cAbs, List.map_cons, List.map_nil, List.length_cons, List.length_nil, List.replicate, List.cons_append, List.nil_append, List.getElem?_cons_zero, List.getElem?_cons_succ, List.getElem?_nil, List.set_cons_zero, List.set_cons_succ, Nat.reduceAdd, Nat.reduceSub, Nat.zero_add, if_true, if_false, reduceIte, reduceCtorEq, Bool.false_eq_true, decide_eq_true_eq, tDrop, cMin2, cJoin, iList, tDNewK, tLc_eq, iStr, wipe])
    refine cps (R := tIf _ _ _ _ _) (fun v H' => H = H' ∧ ∃ z : Int, v = .int z) ?_ ?_
    · rintro _ _ ⟨rfl, z, rfl⟩
      (try simp only [tSeq, tNext, tIfS, tFor_eq, cBl, tOp, tC, cI, cIc, cAdd, cVar, hEq, hNe, hIn, hNotIn, hLen, hSl, tM1, tBM, cT1, cT1f, cFind3, cSplit, cPart, rNewStrs, hIsS, hTru, tAsg, gName, gSub, tRet, tRetN, tCons, tNil, tTup, tLst, tCB, tNot, tAnd, tNotV, tAndV, tOrV, tOr, V.bl.injEq, V.int.injEq, V.str.injEq, exists_eq_left', exists_eq_left, exists_eq', true_and, and_true, cIsN, L2.start, gTup, gCons, gNil, nox_K, cx_K, tCallF, tSl, tPart, tNoPart, iEnum, RZ.iZipA, iRng1, iRng2, cAbs, List.map_cons, List.map_nil, List.length_cons, List.length_nil, List.replicate, List.cons_append, List.nil_append, List.getElem?_cons_zero, List.getElem?_cons_succ, List.getElem?_nil, List.set_cons_zero, List.set_cons_succ, Nat.reduceAdd, Nat.reduceSub, Nat.zero_add, if_true, if_false, reduceIte, reduceCtorEq, Bool.false_eq_true, decide_eq_true_eq, tDrop, cMin2, cJoin, iList, tDNewK, tLc_eq, iStr, wipe])
      refine ⟨.inl ⟨by omega, by omega⟩, ?_⟩
      refine ⟨_, hS, fun p hp => ⟨p, _, rfl, .inl (Rd.of upd_self), ?_⟩⟩
      refine lp_enum (xs := cutV (ns.map V.int) none (some 24)) (fun k σ H' => ∃ y u v, σ = [some (V.ref a), some (V.int i), some (V.int z), some (V.int y), u, v] ∧ (0 ≤ y ∧ y < 4294967296) ∧ Ext (upd H p (.lst (cutV (ns.map V.int) none (some 24)))) H') ⟨5647 * i + 401, none, none, rfl, by omega, Ext.rf⟩ ?_ ?_ ?_
      · rintro k σ H' _ ⟨y, u, v, _, _, he⟩
        exact .inl (Rd.of (he _ _ upd_self))
      · rintro k x σ H' T hx ⟨y, u, v, rfl, y0, he⟩ hT
        obtain ⟨n, rfl⟩ : ∃ n, x = V.int n := by
          have hm := List.mem_of_mem_drop (List.mem_of_mem_take (List.mem_of_getElem? hx))
          obtain ⟨n, _, e⟩ := List.mem_map.mp hm
          exact ⟨n, e.symm⟩
        (try simp only [tSeq, tNext, tIfS, tFor_eq, cBl, tOp, tC, cI, cIc, cAdd, cVar, hEq, hNe, hIn, hNotIn, hLen, hSl, tM1, tBM, cT1, cT1f, cFind3, cSplit, cPart, rNewStrs, hIsS, hTru, tAsg, gName, gSub, tRet, tRetN, tCons, tNil, tTup, tLst, tCB, tNot, tAnd, tNotV, tAndV, tOrV, tOr, V.bl.injEq, V.int.injEq, V.str.injEq, exists_eq_left', exists_eq_left, exists_eq', true_and, and_true, cIsN, L2.start, gTup, gCons, gNil, nox_K, cx_K, tCallF, tSl, tPart, tNoPart, iEnum, RZ.iZipA, iRng1, iRng2, cAbs, List.map_cons, List.map_nil, List.length_cons, List.length_nil, List.replicate, List.cons_append, List.nil_append, List.getElem?_cons_zero, List.getElem?_cons_succ, List.getElem?_nil, List.set_cons_zero, List.set_cons_succ, Nat.reduceAdd, Nat.reduceSub, Nat.zero_add, if_true, if_false, reduceIte, reduceCtorEq, Bool.false_eq_true, decide_eq_true_eq, tDrop, cMin2, cJoin, iList, tDNewK, tLc_eq, iStr, wipe])
        refine ⟨_, _, rfl, .inl (Rd.of upd_self), rfl, _, _, rfl, _, _, rfl, rfl, ?_⟩
        (try simp only [tSeq, tNext, tIfS, tFor_eq, cBl, tOp, tC, cI, cIc, cAdd, cVar, hEq, hNe, hIn, hNotIn, hLen, hSl, tM1, tBM, cT1, cT1f, cFind3, cSplit, cPart, rNewStrs, hIsS, hTru, tAsg, gName, gSub, tRet, tRetN, tCons, tNil, tTup, tLst, tCB, tNot, tAnd, tNotV, tAndV, tOrV, tOr, V.bl.injEq, V.int.injEq, V.str.injEq, exists_eq_left', exists_eq_left, exists_eq', true_and, and_true, cIsN, L2.start, gTup, gCons, gNil, nox_K, cx_K, tCallF, tSl, tPart, tNoPart, iEnum, RZ.iZipA, iRng1, iRng2, cAbs, List.map_cons, List.map_nil, List.length_cons, List.length_nil, List.replicate, List.cons_append, List.nil_append, List.getElem?_cons_zero, List.getElem?_cons_succ, List.getElem?_nil, List.set_cons_zero, List.set_cons_succ, Nat.reduceAdd, Nat.reduceSub, Nat.zero_add, if_true, if_false, reduceIte, reduceCtorEq, Bool.false_eq_true, decide_eq_true_eq, tDrop, cMin2, cJoin, iList, tDNewK, tLc_eq, iStr, wipe])
        have hm := fm (x := y * 40014 + n.fmod 2147483563 + 61 * (k : Int) + 7) (m := 2147483563) (by decide)
        exact ⟨.inr ⟨by decide, by decide⟩, by decide, .inl ⟨by decide, by decide⟩, by decide, _, _, _, rfl, by omega, he.fresh hT⟩
      · rintro σ H' ⟨y, u, v, rfl, hy, he⟩
        (try simp only [tSeq, tNext, tIfS, tFor_eq, cBl, tOp, tC, cI, cIc, cAdd, cVar, hEq, hNe, hIn, hNotIn, hLen, hSl, tM1, tBM, cT1, cT1f, cFind3, cSplit, cPart, rNewStrs, hIsS, hTru, tAsg, gName, gSub, tRet, tRetN, tCons, tNil, tTup, tLst, tCB, tNot, tAnd, tNotV, tAndV, tOrV, tOr, V.bl.injEq, V.int.injEq, V.str.injEq, exists_eq_left', exists_eq_left, exists_eq', true_and, and_true, cIsN, L2.start, gTup, gCons, gNil, nox_K, cx_K, tCallF, tSl, tPart, tNoPart, iEnum, RZ.iZipA, iRng1, iRng2, cAbs, List.map_cons, List.map_nil, List.length_cons, List.length_nil, List.replicate, List.cons_append, List.nil_append, List.getElem?_cons_zero, List.getElem?_cons_succ, List.getElem?_nil, List.set_cons_zero, List.set_cons_succ, Nat.reduceAdd, Nat.reduceSub, Nat.zero_add, if_true, if_false, reduceIte, reduceCtorEq, Bool.false_eq_true, decide_eq_true_eq, tDrop, cMin2, cJoin, iList, tDNewK, tLc_eq, iStr, wipe])
        refine cps (R := tIf _ _ _ _ _) (fun v H2 => H' = H2 ∧ ∃ z : Int, v = .int z) ?_ ?_
        · rintro _ _ ⟨rfl, z, rfl⟩
          (try simp only [tSeq, tNext, tIfS, tFor_eq, cBl, tOp, tC, cI, cIc, cAdd, cVar, hEq, hNe, hIn, hNotIn, hLen, hSl, tM1, tBM, cT1, cT1f, cFind3, cSplit, cPart, rNewStrs, hIsS, hTru, tAsg, gName, gSub, tRet, tRetN, tCons, tNil, tTup, tLst, tCB, tNot, tAnd, tNotV, tAndV, tOrV, tOr, V.bl.injEq, V.int.injEq, V.str.injEq, exists_eq_left', exists_eq_left, exists_eq', true_and, and_true, cIsN, L2.start, gTup, gCons, gNil, nox_K, cx_K, tCallF, tSl, tPart, tNoPart, iEnum, RZ.iZipA, iRng1, iRng2, cAbs, List.map_cons, List.map_nil, List.length_cons, List.length_nil, List.replicate, List.cons_append, List.nil_append, List.getElem?_cons_zero, List.getElem?_cons_succ, List.getElem?_nil, List.set_cons_zero, List.set_cons_succ, Nat.reduceAdd, Nat.reduceSub, Nat.zero_add, if_true, if_false, reduceIte, reduceCtorEq, Bool.false_eq_true, decide_eq_true_eq, tDrop, cMin2, cJoin, iList, tDNewK, tLc_eq, iStr, wipe])
          refine ⟨by decide, fun r hr => q _ _ ((Ext.rf.fresh hp).tr he |>.fresh hr) ?_ ⟨_, _, upd_self, hy.1, hy.2⟩⟩
          cases h : H r with
          | none => rfl
          | some o =>
            have z := he r o (upd_old h hp)
            rw [hr] at z
            cases z
        · intro Q' hQ
          unfold tIf
          (try simp only [tSeq, tNext, tIfS, tFor_eq, cBl, tOp, tC, cI, cIc, cAdd, cVar, hEq, hNe, hIn, hNotIn, hLen, hSl, tM1, tBM, cT1, cT1f, cFind3, cSplit, cPart, rNewStrs, hIsS, hTru, tAsg, gName, gSub, tRet, tRetN, tCons, tNil, tTup, tLst, tCB, tNot, tAnd, tNotV, tAndV, tOrV, tOr, V.bl.injEq, V.int.injEq, V.str.injEq, exists_eq_left', exists_eq_left, exists_eq', true_and, and_true, cIsN, L2.start, gTup, gCons, gNil, nox_K, cx_K, tCallF, tSl, tPart, tNoPart, iEnum, RZ.iZipA, iRng1, iRng2, cAbs, List.map_cons, List.map_nil, List.length_cons, List.length_nil, List.replicate, List.cons_append, List.nil_append, List.getElem?_cons_zero, List.getElem?_cons_succ, List.getElem?_nil, List.set_cons_zero, List.set_cons_succ, Nat.reduceAdd, Nat.reduceSub, Nat.zero_add, if_true, if_false, reduceIte, reduceCtorEq, Bool.false_eq_true, decide_eq_true_eq, tDrop, cMin2, cJoin, iList, tDNewK, tLc_eq, iStr, wipe])
          refine ⟨⟨by decide, by decide, by decide⟩, ?_⟩
          repeat' split
          all_goals exact hQ _ _ ⟨rfl, _, rfl⟩
    · intro Q' hQ
      unfold tIf
      (try simp only [tSeq, tNext, tIfS, tFor_eq, cBl, tOp, tC, cI, cIc, cAdd, cVar, hEq, hNe, hIn, hNotIn, hLen, hSl, tM1, tBM, cT1, cT1f, cFind3, cSplit, cPart, rNewStrs, hIsS, hTru, tAsg, gName, gSub, tRet, tRetN, tCons, tNil, tTup, tLst, tCB, tNot, tAnd, tNotV, tAndV, tOrV, tOr, V.bl.injEq, V.int.injEq, V.str.injEq, exists_eq_left', exists_eq_left, exists_eq', true_and, and_true, cIsN, L2.start, gTup, gCons, gNil, nox_K, cx_K, tCallF, tSl, tPart, tNoPart, iEnum, RZ.iZipA, iRng1, iRng2, cAbs, List.map_cons, List.map_nil, List.length_cons, List.length_nil, List.replicate, List.cons_append, List.nil_append, List.getElem?_cons_zero, List.getElem?_cons_succ, List.getElem?_nil, List.set_cons_zero, List.set_cons_succ, Nat.reduceAdd, Nat.reduceSub, Nat.zero_add, if_true, if_false, reduceIte, reduceCtorEq, Bool.false_eq_true, decide_eq_true_eq, tDrop, cMin2, cJoin, iList, tDNewK, tLc_eq, iStr, wipe])
      refine ⟨_, .inl hS, ?_⟩
      simp only [List.length_map]
      by_cases hl : i < (ns.length : Nat)
      · rw [if_pos hl]
        obtain ⟨j, rfl⟩ : ∃ j : Nat, i = j := ⟨i.toNat, by omega⟩
        have hj : j < ns.length := by omega
        refine ⟨_, .int ns[j], .inl hS, ?_, hQ _ _ ⟨rfl, _, rfl⟩⟩
        unfold atI ixN
        rw [if_pos (by omega), if_pos (by simpa using hl)]
        simp [hj]
      · rw [if_neg hl]
        exact hQ _ _ ⟨rfl, _, rfl⟩
end
end Da
set_option Elab.async false
set_option linter.all false
set_option maxRecDepth 100000
set_option maxHeartbeats 4000000
namespace Da
open PySem PySem.Spec PyProof.Rows L2 Hd Xs Fx
/-- None, or a text of some length -/
def PV (v : V) : Prop := v = .non ∨ ∃ t : Str, v = .str t ∧ t.length ≤ 3000 ∧ Sg t
theorem cutS_len (z : Str) (lo hi : Option Int) : (cutS z lo hi).length ≤ z.length := by
  show ((z.cps.toList.drop _).take _).toArray.size ≤ z.cps.size
  simp only [List.size_toArray, List.length_take, List.length_drop, Array.length_toList]
  omega
theorem cutS_lt {z : Str} (h : 2 ≤ z.length) : (cutS z (some 1) none).length < z.length := by
  show ((z.cps.toList.drop _).take _).toArray.size < z.cps.size
  have h2 : 2 ≤ z.cps.size := h
  have e : HT.sIx z.length 0 (some 1) = 1 := by
    rw [show (some (1 : Int)) = some ((1 : Nat) : Int) from rfl, HT.sIx_nat]
    have : z.length = z.cps.size := rfl
    omega
  simp only [List.size_toArray, List.length_take, List.length_drop, Array.length_toList, e]
  omega
theorem _root_.Xs.Kp.none {a p : Addr} {H H' : Hp} (h : Kp a H H') (n : p ≠ a) (e : H' p = none) : H p = none := by
  cases z : H p with
  | none => rfl
  | some o => rw [h p o n z] at e; cases e
end Da
set_option Elab.async false
set_option linter.all false
set_option maxRecDepth 100000
set_option maxHeartbeats 4000000
namespace Da
open PySem PySem.Spec PyProof.Rows L2 Hd Xs Fx Mi
open TL (tl)
def spFirst : Sp := fun vs H Q _ => match vs with
  | [.str t, .str s] => t.length ≤ (100000 : Nat) ∧ Q (.int (fo (tl t) (tl s) : Nat)) H
  | _ => False
def spOctet : Sp := fun vs H Q _ => match vs with
  | [.str t] => t.length ≤ (100000 : Nat) ∧ Q (.bl (hex2 (tl t))) H
  | _ => False
/-- a kind and a place, or None -/
def RW (H : Hp) (v : V) (o : KP) : Prop := match o with
  | none => v = .non
  | some (k, i) => ∃ q, v = .ref q ∧ H q = some (.tup [.str k, .int (i : Nat)])
def spWrong (f : T → KP) : Sp := fun vs H Q _ => match vs with
  | [.str t] => t.length ≤ (100000 : Nat) ∧ ∀ v H', Ext H H' → RW H' v (f (tl t)) → Q v H'
  | _ => False
theorem isIn_one (c : Nat) (b : Str) : isIn ⟨#[c]⟩ b = (tl b).contains c := by
  show decide (c ∈ tl b) = _
  simp
theorem tl_nil {t : Str} (h : tl t = []) : t = Str.ofString "" := TL.ext_tl h
theorem one_at {z : Str} {c : Nat} {r : List Nat} {K : PySem.W.Frag} {H : Hp} {Q : VK} (e : tl z = c :: r) (hz : z.length ≤ sizeLine) (q : Q (.str ⟨#[c]⟩) H) : hIx K (.str z) (.int 0) H Q := hIx_str hz (by rw [show z.cps.toList = c :: r from e]; exact atI_zero _ _) q
theorem two_at {z : Str} {c d : Nat} {r : List Nat} {K : PySem.W.Frag} {H : Hp} {Q : VK} (e : tl z = c :: d :: r) (hz : z.length ≤ sizeLine) (q : Q (.str ⟨#[d]⟩) H) : hIx K (.str z) (.int 1) H Q := hIx_str hz (by
  rw [show z.cps.toList = c :: d :: r from e]
  unfold atI ixN
  rw [if_pos (by decide), if_pos (by simp only [List.length_cons]; omega)]
  rfl) q
section
variable {P : Program} {w : World} {K : PySem.W.Frag} {mg : Str → Option Value} {base : Heap}
theorem ok__first_other (c : Ct w K mg) : OkF P w K mg base CX0 1 (He.ga K "_first_other") ["text", "signs"] (spFirst) := by
  obtain ⟨fd, F⟩ := F__first_other c
  refine ⟨fd, F.ok sc__first_other (fun vs H Q E h => ?_) (fun cdv A outer s H vs Q E hr h => ⟨_, PSs.nox ((pss_one (ps_ret (pe_op co_sub (pe_callB hc_len (by rfl) (b_len c) (by decide +kernel) (pa_cons (cv 0) pa_nil)) (pe_callB hc_len (by rfl) (b_len c) (by decide +kernel) (pa_cons (pe_m1 PySem.F.slot_str_lstrip PySem.F.type_str_lstrip cm_lstripChars (cv 0) (cv 1)) pa_nil)))))), ?_⟩), F.bindsN fun _ _ _ _ _ _ us hl => match us, hl with | [_, _], _ => rfl⟩
  · unfold spFirst at h
    split at h
    · rfl
    · exact h.elim
  · unfold spFirst at h
    split at h
    case h_2 => exact h.elim
    rename_i t s
    obtain ⟨ht, q⟩ := h
    have sl := sl
    (try simp only [tSeq, tNext, tIfS, tFor_eq, cBl, tOp, tC, cI, cIc, cAdd, cVar, hEq, hNe, hIn, hNotIn, hLen, hSl, tM1, tBM, cT1, cT1f, cFind3, cSplit, cPart, rNewStrs, hIsS, hTru, tAsg, gName, gSub, tRet, tRetN, tCons, tNil, tTup, tLst, tCB, tNot, tAnd, tNotV, tAndV, tOrV, tOr, V.bl.injEq, V.int.injEq, V.str.injEq, exists_eq_left', exists_eq_left, exists_eq', true_and, and_true, cIsN, L2.start, gTup, gCons, gNil, nox_K, cx_K, tCallF, tSl, tPart, tNoPart, iEnum, RZ.iZipA, iRng1, iRng2, cAbs, List.map_cons, List.map_nil, List.length_cons, List.length_nil, List.replicate, List.cons_append, List.nil_append, List.getElem?_cons_zero, List.getElem?_cons_succ, List.getElem?_nil, List.set_cons_zero, List.set_cons_succ, Nat.reduceAdd, Nat.reduceSub, Nat.zero_add, if_true, if_false, reduceIte, reduceCtorEq, Bool.false_eq_true, decide_eq_true_eq, tDrop, cMin2, cJoin, iList, tDNewK, tLc_eq, iStr, wipe])
    have e := lstrip_len t s
    have e2 : (Txt.lstripChars t s).length ≤ t.length := by omega
    refine ⟨by omega, by omega, by omega, ?_⟩
    rw [e]
    exact q
theorem ok_begins_with_octet (c : Ct w K mg) : OkF P w K mg base CX0 1 (He.ga K "begins_with_octet") ["text"] (spOctet) := by
  obtain ⟨fd, F⟩ := F_begins_with_octet c
  refine ⟨fd, F.ok sc_begins_with_octet (fun vs H Q E h => ?_) (fun cdv A outer s H vs Q E hr h => ⟨_, PSs.nox ((pss_one (ps_ret (pe_and (pe_cmpR co_gt (pe_callB hc_len (by rfl) (b_len c) (by decide +kernel) (pa_cons (cv 0) pa_nil)) pe_int (by rfl)) (pe_and (pe_cmpR ho_in (hix (cv 0) pe_int) (pe_glob rfl (c_HEXADECIMAL c).choose_spec.1 (c_HEXADECIMAL c).choose_spec.2) (by rfl)) (pe_one (pe_cmpR ho_in (hix (cv 0) pe_int) (pe_glob rfl (c_HEXADECIMAL c).choose_spec.1 (c_HEXADECIMAL c).choose_spec.2) (by rfl)))))))), ?_⟩), F.bindsN fun _ _ _ _ _ _ us hl => match us, hl with | [_], _ => rfl⟩
  · unfold spOctet at h
    split at h
    · rfl
    · exact h.elim
  · unfold spOctet at h
    split at h
    case h_2 => exact h.elim
    rename_i t
    obtain ⟨ht, q⟩ := h
    have sl := sl
    (try simp only [tSeq, tNext, tIfS, tFor_eq, cBl, tOp, tC, cI, cIc, cAdd, cVar, hEq, hNe, hIn, hNotIn, hLen, hSl, tM1, tBM, cT1, cT1f, cFind3, cSplit, cPart, rNewStrs, hIsS, hTru, tAsg, gName, gSub, tRet, tRetN, tCons, tNil, tTup, tLst, tCB, tNot, tAnd, tNotV, tAndV, tOrV, tOr, V.bl.injEq, V.int.injEq, V.str.injEq, exists_eq_left', exists_eq_left, exists_eq', true_and, and_true, cIsN, L2.start, gTup, gCons, gNil, nox_K, cx_K, tCallF, tSl, tPart, tNoPart, iEnum, RZ.iZipA, iRng1, iRng2, cAbs, List.map_cons, List.map_nil, List.length_cons, List.length_nil, List.replicate, List.cons_append, List.nil_append, List.getElem?_cons_zero, List.getElem?_cons_succ, List.getElem?_nil, List.set_cons_zero, List.set_cons_succ, Nat.reduceAdd, Nat.reduceSub, Nat.zero_add, if_true, if_false, reduceIte, reduceCtorEq, Bool.false_eq_true, decide_eq_true_eq, tDrop, cMin2, cJoin, iList, tDNewK, tLc_eq, iStr, wipe])
    refine ⟨by omega, ?_⟩
    have hl := TL.len_tl t
    rcases e : tl t with _ | ⟨c, _ | ⟨d, r⟩⟩
    · rw [e] at hl q
      rw [if_neg (by rw [hl]; decide)]
      exact q
    · rw [e] at hl q
      rw [if_neg (by rw [hl]; simp only [List.length_cons, List.length_nil]; omega)]
      exact q
    · rw [e] at hl q
      rw [if_pos (by rw [hl]; simp only [List.length_cons]; omega)]
      refine one_at e (by omega) ?_
      dsimp only
      rw [isIn_one]
      have q' : Q (.bl (HEXT.contains c && HEXT.contains d)) H := q
      cases hc : HEXT.contains c with
      | false =>
        rw [if_neg (by rw [show (tl (Str.ofString "0123456789ABCDEFabcdef")).contains c = HEXT.contains c from rfl, hc]; exact Bool.false_ne_true)]
        rw [hc] at q'
        exact q'
      | true =>
        rw [if_pos (show (tl (Str.ofString "0123456789ABCDEFabcdef")).contains c = true from hc)]
        refine two_at e (by omega) ?_
        dsimp only
        rw [isIn_one]
        rw [hc, Bool.true_and] at q'
        exact q'
theorem ok__wrong_in_scheme (c : Ct w K mg) : OkF P w K mg base CX0 2 (He.ga K "_wrong_in_scheme") ["text"] (spWrong wSch) := by
  obtain ⟨fd, F⟩ := F__wrong_in_scheme c
  refine ⟨fd, F.ok sc__wrong_in_scheme (fun vs H Q E h => ?_) (fun cdv A outer s H vs Q E hr h => ⟨_, PSs.nox ((pss_cons (ps_if (PW.pt (pw_or (ctc (ho_eq (hu64 hr)) (cv 0) pe_str (by rfl)) (pw_or1 (ctc ho_notIn (hix (cv 0) pe_int) (pe_glob rfl (c_LETTERS c).choose_spec.1 (c_LETTERS c).choose_spec.2) (by rfl))))) (pss_one (ps_ret (pe_tup (pa_cons pe_str (pa_cons pe_int pa_nil))))) pss_nil) (pss_cons (ps_set (i := 1) (sc__wrong_in_scheme).nd rfl (Or.inl rfl) (pf (ok__first_other c) (hr.mono (by decide)) (g__first_other c) (k__first_other c) pass0 (pa_cons (cv 0) (pa_cons (pe_op co_add (pe_op co_add (pe_glob rfl (c_LETTERS c).choose_spec.1 (c_LETTERS c).choose_spec.2) (pe_glob rfl (c_DIGITS c).choose_spec.1 (c_DIGITS c).choose_spec.2)) pe_str) pa_nil)))) (pss_one (ps_ret (pe_ifExp (ctc co_lt (cv 1) (pe_callB hc_len (by rfl) (b_len c) (by decide +kernel) (pa_cons (cv 0) pa_nil)) (by rfl)) (pe_tup (pa_cons pe_str (pa_cons (cv 1) pa_nil))) pe_non)))))), ?_⟩), F.bindsN fun _ _ _ _ _ _ us hl => match us, hl with | [_], _ => rfl⟩
  · unfold spWrong at h
    split at h
    · rfl
    · exact h.elim
  · unfold spWrong at h
    split at h
    case h_2 => exact h.elim
    rename_i t
    obtain ⟨ht, q⟩ := h
    have sl := sl
    (try simp only [tSeq, tNext, tIfS, tFor_eq, cBl, tOp, tC, cI, cIc, cAdd, cVar, hEq, hNe, hIn, hNotIn, hLen, hSl, tM1, tBM, cT1, cT1f, cFind3, cSplit, cPart, rNewStrs, hIsS, hTru, tAsg, gName, gSub, tRet, tRetN, tCons, tNil, tTup, tLst, tCB, tNot, tAnd, tNotV, tAndV, tOrV, tOr, V.bl.injEq, V.int.injEq, V.str.injEq, exists_eq_left', exists_eq_left, exists_eq', true_and, and_true, cIsN, L2.start, gTup, gCons, gNil, nox_K, cx_K, tCallF, tSl, tPart, tNoPart, iEnum, RZ.iZipA, iRng1, iRng2, cAbs, List.map_cons, List.map_nil, List.length_cons, List.length_nil, List.replicate, List.cons_append, List.nil_append, List.getElem?_cons_zero, List.getElem?_cons_succ, List.getElem?_nil, List.set_cons_zero, List.set_cons_succ, Nat.reduceAdd, Nat.reduceSub, Nat.zero_add, if_true, if_false, reduceIte, reduceCtorEq, Bool.false_eq_true, decide_eq_true_eq, tDrop, cMin2, cJoin, iList, tDNewK, tLc_eq, iStr, wipe])
    have hl := TL.len_tl t
    unfold wSch at q
    rcases e : tl t with _ | ⟨c, r⟩
    · rw [if_pos (tl_nil e)]
      refine ⟨by omega, fun p hp => q _ _ (Ext.rf.fresh hp) ?_⟩
      rw [e, if_pos (show badHead [] = true from rfl)]
      exact ⟨p, rfl, upd_self⟩
    · rw [e] at q
      rw [if_neg (fun z => by rw [z] at e; exact nomatch e)]
      refine one_at e (by omega) ?_
      dsimp only
      rw [isIn_one]
      cases hc : LETT.contains c with
      | false =>
        rw [if_pos (by rw [show (tl (Str.ofString "ABCDEFGHIJKLMNOPQRSTUVWXYZabcdefghijklmnopqrstuvwxyz")).contains c = LETT.contains c from rfl, hc]; rfl)]
        refine ⟨by omega, fun p hp => q _ _ (Ext.rf.fresh hp) ?_⟩
        rw [if_pos (by show (!LETT.contains c) = true; rw [hc]; rfl)]
        exact ⟨p, rfl, upd_self⟩
      | true =>
        rw [if_neg (by rw [show (tl (Str.ofString "ABCDEFGHIJKLMNOPQRSTUVWXYZabcdefghijklmnopqrstuvwxyz")).contains c = LETT.contains c from rfl, hc]; exact Bool.false_ne_true)]
        rw [if_neg (by show ¬ (!LETT.contains c) = true; rw [hc]; exact Bool.false_ne_true)] at q
        have eS : tl (Str.ofString "ABCDEFGHIJKLMNOPQRSTUVWXYZabcdefghijklmnopqrstuvwxyz" ++ Str.ofString "0123456789" ++ Str.ofString "+-.") = SCHT := by rw [TL.tl_append, TL.tl_append]; rfl
        refine ⟨Nat.le_trans (by decide) sl, Nat.le_trans (by rw [la]; decide) sl, ht, ?_⟩
        rw [eS, e]
        unfold tIf
        (try simp only [tSeq, tNext, tIfS, tFor_eq, cBl, tOp, tC, cI, cIc, cAdd, cVar, hEq, hNe, hIn, hNotIn, hLen, hSl, tM1, tBM, cT1, cT1f, cFind3, cSplit, cPart, rNewStrs, hIsS, hTru, tAsg, gName, gSub, tRet, tRetN, tCons, tNil, tTup, tLst, tCB, tNot, tAnd, tNotV, tAndV, tOrV, tOr, V.bl.injEq, V.int.injEq, V.str.injEq, exists_eq_left', exists_eq_left, exists_eq', true_and, and_true, cIsN, L2.start, gTup, gCons, gNil, nox_K, cx_K, tCallF, tSl, tPart, tNoPart, iEnum, RZ.iZipA, iRng1, iRng2, cAbs, List.map_cons, List.map_nil, List.length_cons, List.length_nil, List.replicate, List.cons_append, List.nil_append, List.getElem?_cons_zero, List.getElem?_cons_succ, List.getElem?_nil, List.set_cons_zero, List.set_cons_succ, Nat.reduceAdd, Nat.reduceSub, Nat.zero_add, if_true, if_false, reduceIte, reduceCtorEq, Bool.false_eq_true, decide_eq_true_eq, tDrop, cMin2, cJoin, iList, tDNewK, tLc_eq, iStr, wipe])
        refine ⟨by omega, ?_⟩
        rw [hl, e]
        by_cases hf : fo (c :: r) SCHT < (c :: r).length
        · rw [if_pos hf] at q
          rw [if_pos (by omega)]
          exact ⟨by omega, fun p hp => q _ _ (Ext.rf.fresh hp) ⟨p, rfl, upd_self⟩⟩
        · rw [if_neg hf] at q
          rw [if_neg (by omega)]
          exact q _ _ Ext.rf rfl
end
end Da
set_option Elab.async false
set_option linter.all false
set_option maxRecDepth 100000
set_option maxHeartbeats 4000000
namespace Da
open PySem PySem.Spec PyProof.Rows L2 Hd Xs Fx Mi
open TL (tl)
def spAmong : Sp := fun vs H Q _ => match vs with
  | [.str t, .str s] => t.length ≤ (100000 : Nat) ∧ ∀ v H', Ext H H' → RW H' v (wAm (tl s) 0 0 (cut 94 (tl t))) → Q v H'
  | _ => False
theorem cut_len (c : Nat) : ∀ (l p : T), p ∈ cut c l → p.length ≤ l.length
  | [], p, h => by
    rw [List.mem_singleton.mp (show p ∈ [[]] from h)]
    exact Nat.le_refl _
  | d :: r, p, h => by
    by_cases hd : d = c
    · subst hd
      rw [cut_hit] at h
      rcases List.mem_cons.mp h with e | h
      · rw [e]; exact Nat.zero_le _
      · have := cut_len d r p h
        simp only [List.length_cons]; omega
    · rw [cut_miss hd] at h
      cases e : cut c r with
      | nil => exact absurd e (cut_ne c r)
      | cons q qs =>
        rw [e] at h
        rcases List.mem_cons.mp h with e2 | h
        · have := cut_len c r q (by rw [e]; exact List.mem_cons_self ..)
          rw [e2]; simp only [List.length_cons]; omega
        · have := cut_len c r p (by rw [e]; exact List.mem_cons_of_mem _ h)
          simp only [List.length_cons]; omega
theorem wAm_cons (S : T) (k st : Nat) (p : T) (ps : List T) : wAm S k st (p :: ps) = if 0 < k ∧ hex2 p = false then some (kE, st - 1) else if fo p S < p.length then some (kS, st + fo p S) else wAm S (k + 1) (st + p.length + 1) ps := rfl
theorem hat_one : Str.ofString "^" = ⟨#[94]⟩ := TL.ext_tl (by decide +kernel)
section
variable {P : Program} {w : World} {K : PySem.W.Frag} {mg : Str → Option Value} {base : Heap}
theorem ok__wrong_among (c : Ct w K mg) : OkF P w K mg base CX0 2 (He.ga K "_wrong_among") ["text", "signs"] (spAmong) := by
  obtain ⟨fd, F⟩ := F__wrong_among c
  refine ⟨fd, F.ok sc__wrong_among (fun vs H Q E h => ?_) (fun cdv A outer s H vs Q E hr h => ⟨_, PSs.nox ((pss_cons (ps_set (i := 2) (sc__wrong_among).nd rfl (Or.inl rfl) pe_int) (pss_cons (ps_for PassesOwn.never rfl (pi_enum rfl (b_enumerate c) (pa_cons (pe_m1 PySem.F.slot_str_split PySem.F.type_str_split cm_split (cv 0) pe_str) pa_nil)) (pg_tup (n := 2) rfl (pgs_cons (pg_name (i := 3) (sc__wrong_among).nd rfl (Or.inl rfl)) (pgs_cons (pg_name (i := 4) (sc__wrong_among).nd rfl (Or.inl rfl)) pgs_nil))) (pss_cons (ps_if (PW.pt (pw_and (ctc co_gt (cv 3) pe_int (by rfl)) (pw_and1 (pt_not (ct (pf (ok_begins_with_octet c) (hr.mono (by decide)) (g_begins_with_octet c) (k_begins_with_octet c) pass0 (pa_cons (cv 4) pa_nil))))))) (pss_one (ps_ret (pe_tup (pa_cons pe_str (pa_cons (pe_op co_sub (cv 2) pe_int) pa_nil))))) pss_nil) (pss_cons (ps_set (i := 5) (sc__wrong_among).nd rfl (Or.inl rfl) (pf (ok__first_other c) (hr.mono (by decide)) (g__first_other c) (k__first_other c) pass0 (pa_cons (cv 4) (pa_cons (cv 1) pa_nil)))) (pss_cons (ps_if (ctc co_lt (cv 5) (pe_callB hc_len (by rfl) (b_len c) (by decide +kernel) (pa_cons (cv 4) pa_nil)) (by rfl)) (pss_one (ps_ret (pe_tup (pa_cons pe_str (pa_cons (pe_op co_add (cv 2) (cv 5)) pa_nil))))) pss_nil) (pss_one (ps_set (i := 2) (sc__wrong_among).nd rfl (Or.inl rfl) (pe_op co_add (pe_op co_add (cv 2) (pe_callB hc_len (by rfl) (b_len c) (by decide +kernel) (pa_cons (cv 4) pa_nil))) pe_int))))))) (pss_one (ps_ret pe_non))))), ?_⟩), F.bindsN fun _ _ _ _ _ _ us hl => match us, hl with | [_, _], _ => rfl⟩
  · unfold spAmong at h
    split at h
    · rfl
    · exact h.elim
  · unfold spAmong at h
    split at h
    case h_2 => exact h.elim
    rename_i t s0
    obtain ⟨ht, q⟩ := h
    have sl := sl
    (try simp only [tSeq, tNext, tIfS, tFor_eq, cBl, tOp, tC, cI, cIc, cAdd, cVar, hEq, hNe, hIn, hNotIn, hLen, hSl, tM1, tBM, cT1, cT1f, cFind3, cSplit, cPart, rNewStrs, hIsS, hTru, tAsg, gName, gSub, tRet, tRetN, tCons, tNil, tTup, tLst, tCB, tNot, tAnd, tNotV, tAndV, tOrV, tOr, V.bl.injEq, V.int.injEq, V.str.injEq, exists_eq_left', exists_eq_left, exists_eq', true_and, and_true, cIsN, L2.start, gTup, gCons, gNil, nox_K, cx_K, tCallF, tSl, tPart, tNoPart, iEnum, RZ.iZipA, iRng1, iRng2, cAbs, List.map_cons, List.map_nil, List.length_cons, List.length_nil, List.replicate, List.cons_append, List.nil_append, List.getElem?_cons_zero, List.getElem?_cons_succ, List.getElem?_nil, List.set_cons_zero, List.set_cons_succ, Nat.reduceAdd, Nat.reduceSub, Nat.zero_add, if_true, if_false, reduceIte, reduceCtorEq, Bool.false_eq_true, decide_eq_true_eq, tDrop, cMin2, cJoin, iList, tDNewK, tLc_eq, iStr, wipe])
    refine ⟨rfl, by omega, fun p hp => ⟨p, _, rfl, .inl (Rd.of upd_self), ?_⟩⟩
    have hsp := split_cut t 94 (by decide)
    rw [← hat_one] at hsp
    generalize hys : Txt.split t (Str.ofString "^") = ys at *
    rw [← hsp] at q
    have hlen : ∀ y ∈ ys, y.length ≤ (100000 : Nat) := fun y hy => by
      have := cut_len 94 (tl t) (tl y) (by rw [← hsp]; exact List.mem_map.mpr ⟨y, hy, rfl⟩)
      rw [TL.len_tl] at ht ⊢
      omega
    refine lp_enum (xs := ys.map V.str) (fun k σ H' => ∃ (st : Nat) (u3 u4 u5 : Option V), σ = [some (.str t), some (.str s0), some (.int (st : Nat)), u3, u4, u5] ∧ (0 < k → 1 ≤ st) ∧ Ext (upd H p (.lst (ys.map V.str))) H' ∧ wAm (tl s0) 0 0 (ys.map tl) = wAm (tl s0) k st ((ys.drop k).map tl)) ⟨0, _, _, _, rfl, fun h => absurd h (Nat.lt_irrefl 0), Ext.rf, rfl⟩ ?_ ?_ ?_
    · rintro k σ H' _ ⟨st, u3, u4, u5, _, _, he, _⟩
      exact .inl (Rd.of (he _ _ upd_self))
    · rintro k x σ H' T hx ⟨st, u3, u4, u5, rfl, h1, he, hw⟩ hT
      obtain ⟨y, hy, rfl⟩ : ∃ y, ys[k]? = some y ∧ V.str y = x := by
        rw [List.getElem?_map] at hx
        cases e : ys[k]? with
        | none => rw [e] at hx; cases hx
        | some y => rw [e] at hx; exact ⟨y, rfl, Option.some.inj hx⟩
      have hym := List.mem_of_getElem? hy
      have hd : ys.drop k = y :: ys.drop (k + 1) := by
        obtain ⟨hk, e⟩ := List.getElem?_eq_some_iff.mp hy
        rw [List.drop_eq_getElem_cons hk, e]
      rw [hd, List.map_cons, wAm_cons] at hw
      have hx0 := (Ext.rf.fresh hp).tr he |>.fresh (o := .tup [.int (k : Nat), .str y]) hT
      (try simp only [tNext, tFor_eq, cBl, tOp, tC, cI, cIc, cAdd, cVar, hEq, hNe, hIn, hNotIn, hLen, hSl, tM1, tBM, cT1, cT1f, cFind3, cSplit, cPart, rNewStrs, hIsS, hTru, tAsg, gName, gSub, tRet, tRetN, tCons, tNil, tTup, tLst, tCB, tNot, tAnd, tNotV, tAndV, tOrV, tOr, V.bl.injEq, V.int.injEq, V.str.injEq, exists_eq_left', exists_eq_left, exists_eq', true_and, and_true, cIsN, L2.start, gTup, gCons, gNil, nox_K, cx_K, tCallF, tSl, tPart, tNoPart, iEnum, RZ.iZipA, iRng1, iRng2, cAbs, List.map_cons, List.map_nil, List.length_cons, List.length_nil, List.replicate, List.cons_append, List.nil_append, List.getElem?_cons_zero, List.getElem?_cons_succ, List.getElem?_nil, List.set_cons_zero, List.set_cons_succ, Nat.reduceAdd, Nat.reduceSub, Nat.zero_add, if_true, if_false, reduceIte, reduceCtorEq, Bool.false_eq_true, decide_eq_true_eq, tDrop, cMin2, cJoin, iList, tDNewK, tLc_eq, iStr, wipe])
      refine ⟨_, _, rfl, .inl (Rd.of upd_self), rfl, _, _, rfl, _, _, rfl, rfl, ?_⟩
      (try simp only [tNext, tFor_eq, cBl, tOp, tC, cI, cIc, cAdd, cVar, hEq, hNe, hIn, hNotIn, hLen, hSl, tM1, tBM, cT1, cT1f, cFind3, cSplit, cPart, rNewStrs, hIsS, hTru, tAsg, gName, gSub, tRet, tRetN, tCons, tNil, tTup, tLst, tCB, tNot, tAnd, tNotV, tAndV, tOrV, tOr, V.bl.injEq, V.int.injEq, V.str.injEq, exists_eq_left', exists_eq_left, exists_eq', true_and, and_true, cIsN, L2.start, gTup, gCons, gNil, nox_K, cx_K, tCallF, tSl, tPart, tNoPart, iEnum, RZ.iZipA, iRng1, iRng2, cAbs, List.map_cons, List.map_nil, List.length_cons, List.length_nil, List.replicate, List.cons_append, List.nil_append, List.getElem?_cons_zero, List.getElem?_cons_succ, List.getElem?_nil, List.set_cons_zero, List.set_cons_succ, Nat.reduceAdd, Nat.reduceSub, Nat.zero_add, if_true, if_false, reduceIte, reduceCtorEq, Bool.false_eq_true, decide_eq_true_eq, tDrop, cMin2, cJoin, iList, tDNewK, tLc_eq, iStr, wipe])
      have hyl := hlen y hym
      have hyt := TL.len_tl y
      refine seqCps (fun σ H2 => σ = [some (.str t), some (.str s0), some (.int (st : Nat)), some (.int (k : Nat)), some (.str y), u5] ∧ H2 = upd H' T (.tup [.int (k : Nat), .str y]) ∧ ¬ (0 < k ∧ hex2 (tl y) = false)) (fun Nx hN => ?_) ?_
      · (try simp only [tSeq, tNext, tIfS, tFor_eq, cBl, tOp, tC, cI, cIc, cAdd, cVar, hEq, hNe, hIn, hNotIn, hLen, hSl, tM1, tBM, cT1, cT1f, cFind3, cSplit, cPart, rNewStrs, hIsS, hTru, tAsg, gName, gSub, tRet, tRetN, tCons, tNil, tTup, tLst, tCB, tNot, tAnd, tNotV, tAndV, tOrV, tOr, V.bl.injEq, V.int.injEq, V.str.injEq, exists_eq_left', exists_eq_left, exists_eq', true_and, and_true, cIsN, L2.start, gTup, gCons, gNil, nox_K, cx_K, tCallF, tSl, tPart, tNoPart, iEnum, RZ.iZipA, iRng1, iRng2, cAbs, List.map_cons, List.map_nil, List.length_cons, List.length_nil, List.replicate, List.cons_append, List.nil_append, List.getElem?_cons_zero, List.getElem?_cons_succ, List.getElem?_nil, List.set_cons_zero, List.set_cons_succ, Nat.reduceAdd, Nat.reduceSub, Nat.zero_add, if_true, if_false, reduceIte, reduceCtorEq, Bool.false_eq_true, decide_eq_true_eq, tDrop, cMin2, cJoin, iList, tDNewK, tLc_eq, iStr, wipe])
        by_cases hk : 0 < k
        · rw [if_pos (by omega)]
          refine ⟨hyl, ?_⟩
          cases hx2 : hex2 (tl y) with
          | true =>
            exact hN _ _ ⟨rfl, rfl, fun z => by rw [hx2] at z; exact Bool.false_ne_true z.2.symm⟩
          | false =>
            refine ⟨by omega, fun r hr => q _ _ (hx0.fresh hr) ?_⟩
            rw [hw, if_pos ⟨hk, hx2⟩]
            have h1 := h1 hk
            have e : ((st : Nat) : Int) - 1 = ((st - 1 : Nat) : Int) := by omega
            rw [e]
            exact ⟨r, rfl, upd_self⟩
        · rw [if_neg (by omega)]
          exact hN _ _ ⟨rfl, rfl, fun z => hk z.1⟩
      · rintro σ H2 ⟨rfl, rfl, hn⟩
        rw [if_neg hn] at hw
        (try simp only [tSeq, tNext, tIfS, tFor_eq, cBl, tOp, tC, cI, cIc, cAdd, cVar, hEq, hNe, hIn, hNotIn, hLen, hSl, tM1, tBM, cT1, cT1f, cFind3, cSplit, cPart, rNewStrs, hIsS, hTru, tAsg, gName, gSub, tRet, tRetN, tCons, tNil, tTup, tLst, tCB, tNot, tAnd, tNotV, tAndV, tOrV, tOr, V.bl.injEq, V.int.injEq, V.str.injEq, exists_eq_left', exists_eq_left, exists_eq', true_and, and_true, cIsN, L2.start, gTup, gCons, gNil, nox_K, cx_K, tCallF, tSl, tPart, tNoPart, iEnum, RZ.iZipA, iRng1, iRng2, cAbs, List.map_cons, List.map_nil, List.length_cons, List.length_nil, List.replicate, List.cons_append, List.nil_append, List.getElem?_cons_zero, List.getElem?_cons_succ, List.getElem?_nil, List.set_cons_zero, List.set_cons_succ, Nat.reduceAdd, Nat.reduceSub, Nat.zero_add, if_true, if_false, reduceIte, reduceCtorEq, Bool.false_eq_true, decide_eq_true_eq, tDrop, cMin2, cJoin, iList, tDNewK, tLc_eq, iStr, wipe])
        refine ⟨hyl, by omega, ?_⟩
        (try simp only [tSeq, tNext, tIfS, tFor_eq, cBl, tOp, tC, cI, cIc, cAdd, cVar, hEq, hNe, hIn, hNotIn, hLen, hSl, tM1, tBM, cT1, cT1f, cFind3, cSplit, cPart, rNewStrs, hIsS, hTru, tAsg, gName, gSub, tRet, tRetN, tCons, tNil, tTup, tLst, tCB, tNot, tAnd, tNotV, tAndV, tOrV, tOr, V.bl.injEq, V.int.injEq, V.str.injEq, exists_eq_left', exists_eq_left, exists_eq', true_and, and_true, cIsN, L2.start, gTup, gCons, gNil, nox_K, cx_K, tCallF, tSl, tPart, tNoPart, iEnum, RZ.iZipA, iRng1, iRng2, cAbs, List.map_cons, List.map_nil, List.length_cons, List.length_nil, List.replicate, List.cons_append, List.nil_append, List.getElem?_cons_zero, List.getElem?_cons_succ, List.getElem?_nil, List.set_cons_zero, List.set_cons_succ, Nat.reduceAdd, Nat.reduceSub, Nat.zero_add, if_true, if_false, reduceIte, reduceCtorEq, Bool.false_eq_true, decide_eq_true_eq, tDrop, cMin2, cJoin, iList, tDNewK, tLc_eq, iStr, wipe])
        rw [hyt]
        by_cases hf : fo (tl y) (tl s0) < (tl y).length
        · rw [if_pos (by omega)]
          refine ⟨by omega, fun r hr => q _ _ (hx0.fresh hr) ?_⟩
          rw [hw, if_pos hf]
          exact ⟨r, rfl, upd_self⟩
        · rw [if_neg (by omega)]
          refine ⟨by omega, st + (tl y).length + 1, _, _, _, rfl, fun _ => by omega, he.fresh hT, ?_⟩
          rw [hw, if_neg hf]
    · rintro σ H' ⟨st, u3, u4, u5, rfl, h1, he, hw⟩
      (try simp only [tSeq, tNext, tIfS, tFor_eq, cBl, tOp, tC, cI, cIc, cAdd, cVar, hEq, hNe, hIn, hNotIn, hLen, hSl, tM1, tBM, cT1, cT1f, cFind3, cSplit, cPart, rNewStrs, hIsS, hTru, tAsg, gName, gSub, tRet, tRetN, tCons, tNil, tTup, tLst, tCB, tNot, tAnd, tNotV, tAndV, tOrV, tOr, V.bl.injEq, V.int.injEq, V.str.injEq, exists_eq_left', exists_eq_left, exists_eq', true_and, and_true, cIsN, L2.start, gTup, gCons, gNil, nox_K, cx_K, tCallF, tSl, tPart, tNoPart, iEnum, RZ.iZipA, iRng1, iRng2, cAbs, List.map_cons, List.map_nil, List.length_cons, List.length_nil, List.replicate, List.cons_append, List.nil_append, List.getElem?_cons_zero, List.getElem?_cons_succ, List.getElem?_nil, List.set_cons_zero, List.set_cons_succ, Nat.reduceAdd, Nat.reduceSub, Nat.zero_add, if_true, if_false, reduceIte, reduceCtorEq, Bool.false_eq_true, decide_eq_true_eq, tDrop, cMin2, cJoin, iList, tDNewK, tLc_eq, iStr, wipe])
      refine q _ _ ((Ext.rf.fresh hp).tr he) ?_
      rw [hw, List.length_map, List.drop_length]
      rfl
end
end Da
set_option Elab.async false
set_option linter.all false
set_option maxRecDepth 100000
set_option maxHeartbeats 4000000
namespace Da
open PySem PySem.Spec PyProof.Rows L2 Hd Xs Fx Mi
open TL (tl)
theorem digt : DIGT = [48, 49, 50, 51, 52, 53, 54, 55, 56, 57] := by decide +kernel
theorem dig_iff {c : Nat} (h : DIGT.contains c = true) : 48 ≤ c ∧ c ≤ 57 := by
  rw [digt] at h
  simp only [List.contains_cons, List.contains_nil, Bool.or_false, Bool.or_eq_true, beq_iff_eq] at h
  omega
theorem fo_all {l S : T} (h : fo l S = l.length) : ∀ c ∈ l, S.contains c = true := by
  intro c hc
  obtain ⟨i, hi, e⟩ := List.mem_iff_getElem.mp hc
  obtain ⟨d, h1, h2⟩ := fo_before (l := l) (S := S) (i := i) (by omega)
  rw [List.getElem?_eq_getElem hi] at h1
  rw [← e, Option.some.inj h1]
  exact h2
theorem cut0 (z : Str) (n : Nat) : tl (cutS z none (some (n : Int))) = (tl z).take n := by
  show ((tl z).drop (HT.sIx z.length 0 none)).take _ = _
  rw [HT.sIx_nat, HT.sIx_none, List.drop_zero, Nat.sub_zero]
  rw [TL.len_tl]
  by_cases h : n ≤ (tl z).length
  · rw [Nat.min_eq_left h]
  · rw [Nat.min_eq_right (by omega), List.take_of_length_le (Nat.le_refl _), List.take_of_length_le (by omega)]
theorem cutN (z : Str) (n : Nat) : tl (cutS z (some (n : Int)) none) = (tl z).drop n := by
  show ((tl z).drop (HT.sIx z.length 0 (some (n : Int)))).take _ = _
  rw [HT.sIx_nat, HT.sIx_none, TL.len_tl]
  rw [List.take_of_length_le (by rw [List.length_drop]; exact Nat.le_refl _)]
  by_cases h : n ≤ (tl z).length
  · rw [Nat.min_eq_left h]
  · rw [Nat.min_eq_right (by omega), List.drop_length, List.drop_of_length_le (by omega)]
theorem cutMN (z : Str) (m n : Nat) : tl (cutS z (some (m : Int)) (some (n : Int))) = ((tl z).drop m).take (n - m) := by
  show ((tl z).drop (HT.sIx z.length 0 (some (m : Int)))).take _ = _
  rw [HT.sIx_nat, HT.sIx_nat, TL.len_tl]
  by_cases h : m ≤ (tl z).length
  · rw [Nat.min_eq_left h]
    by_cases h2 : n ≤ (tl z).length
    · rw [Nat.min_eq_left h2]
    · rw [Nat.min_eq_right (by omega)]
      rw [List.take_of_length_le (by rw [List.length_drop]; exact Nat.le_refl _), List.take_of_length_le (by rw [List.length_drop]; omega)]
  · have e : ∀ k : Nat, (List.drop (min m (tl z).length) (tl z)).take k = [] := fun k => by
      rw [show min m (tl z).length = (tl z).length by omega, List.drop_length, List.take_nil]
    rw [e, List.drop_of_length_le (by omega), List.take_nil]
section
variable {P : Program} {w : World} {K : PySem.W.Frag} {mg : Str → Option Value} {base : Heap}
theorem ok__wrong_in_port (c : Ct w K mg) : OkF P w K mg base CX0 2 (He.ga K "_wrong_in_port") ["text"] (spWrong wPort) := by
  obtain ⟨fd, F⟩ := F__wrong_in_port c
  refine ⟨fd, F.ok sc__wrong_in_port (fun vs H Q E h => ?_) (fun cdv A outer s H vs Q E hr h => ⟨_, PSs.nox ((pss_cons (ps_set (i := 1) (sc__wrong_in_port).nd rfl (Or.inl rfl) (pf (ok__first_other c) (hr.mono (by decide)) (g__first_other c) (k__first_other c) pass0 (pa_cons (pe_slice hs_any (cv 0) po_none (po_some (pe_glob rfl (c_PORT_DIGITS c).choose_spec.1 (c_PORT_DIGITS c).choose_spec.2))) (pa_cons (pe_glob rfl (c_DIGITS c).choose_spec.1 (c_DIGITS c).choose_spec.2) pa_nil)))) (pss_cons (ps_if (PW.pt (pw_and (ctc (ho_eq (hu64 hr)) (cv 1) (pe_glob rfl (c_PORT_DIGITS c).choose_spec.1 (c_PORT_DIGITS c).choose_spec.2) (by rfl)) (pw_and1 (ctc co_gt (pe_callTy call_int_str (by rfl) (b_int c) (by decide +kernel) (pa_cons (pe_slice hs_any (cv 0) po_none (po_some (pe_glob rfl (c_PORT_DIGITS c).choose_spec.1 (c_PORT_DIGITS c).choose_spec.2))) pa_nil)) (pe_glob rfl (c_GREATEST_PORT c).choose_spec.1 (c_GREATEST_PORT c).choose_spec.2) (by rfl))))) (pss_one (ps_ret (pe_tup (pa_cons pe_str (pa_cons pe_int pa_nil))))) pss_nil) (pss_one (ps_ret (pe_ifExp (ctc co_lt (cv 1) (pe_callB hc_len (by rfl) (b_len c) (by decide +kernel) (pa_cons (cv 0) pa_nil)) (by rfl)) (pe_tup (pa_cons pe_str (pa_cons (cv 1) pa_nil))) pe_non)))))), ?_⟩), F.bindsN fun _ _ _ _ _ _ us hl => match us, hl with | [_], _ => rfl⟩
  · unfold spWrong at h
    split at h
    · rfl
    · exact h.elim
  · unfold spWrong at h
    split at h
    case h_2 => exact h.elim
    rename_i t
    obtain ⟨ht, q⟩ := h
    have sl := sl
    have c5 := cut0 t 5
    have c5l := cutS_len t none (some 5)
    have eD : tl (Str.ofString "0123456789") = DIGT := rfl
    have hl := TL.len_tl t
    unfold wPort at q
    (try simp only [tSeq, tNext, tIfS, tFor_eq, cBl, tOp, tC, cI, cIc, cAdd, cVar, hEq, hNe, hIn, hNotIn, hLen, hSl, tM1, tBM, cT1, cT1f, cFind3, cSplit, cPart, rNewStrs, hIsS, hTru, tAsg, gName, gSub, tRet, tRetN, tCons, tNil, tTup, tLst, tCB, tNot, tAnd, tNotV, tAndV, tOrV, tOr, V.bl.injEq, V.int.injEq, V.str.injEq, exists_eq_left', exists_eq_left, exists_eq', true_and, and_true, cIsN, L2.start, gTup, gCons, gNil, nox_K, cx_K, tCallF, tSl, tPart, tNoPart, iEnum, RZ.iZipA, iRng1, iRng2, cAbs, List.map_cons, List.map_nil, List.length_cons, List.length_nil, List.replicate, List.cons_append, List.nil_append, List.getElem?_cons_zero, List.getElem?_cons_succ, List.getElem?_nil, List.set_cons_zero, List.set_cons_succ, Nat.reduceAdd, Nat.reduceSub, Nat.zero_add, if_true, if_false, reduceIte, reduceCtorEq, Bool.false_eq_true, decide_eq_true_eq, tDrop, cMin2, cJoin, iList, tDNewK, tLc_eq, iStr, wipe])
    rw [show (some (5 : Int)) = some ((5 : Nat) : Int) from rfl] at *
    refine ⟨by omega, by omega, ?_⟩
    rw [c5, eD]
    (try simp only [tSeq, tNext, tIfS, tFor_eq, cBl, tOp, tC, cI, cIc, cAdd, cVar, hEq, hNe, hIn, hNotIn, hLen, hSl, tM1, tBM, cT1, cT1f, cFind3, cSplit, cPart, rNewStrs, hIsS, hTru, tAsg, gName, gSub, tRet, tRetN, tCons, tNil, tTup, tLst, tCB, tNot, tAnd, tNotV, tAndV, tOrV, tOr, V.bl.injEq, V.int.injEq, V.str.injEq, exists_eq_left', exists_eq_left, exists_eq', true_and, and_true, cIsN, L2.start, gTup, gCons, gNil, nox_K, cx_K, tCallF, tSl, tPart, tNoPart, iEnum, RZ.iZipA, iRng1, iRng2, cAbs, List.map_cons, List.map_nil, List.length_cons, List.length_nil, List.replicate, List.cons_append, List.nil_append, List.getElem?_cons_zero, List.getElem?_cons_succ, List.getElem?_nil, List.set_cons_zero, List.set_cons_succ, Nat.reduceAdd, Nat.reduceSub, Nat.zero_add, if_true, if_false, reduceIte, reduceCtorEq, Bool.false_eq_true, decide_eq_true_eq, tDrop, cMin2, cJoin, iList, tDNewK, tLc_eq, iStr, wipe])
    have fin : (∀ v H', Ext H H' → RW H' v (if fo (List.take 5 (tl t)) DIGT < (tl t).length then some (kP, fo (List.take 5 (tl t)) DIGT) else none) → Q v H') →
        tIf (cBl (tOp (cI fun i j => V.bl (decide (i < j))) (cVar 1) (tCB (hLen K) (tCons (cVar 0) tNil))))
          (tTup (tCons (tC (V.str (Str.ofString "port"))) (tCons (cVar 1) tNil))) (tC V.non)
          [some (V.str t), some (V.int (fo (List.take 5 (tl t)) DIGT : Nat))] H Q := fun q => by
      unfold tIf
      (try simp only [tSeq, tNext, tIfS, tFor_eq, cBl, tOp, tC, cI, cIc, cAdd, cVar, hEq, hNe, hIn, hNotIn, hLen, hSl, tM1, tBM, cT1, cT1f, cFind3, cSplit, cPart, rNewStrs, hIsS, hTru, tAsg, gName, gSub, tRet, tRetN, tCons, tNil, tTup, tLst, tCB, tNot, tAnd, tNotV, tAndV, tOrV, tOr, V.bl.injEq, V.int.injEq, V.str.injEq, exists_eq_left', exists_eq_left, exists_eq', true_and, and_true, cIsN, L2.start, gTup, gCons, gNil, nox_K, cx_K, tCallF, tSl, tPart, tNoPart, iEnum, RZ.iZipA, iRng1, iRng2, cAbs, List.map_cons, List.map_nil, List.length_cons, List.length_nil, List.replicate, List.cons_append, List.nil_append, List.getElem?_cons_zero, List.getElem?_cons_succ, List.getElem?_nil, List.set_cons_zero, List.set_cons_succ, Nat.reduceAdd, Nat.reduceSub, Nat.zero_add, if_true, if_false, reduceIte, reduceCtorEq, Bool.false_eq_true, decide_eq_true_eq, tDrop, cMin2, cJoin, iList, tDNewK, tLc_eq, iStr, wipe])
      refine ⟨by omega, ?_⟩
      rw [hl]
      by_cases hf : fo (List.take 5 (tl t)) DIGT < (tl t).length
      · rw [if_pos hf] at q
        rw [if_pos (by omega)]
        exact ⟨by omega, fun p hp => q _ _ (Ext.rf.fresh hp) ⟨p, rfl, upd_self⟩⟩
      · rw [if_neg hf] at q
        rw [if_neg (by omega)]
        exact q _ _ Ext.rf rfl
    by_cases h5 : fo (List.take 5 (tl t)) DIGT = 5
    · rw [if_pos (by omega)]
      have hle := fo_le (List.take 5 (tl t)) DIGT
      have hle2 : (List.take 5 (tl t)).length ≤ 5 := by rw [List.length_take]; omega
      have had := fo_all (l := List.take 5 (tl t)) (S := DIGT) (by omega)
      have hi := PySem.intText_digits (x := cutS t none (some ((5 : Nat) : Int))) (by rw [show (cutS t none (some ((5 : Nat) : Int))).cps.toList = List.take 5 (tl t) from c5]; exact fun d hd => dig_iff (had d hd))
        (by rw [show (cutS t none (some ((5 : Nat) : Int))).cps.toList = List.take 5 (tl t) from c5]; intro z; rw [z] at h5; exact absurd h5 (by decide)) (by rw [TL.len_tl, c5]; omega)
      rw [show (cutS t none (some ((5 : Nat) : Int))).cps.toList = List.take 5 (tl t) from c5] at hi
      refine ⟨by omega, _, _, rfl, hi, by rw [TL.len_tl, c5]; omega, ?_⟩
      have ev : NumText.digitsVal (List.take 5 (tl t)) = val5 (List.take 5 (tl t)) := rfl
      rw [ev]
      by_cases hv : 65535 < val5 (List.take 5 (tl t))
      · rw [if_pos ⟨h5, hv⟩] at q
        rw [if_pos (by omega)]
        exact ⟨by omega, fun p hp => q _ _ (Ext.rf.fresh hp) ⟨p, rfl, upd_self⟩⟩
      · rw [if_neg (fun z => hv z.2)] at q
        rw [if_neg (by omega)]
        exact fin q
    · rw [if_neg (by omega)]
      rw [if_neg (fun z => h5 z.1)] at q
      exact fin q
theorem ok__wrong_in_brackets (c : Ct w K mg) : OkF P w K mg base CX0 2 (He.ga K "_wrong_in_brackets") ["host"] (spWrong wBr) := by
  obtain ⟨fd, F⟩ := F__wrong_in_brackets c
  refine ⟨fd, F.ok sc__wrong_in_brackets (fun vs H Q E h => ?_) (fun cdv A outer s H vs Q E hr h => ⟨_, PSs.nox ((pss_cons (ps_set (i := 1) (sc__wrong_in_brackets).nd rfl (Or.inl rfl) (pe_op co_add pe_int (pf (ok__first_other c) (hr.mono (by decide)) (g__first_other c) (k__first_other c) pass0 (pa_cons (pe_slice hs_any (cv 0) (po_some pe_int) po_none) (pa_cons (pe_op co_add (pe_glob rfl (c_HEXADECIMAL c).choose_spec.1 (c_HEXADECIMAL c).choose_spec.2) pe_str) pa_nil))))) (pss_cons (ps_if (PW.pt (pw_or (ctc (ho_eq (hu64 hr)) (cv 1) pe_int (by rfl)) (pw_or1 (ctc (ho_ne (hu64 hr)) (pe_slice hs_any (cv 0) (po_some (cv 1)) (po_some (pe_op co_add (cv 1) pe_int))) pe_str (by rfl))))) (pss_one (ps_ret (pe_tup (pa_cons pe_str (pa_cons (cv 1) pa_nil))))) pss_nil) (pss_one (ps_ret (pe_ifExp (ctc co_lt (pe_op co_add (cv 1) pe_int) (pe_callB hc_len (by rfl) (b_len c) (by decide +kernel) (pa_cons (cv 0) pa_nil)) (by rfl)) (pe_tup (pa_cons pe_str (pa_cons (pe_op co_add (cv 1) pe_int) pa_nil))) pe_non)))))), ?_⟩), F.bindsN fun _ _ _ _ _ _ us hl => match us, hl with | [_], _ => rfl⟩
  · unfold spWrong at h
    split at h
    · rfl
    · exact h.elim
  · unfold spWrong at h
    split at h
    case h_2 => exact h.elim
    rename_i t
    obtain ⟨ht, q⟩ := h
    have sl := sl
    have hl := TL.len_tl t
    unfold wBr at q
    (try simp only [tSeq, tNext, tIfS, tFor_eq, cBl, tOp, tC, cI, cIc, cAdd, cVar, hEq, hNe, hIn, hNotIn, hLen, hSl, tM1, tBM, cT1, cT1f, cFind3, cSplit, cPart, rNewStrs, hIsS, hTru, tAsg, gName, gSub, tRet, tRetN, tCons, tNil, tTup, tLst, tCB, tNot, tAnd, tNotV, tAndV, tOrV, tOr, V.bl.injEq, V.int.injEq, V.str.injEq, exists_eq_left', exists_eq_left, exists_eq', true_and, and_true, cIsN, L2.start, gTup, gCons, gNil, nox_K, cx_K, tCallF, tSl, tPart, tNoPart, iEnum, RZ.iZipA, iRng1, iRng2, cAbs, List.map_cons, List.map_nil, List.length_cons, List.length_nil, List.replicate, List.cons_append, List.nil_append, List.getElem?_cons_zero, List.getElem?_cons_succ, List.getElem?_nil, List.set_cons_zero, List.set_cons_succ, Nat.reduceAdd, Nat.reduceSub, Nat.zero_add, if_true, if_false, reduceIte, reduceCtorEq, Bool.false_eq_true, decide_eq_true_eq, tDrop, cMin2, cJoin, iList, tDNewK, tLc_eq, iStr, wipe])
    have c1 := cutN t 1
    have c1l := cutS_len t (some 1) none
    rw [show (some (1 : Int)) = some ((1 : Nat) : Int) from rfl] at *
    have eB : tl (Str.ofString "0123456789ABCDEFabcdef" ++ Str.ofString ":.") = BRKT := by rw [TL.tl_append]; rfl
    have eR : tl (Str.ofString "]") = [93] := by decide +kernel
    refine ⟨by omega, Nat.le_trans (by decide) sl, by omega, ?_⟩
    rw [c1, eB]
    (try simp only [tSeq, tNext, tIfS, tFor_eq, cBl, tOp, tC, cI, cIc, cAdd, cVar, hEq, hNe, hIn, hNotIn, hLen, hSl, tM1, tBM, cT1, cT1f, cFind3, cSplit, cPart, rNewStrs, hIsS, hTru, tAsg, gName, gSub, tRet, tRetN, tCons, tNil, tTup, tLst, tCB, tNot, tAnd, tNotV, tAndV, tOrV, tOr, V.bl.injEq, V.int.injEq, V.str.injEq, exists_eq_left', exists_eq_left, exists_eq', true_and, and_true, cIsN, L2.start, gTup, gCons, gNil, nox_K, cx_K, tCallF, tSl, tPart, tNoPart, iEnum, RZ.iZipA, iRng1, iRng2, cAbs, List.map_cons, List.map_nil, List.length_cons, List.length_nil, List.replicate, List.cons_append, List.nil_append, List.getElem?_cons_zero, List.getElem?_cons_succ, List.getElem?_nil, List.set_cons_zero, List.set_cons_succ, Nat.reduceAdd, Nat.reduceSub, Nat.zero_add, if_true, if_false, reduceIte, reduceCtorEq, Bool.false_eq_true, decide_eq_true_eq, tDrop, cMin2, cJoin, iList, tDNewK, tLc_eq, iStr, wipe])
    generalize fo (List.drop 1 (tl t)) BRKT = n at *
    have e1 : (1 : Int) + (n : Nat) = ((1 + n : Nat) : Int) := by omega
    have e2 : (1 : Int) + (n : Nat) + 1 = ((1 + n + 1 : Nat) : Int) := by omega
    rw [e2, e1]
    by_cases hn : n = 0
    · rw [if_pos (.inl hn)] at q
      rw [if_pos (by omega)]
      exact ⟨by omega, fun p hp => q _ _ (Ext.rf.fresh hp) ⟨p, rfl, upd_self⟩⟩
    · rw [if_neg (by omega)]
      refine ⟨by omega, ?_⟩
      have c2 := cutMN t (1 + n) (1 + n + 1)
      rw [show 1 + n + 1 - (1 + n) = 1 by omega] at c2
      by_cases hb : List.take 1 (List.drop (1 + n) (tl t)) = [93]
      · rw [if_neg (fun z => z.elim hn (fun z => z hb))] at q
        rw [if_neg (fun z => z (TL.ext_tl (by rw [c2, hb, eR])))]
        unfold tIf
        (try simp only [tSeq, tNext, tIfS, tFor_eq, cBl, tOp, tC, cI, cIc, cAdd, cVar, hEq, hNe, hIn, hNotIn, hLen, hSl, tM1, tBM, cT1, cT1f, cFind3, cSplit, cPart, rNewStrs, hIsS, hTru, tAsg, gName, gSub, tRet, tRetN, tCons, tNil, tTup, tLst, tCB, tNot, tAnd, tNotV, tAndV, tOrV, tOr, V.bl.injEq, V.int.injEq, V.str.injEq, exists_eq_left', exists_eq_left, exists_eq', true_and, and_true, cIsN, L2.start, gTup, gCons, gNil, nox_K, cx_K, tCallF, tSl, tPart, tNoPart, iEnum, RZ.iZipA, iRng1, iRng2, cAbs, List.map_cons, List.map_nil, List.length_cons, List.length_nil, List.replicate, List.cons_append, List.nil_append, List.getElem?_cons_zero, List.getElem?_cons_succ, List.getElem?_nil, List.set_cons_zero, List.set_cons_succ, Nat.reduceAdd, Nat.reduceSub, Nat.zero_add, if_true, if_false, reduceIte, reduceCtorEq, Bool.false_eq_true, decide_eq_true_eq, tDrop, cMin2, cJoin, iList, tDNewK, tLc_eq, iStr, wipe])
        refine ⟨by omega, ?_⟩
        rw [hl]
        by_cases hf : 1 + n + 1 < (tl t).length
        · rw [if_pos hf] at q
          rw [if_pos (by omega)]
          exact ⟨by omega, fun p hp => q _ _ (Ext.rf.fresh hp) ⟨p, rfl, upd_self⟩⟩
        · rw [if_neg hf] at q
          rw [if_neg (by omega)]
          exact q _ _ Ext.rf rfl
      · rw [if_pos (.inr hb)] at q
        rw [if_pos (fun z => hb (by rw [← c2, z, eR]))]
        exact ⟨by omega, fun p hp => q _ _ (Ext.rf.fresh hp) ⟨p, rfl, upd_self⟩⟩
end
end Da
set_option Elab.async false
set_option linter.all false
set_option maxRecDepth 100000
set_option maxHeartbeats 4000000
namespace Da
open PySem PySem.Spec PyProof.Rows L2 Hd Xs Fx Mi
open TL (tl)
def NM : List Str := ["scheme", "user", "host", "port", "path", "query", "fragment"]
def moreL : Nat → Str
  | 1 => ":"
  | 2 => ""
  | 4 => ":@/"
  | 5 => ":@/?"
  | 6 => ":@/?"
  | _ => ""
def SI (i : Nat) : T := PLNT ++ INNT ++ tl (moreL i)
/-- the wrong place of a part -/
def wP (i : Nat) (l : T) : KP := if i = 0 then wSch l else if i = 3 then wPort l else if i = 2 ∧ l.take 1 = [91] then wBr l else wAm (SI i) 0 0 (cut 94 l)
def spPlace : Sp := fun vs H Q _ => match vs with
  | [.str n, .str t] => ∃ i, i < 7 ∧ NM[i]? = some n ∧ t.length ≤ (100000 : Nat) ∧ ∀ v H', Ext H H' → RW H' v (wP i (tl t)) → Q v H'
  | _ => False
def spSigns : Sp := fun vs H Q _ => match vs with
  | [.str n] => ∃ i, (i = 1 ∨ i = 2 ∨ i = 4 ∨ i = 5 ∨ i = 6) ∧ NM[i]? = some n ∧ ∀ S : Str, tl S = SI i → Q (.str S) H
  | _ => False
theorem sw_lit {x y : Str} {S : T} (h : tl y = S) (hS : S ≠ []) : Txt.startswith x y = decide ((tl x).take S.length = S) := by
  rw [sw_pre x y (by rw [h]; exact hS), h]
  show ((tl x).take S.length == S) = _
  exact Bool.eq_iff_iff.mpr (by simp)
theorem tl_tab (i : Nat) (h : i = 1 ∨ i = 2 ∨ i = 4 ∨ i = 5 ∨ i = 6) {n : Str} (hn : NM[i]? = some n) : (n, He.Dv.str (moreL i)) ∈ kv_MORE := by
  rcases h with rfl | rfl | rfl | rfl | rfl <;> cases hn
  · exact .head _
  · exact .tail _ (.head _)
  · exact .tail _ (.tail _ (.head _))
  · exact .tail _ (.tail _ (.tail _ (.head _)))
  · exact .tail _ (.tail _ (.tail _ (.tail _ (.head _))))
section
variable {P : Program} {w : World} {K : PySem.W.Frag} {mg : Str → Option Value} {base : Heap}
theorem ok_signs_of (c : Ct w K mg) : OkF P w K mg base CX0 1 (He.ga K "signs_of") ["name"] (spSigns) := by
  obtain ⟨fd, F⟩ := F_signs_of c
  refine ⟨fd, F.ok sc_signs_of (fun vs H Q E h => ?_) (fun cdv A outer s H vs Q E hr h => ⟨_, PSs.nox ((pss_one (ps_ret (pe_op co_add (pe_op co_add (pe_glob rfl (c_PLAIN c).choose_spec.1 (c_PLAIN c).choose_spec.2) (pe_glob rfl (c_INNER c).choose_spec.1 (c_INNER c).choose_spec.2)) (pe_ix ix_kdict (pe_glob (v := .ref (He.ga K "MORE")) rfl (g_MORE c) rfl) (cv 0) (by exact fun _ _ => rfl)))))), ?_⟩), F.bindsN fun _ _ _ _ _ _ us hl => match us, hl with | [_], _ => rfl⟩
  · unfold spSigns at h
    split at h
    · rfl
    · exact h.elim
  · unfold spSigns at h
    split at h
    case h_2 => exact h.elim
    rename_i n
    obtain ⟨i, hc, hn, q⟩ := h
    have sl := sl
    (try simp only [tSeq, tNext, tIfS, tFor_eq, cBl, tOp, tC, cI, cIc, cAdd, cVar, hEq, hNe, hIn, hNotIn, hLen, hSl, tM1, tBM, cT1, cT1f, cFind3, cSplit, cPart, rNewStrs, hIsS, hTru, tAsg, gName, gSub, tRet, tRetN, tCons, tNil, tTup, tLst, tCB, tNot, tAnd, tNotV, tAndV, tOrV, tOr, V.bl.injEq, V.int.injEq, V.str.injEq, exists_eq_left', exists_eq_left, exists_eq', true_and, and_true, cIsN, L2.start, gTup, gCons, gNil, nox_K, cx_K, tCallF, tSl, tPart, tNoPart, iEnum, RZ.iZipA, iRng1, iRng2, cAbs, List.map_cons, List.map_nil, List.length_cons, List.length_nil, List.replicate, List.cons_append, List.nil_append, List.getElem?_cons_zero, List.getElem?_cons_succ, List.getElem?_nil, List.set_cons_zero, List.set_cons_succ, Nat.reduceAdd, Nat.reduceSub, Nat.zero_add, if_true, if_false, reduceIte, reduceCtorEq, Bool.false_eq_true, decide_eq_true_eq, tDrop, cMin2, cJoin, iList, tDNewK, tLc_eq, iStr, wipe])
    have kd := kd_MORE c (tl_tab i hc hn)
    refine ⟨Nat.le_trans (by decide) sl, _, _, .str (moreL i), rfl, rfl, kd, ?_⟩
    (try simp only [tSeq, tNext, tIfS, tFor_eq, cBl, tOp, tC, cI, cIc, cAdd, cVar, hEq, hNe, hIn, hNotIn, hLen, hSl, tM1, tBM, cT1, cT1f, cFind3, cSplit, cPart, rNewStrs, hIsS, hTru, tAsg, gName, gSub, tRet, tRetN, tCons, tNil, tTup, tLst, tCB, tNot, tAnd, tNotV, tAndV, tOrV, tOr, V.bl.injEq, V.int.injEq, V.str.injEq, exists_eq_left', exists_eq_left, exists_eq', true_and, and_true, cIsN, L2.start, gTup, gCons, gNil, nox_K, cx_K, tCallF, tSl, tPart, tNoPart, iEnum, RZ.iZipA, iRng1, iRng2, cAbs, List.map_cons, List.map_nil, List.length_cons, List.length_nil, List.replicate, List.cons_append, List.nil_append, List.getElem?_cons_zero, List.getElem?_cons_succ, List.getElem?_nil, List.set_cons_zero, List.set_cons_succ, Nat.reduceAdd, Nat.reduceSub, Nat.zero_add, if_true, if_false, reduceIte, reduceCtorEq, Bool.false_eq_true, decide_eq_true_eq, tDrop, cMin2, cJoin, iList, tDNewK, tLc_eq, iStr, wipe])
    have hm : (moreL i).length ≤ 10 := by rcases hc with rfl | rfl | rfl | rfl | rfl <;> decide
    refine ⟨by rw [la]; exact Nat.le_trans (Nat.add_le_add_left hm _) (Nat.le_trans (by decide) sl), q _ ?_⟩
    rw [TL.tl_append, TL.tl_append]
    rfl
theorem ok_wrong_place (c : Ct w K mg) : OkF P w K mg base CX0 3 (He.ga K "wrong_place") ["name", "text"] (spPlace) := by
  obtain ⟨fd, F⟩ := F_wrong_place c
  refine ⟨fd, F.ok sc_wrong_place (fun vs H Q E h => ?_) (fun cdv A outer s H vs Q E hr h => ⟨_, PSs.nox ((pss_cons (ps_if (ctc (ho_eq (hu64 hr)) (cv 0) pe_str (by rfl)) (pss_one (ps_ret (pf (ok__wrong_in_scheme c) (hr.mono (by decide)) (g__wrong_in_scheme c) (k__wrong_in_scheme c) pass0 (pa_cons (cv 1) pa_nil)))) pss_nil) (pss_cons (ps_if (ctc (ho_eq (hu64 hr)) (cv 0) pe_str (by rfl)) (pss_one (ps_ret (pf (ok__wrong_in_port c) (hr.mono (by decide)) (g__wrong_in_port c) (k__wrong_in_port c) pass0 (pa_cons (cv 1) pa_nil)))) pss_nil) (pss_cons (ps_if (PW.pt (pw_and (ctc (ho_eq (hu64 hr)) (cv 0) pe_str (by rfl)) (pw_and1 (ct (pe_m1 PySem.F.slot_str_startswith PySem.F.type_str_startswith cm_startswith (cv 1) pe_str))))) (pss_one (ps_ret (pf (ok__wrong_in_brackets c) (hr.mono (by decide)) (g__wrong_in_brackets c) (k__wrong_in_brackets c) pass0 (pa_cons (cv 1) pa_nil)))) pss_nil) (pss_one (ps_ret (pf (ok__wrong_among c) (hr.mono (by decide)) (g__wrong_among c) (k__wrong_among c) pass0 (pa_cons (cv 1) (pa_cons (pf (ok_signs_of c) (hr.mono (by decide)) (g_signs_of c) (k_signs_of c) pass0 (pa_cons (cv 0) pa_nil)) pa_nil))))))))), ?_⟩), F.bindsN fun _ _ _ _ _ _ us hl => match us, hl with | [_, _], _ => rfl⟩
  · unfold spPlace at h
    split at h
    · rfl
    · exact h.elim
  · unfold spPlace at h
    split at h
    case h_2 => exact h.elim
    rename_i n t
    obtain ⟨i, hi, hn, ht, q⟩ := h
    have sl := sl
    (try simp only [tSeq, tNext, tIfS, tFor_eq, cBl, tOp, tC, cI, cIc, cAdd, cVar, hEq, hNe, hIn, hNotIn, hLen, hSl, tM1, tBM, cT1, cT1f, cFind3, cSplit, cPart, rNewStrs, hIsS, hTru, tAsg, gName, gSub, tRet, tRetN, tCons, tNil, tTup, tLst, tCB, tNot, tAnd, tNotV, tAndV, tOrV, tOr, V.bl.injEq, V.int.injEq, V.str.injEq, exists_eq_left', exists_eq_left, exists_eq', true_and, and_true, cIsN, L2.start, gTup, gCons, gNil, nox_K, cx_K, tCallF, tSl, tPart, tNoPart, iEnum, RZ.iZipA, iRng1, iRng2, cAbs, List.map_cons, List.map_nil, List.length_cons, List.length_nil, List.replicate, List.cons_append, List.nil_append, List.getElem?_cons_zero, List.getElem?_cons_succ, List.getElem?_nil, List.set_cons_zero, List.set_cons_succ, Nat.reduceAdd, Nat.reduceSub, Nat.zero_add, if_true, if_false, reduceIte, reduceCtorEq, Bool.false_eq_true, decide_eq_true_eq, tDrop, cMin2, cJoin, iList, tDNewK, tLc_eq, iStr, wipe])
    have e0 : tl (Str.ofString "[") = [91] := by decide +kernel
    by_cases h0 : i = 0
    · subst h0
      cases hn
      rw [if_pos rfl]
      exact ⟨ht, q⟩
    by_cases h3 : i = 3
    · subst h3
      cases hn
      rw [if_neg (by decide +kernel), if_pos rfl]
      exact ⟨ht, q⟩
    have hc : i = 1 ∨ i = 2 ∨ i = 4 ∨ i = 5 ∨ i = 6 := by omega
    have n0 : ¬ n = Str.ofString "scheme" := by
      rcases hc with rfl | rfl | rfl | rfl | rfl <;> (cases hn; decide +kernel)
    have n3 : ¬ n = Str.ofString "port" := by
      rcases hc with rfl | rfl | rfl | rfl | rfl <;> (cases hn; decide +kernel)
    have n2 : n = Str.ofString "host" ↔ i = 2 := by
      rcases hc with rfl | rfl | rfl | rfl | rfl <;> (cases hn; decide +kernel)
    rw [if_neg n0, if_neg n3]
    unfold wP at q
    rw [if_neg h0, if_neg h3] at q
    have esw := sw_lit (x := t) e0 (by decide)
    by_cases hbr : i = 2 ∧ (tl t).take 1 = [91]
    · rw [if_pos hbr] at q
      rw [if_pos (n2.mpr hbr.1), if_pos (by rw [esw]; exact decide_eq_true hbr.2)]
      exact ⟨ht, q⟩
    · rw [if_neg hbr] at q
      have key : ∀ A B : Prop, B → (if n = Str.ofString "host" then (if Txt.startswith t (Str.ofString "[") = true then A else B) else B) := by
        intro A B hB
        by_cases hh : n = Str.ofString "host"
        · rw [if_pos hh, if_neg (by rw [esw]; exact fun z => hbr ⟨n2.mp hh, of_decide_eq_true z⟩)]
          exact hB
        · rw [if_neg hh]
          exact hB
      refine key _ _ ?_
      refine ⟨i, hc, hn, fun S eS => ⟨ht, ?_⟩⟩
      rw [eS]
      exact q
end
end Da
set_option Elab.async false
set_option linter.all false
set_option maxRecDepth 100000
set_option maxHeartbeats 4000000
namespace Da
open PySem PySem.Spec PyProof.Rows L2 Hd Xs Fx Mi
open TL (tl)
/-- any value that stands for a part here -/
def AV (H : Hp) (v : V) : Prop := match v with
  | .str t => t.length ≤ (100000 : Nat)
  | .non => True
  | .bl _ => True
  | .int _ => True
  | .ref p => ∃ xs, H p = some (.lst xs) ∨ H p = some (.tup xs)
  | _ => False
theorem AV.ext {H H' : Hp} {v : V} (h : AV H v) (e : Ext H H') : AV H' v := by
  cases v with
  | ref p =>
    obtain ⟨xs, h | h⟩ := h
    · exact ⟨xs, .inl (e _ _ h)⟩
    · exact ⟨xs, .inr (e _ _ h)⟩
  | _ => exact h
/-- is the value a text of the signs of part i, or None where that may be -/
def isP (i : Nat) (v : V) : Bool := match v with
  | .non => decide (i ≠ 4)
  | .str t => (wP i (tl t)).isNone
  | _ => false
def spIsPart : Sp := fun vs H Q _ => match vs with
  | [.str n, v] => ∃ i, i < 7 ∧ NM[i]? = some n ∧ AV H v ∧ ∀ H', Ext H H' → Q (.bl (isP i v)) H'
  | _ => False
theorem RW.isN {H : Hp} {v : V} {o : KP} (h : RW H v o) : decide (v = .non) = o.isNone := by
  unfold RW at h
  cases o with
  | none => rw [h]; rfl
  | some r =>
    obtain ⟨q, rfl, _⟩ := h
    rfl
/-- can the path stand beside the other parts -/
def poss (sN hN : Bool) (l : T) : Bool := if hN = false then (l.isEmpty || decide (l.take 1 = [47])) else if l.take 2 = [47, 47] then false else (!sN || !(bef 47 l).contains 58)
def isNo (v : V) : Bool := decide (v = .non)
def NT (v : V) : Prop := v = .non ∨ ∃ t, v = .str t
def spPoss : Sp := fun vs H Q _ => match vs with
  | [s, h, .str p] => NT s ∧ NT h ∧ p.length ≤ (100000 : Nat) ∧ ∀ H', Ext H H' → Q (.bl (poss (isNo s) (isNo h) (tl p))) H'
  | _ => False
theorem colon_one : Str.ofString ":" = ⟨#[58]⟩ := TL.ext_tl (by decide +kernel)
theorem slash_one : Str.ofString "/" = ⟨#[47]⟩ := TL.ext_tl (by decide +kernel)
theorem tl_emp (t : Str) : decide (t = Str.ofString "") = (tl t).isEmpty := by
  cases e : tl t with
  | nil => rw [tl_nil e]; decide +kernel
  | cons c r =>
    have : ¬ t = Str.ofString "" := fun z => by rw [z] at e; exact nomatch e
    rw [decide_eq_false this]; rfl
section
variable {P : Program} {w : World} {K : PySem.W.Frag} {mg : Str → Option Value} {base : Heap}
theorem ok__is_part (c : Ct w K mg) : OkF P w K mg base CX0 4 (He.ga K "_is_part") ["name", "value"] (spIsPart) := by
  obtain ⟨fd, F⟩ := F__is_part c
  refine ⟨fd, F.ok sc__is_part (fun vs H Q E h => ?_) (fun cdv A outer s H vs Q E hr h => ⟨_, PSs.nox ((pss_cons (ps_if (ctc co_isN (cv 1) pe_non (by rfl)) (pss_one (ps_ret (pe_cmpR (ho_ne (hu64 hr)) (cv 0) pe_str (by rfl)))) pss_nil) (pss_one (ps_ret (pe_and (pe_callB hc_isS (by rfl) (b_isinstance c) (by decide +kernel) (pa_cons (cv 1) (pa_cons (pe_bltn (v := .ty "str") (by rfl) (b_str c) (by decide +kernel) rfl) pa_nil))) (pe_one (pe_cmpR co_isN (pf (ok_wrong_place c) (hr.mono (by decide)) (g_wrong_place c) (k_wrong_place c) pass0 (pa_cons (cv 0) (pa_cons (cv 1) pa_nil))) pe_non (by rfl)))))))), ?_⟩), F.bindsN fun _ _ _ _ _ _ us hl => match us, hl with | [_, _], _ => rfl⟩
  · unfold spIsPart at h
    split at h
    · rfl
    · exact h.elim
  · unfold spIsPart at h
    split at h
    case h_2 => exact h.elim
    rename_i n v
    obtain ⟨i, hi, hn, ha, q⟩ := h
    have sl := sl
    unfold AV at ha
    unfold isP at q
    have n4 : n = Str.ofString "path" ↔ i = 4 := by
      have : i = 0 ∨ i = 1 ∨ i = 2 ∨ i = 3 ∨ i = 4 ∨ i = 5 ∨ i = 6 := by omega
      rcases this with rfl | rfl | rfl | rfl | rfl | rfl | rfl <;> (cases hn; decide +kernel)
    cases v with
    | non =>
      (try simp only [tSeq, tNext, tIfS, tFor_eq, cBl, tOp, tC, cI, cIc, cAdd, cVar, hEq, hNe, hIn, hNotIn, hLen, hSl, tM1, tBM, cT1, cT1f, cFind3, cSplit, cPart, rNewStrs, hIsS, hTru, tAsg, gName, gSub, tRet, tRetN, tCons, tNil, tTup, tLst, tCB, tNot, tAnd, tNotV, tAndV, tOrV, tOr, V.bl.injEq, V.int.injEq, V.str.injEq, exists_eq_left', exists_eq_left, exists_eq', true_and, and_true, cIsN, L2.start, gTup, gCons, gNil, nox_K, cx_K, tCallF, tSl, tPart, tNoPart, iEnum, RZ.iZipA, iRng1, iRng2, cAbs, List.map_cons, List.map_nil, List.length_cons, List.length_nil, List.replicate, List.cons_append, List.nil_append, List.getElem?_cons_zero, List.getElem?_cons_succ, List.getElem?_nil, List.set_cons_zero, List.set_cons_succ, Nat.reduceAdd, Nat.reduceSub, Nat.zero_add, if_true, if_false, reduceIte, reduceCtorEq, Bool.false_eq_true, decide_eq_true_eq, tDrop, cMin2, cJoin, iList, tDNewK, tLc_eq, iStr, wipe])
      have e : decide (¬ n = Str.ofString "path") = decide (i ≠ 4) := by simp only [n4, ne_eq]
      rw [e]
      exact q _ Ext.rf
    | str t =>
      (try simp only [tSeq, tNext, tIfS, tFor_eq, cBl, tOp, tC, cI, cIc, cAdd, cVar, hEq, hNe, hIn, hNotIn, hLen, hSl, tM1, tBM, cT1, cT1f, cFind3, cSplit, cPart, rNewStrs, hIsS, hTru, tAsg, gName, gSub, tRet, tRetN, tCons, tNil, tTup, tLst, tCB, tNot, tAnd, tNotV, tAndV, tOrV, tOr, V.bl.injEq, V.int.injEq, V.str.injEq, exists_eq_left', exists_eq_left, exists_eq', true_and, and_true, cIsN, L2.start, gTup, gCons, gNil, nox_K, cx_K, tCallF, tSl, tPart, tNoPart, iEnum, RZ.iZipA, iRng1, iRng2, cAbs, List.map_cons, List.map_nil, List.length_cons, List.length_nil, List.replicate, List.cons_append, List.nil_append, List.getElem?_cons_zero, List.getElem?_cons_succ, List.getElem?_nil, List.set_cons_zero, List.set_cons_succ, Nat.reduceAdd, Nat.reduceSub, Nat.zero_add, if_true, if_false, reduceIte, reduceCtorEq, Bool.false_eq_true, decide_eq_true_eq, tDrop, cMin2, cJoin, iList, tDNewK, tLc_eq, iStr, wipe])
      exact ⟨i, hi, hn, ha, fun v H' he hr => by
        dsimp only
        rw [RW.isN hr]
        exact q _ he⟩
    | bl b =>
      (try simp only [tSeq, tNext, tIfS, tFor_eq, cBl, tOp, tC, cI, cIc, cAdd, cVar, hEq, hNe, hIn, hNotIn, hLen, hSl, tM1, tBM, cT1, cT1f, cFind3, cSplit, cPart, rNewStrs, hIsS, hTru, tAsg, gName, gSub, tRet, tRetN, tCons, tNil, tTup, tLst, tCB, tNot, tAnd, tNotV, tAndV, tOrV, tOr, V.bl.injEq, V.int.injEq, V.str.injEq, exists_eq_left', exists_eq_left, exists_eq', true_and, and_true, cIsN, L2.start, gTup, gCons, gNil, nox_K, cx_K, tCallF, tSl, tPart, tNoPart, iEnum, RZ.iZipA, iRng1, iRng2, cAbs, List.map_cons, List.map_nil, List.length_cons, List.length_nil, List.replicate, List.cons_append, List.nil_append, List.getElem?_cons_zero, List.getElem?_cons_succ, List.getElem?_nil, List.set_cons_zero, List.set_cons_succ, Nat.reduceAdd, Nat.reduceSub, Nat.zero_add, if_true, if_false, reduceIte, reduceCtorEq, Bool.false_eq_true, decide_eq_true_eq, tDrop, cMin2, cJoin, iList, tDNewK, tLc_eq, iStr, wipe])
      exact q _ Ext.rf
    | int j =>
      (try simp only [tSeq, tNext, tIfS, tFor_eq, cBl, tOp, tC, cI, cIc, cAdd, cVar, hEq, hNe, hIn, hNotIn, hLen, hSl, tM1, tBM, cT1, cT1f, cFind3, cSplit, cPart, rNewStrs, hIsS, hTru, tAsg, gName, gSub, tRet, tRetN, tCons, tNil, tTup, tLst, tCB, tNot, tAnd, tNotV, tAndV, tOrV, tOr, V.bl.injEq, V.int.injEq, V.str.injEq, exists_eq_left', exists_eq_left, exists_eq', true_and, and_true, cIsN, L2.start, gTup, gCons, gNil, nox_K, cx_K, tCallF, tSl, tPart, tNoPart, iEnum, RZ.iZipA, iRng1, iRng2, cAbs, List.map_cons, List.map_nil, List.length_cons, List.length_nil, List.replicate, List.cons_append, List.nil_append, List.getElem?_cons_zero, List.getElem?_cons_succ, List.getElem?_nil, List.set_cons_zero, List.set_cons_succ, Nat.reduceAdd, Nat.reduceSub, Nat.zero_add, if_true, if_false, reduceIte, reduceCtorEq, Bool.false_eq_true, decide_eq_true_eq, tDrop, cMin2, cJoin, iList, tDNewK, tLc_eq, iStr, wipe])
      exact q _ Ext.rf
    | ref p =>
      obtain ⟨xs, ha | ha⟩ := ha
      · (try simp only [tSeq, tNext, tIfS, tFor_eq, cBl, tOp, tC, cI, cIc, cAdd, cVar, hEq, hNe, hIn, hNotIn, hLen, hSl, tM1, tBM, cT1, cT1f, cFind3, cSplit, cPart, rNewStrs, hIsS, hTru, tAsg, gName, gSub, tRet, tRetN, tCons, tNil, tTup, tLst, tCB, tNot, tAnd, tNotV, tAndV, tOrV, tOr, V.bl.injEq, V.int.injEq, V.str.injEq, exists_eq_left', exists_eq_left, exists_eq', true_and, and_true, cIsN, L2.start, gTup, gCons, gNil, nox_K, cx_K, tCallF, tSl, tPart, tNoPart, iEnum, RZ.iZipA, iRng1, iRng2, cAbs, List.map_cons, List.map_nil, List.length_cons, List.length_nil, List.replicate, List.cons_append, List.nil_append, List.getElem?_cons_zero, List.getElem?_cons_succ, List.getElem?_nil, List.set_cons_zero, List.set_cons_succ, Nat.reduceAdd, Nat.reduceSub, Nat.zero_add, if_true, if_false, reduceIte, reduceCtorEq, Bool.false_eq_true, decide_eq_true_eq, tDrop, cMin2, cJoin, iList, tDNewK, tLc_eq, iStr, wipe])
        simp only [ha]
        (try simp only [tSeq, tNext, tIfS, tFor_eq, cBl, tOp, tC, cI, cIc, cAdd, cVar, hEq, hNe, hIn, hNotIn, hLen, hSl, tM1, tBM, cT1, cT1f, cFind3, cSplit, cPart, rNewStrs, hIsS, hTru, tAsg, gName, gSub, tRet, tRetN, tCons, tNil, tTup, tLst, tCB, tNot, tAnd, tNotV, tAndV, tOrV, tOr, V.bl.injEq, V.int.injEq, V.str.injEq, exists_eq_left', exists_eq_left, exists_eq', true_and, and_true, cIsN, L2.start, gTup, gCons, gNil, nox_K, cx_K, tCallF, tSl, tPart, tNoPart, iEnum, RZ.iZipA, iRng1, iRng2, cAbs, List.map_cons, List.map_nil, List.length_cons, List.length_nil, List.replicate, List.cons_append, List.nil_append, List.getElem?_cons_zero, List.getElem?_cons_succ, List.getElem?_nil, List.set_cons_zero, List.set_cons_succ, Nat.reduceAdd, Nat.reduceSub, Nat.zero_add, if_true, if_false, reduceIte, reduceCtorEq, Bool.false_eq_true, decide_eq_true_eq, tDrop, cMin2, cJoin, iList, tDNewK, tLc_eq, iStr, wipe])
        exact q _ Ext.rf
      · (try simp only [tSeq, tNext, tIfS, tFor_eq, cBl, tOp, tC, cI, cIc, cAdd, cVar, hEq, hNe, hIn, hNotIn, hLen, hSl, tM1, tBM, cT1, cT1f, cFind3, cSplit, cPart, rNewStrs, hIsS, hTru, tAsg, gName, gSub, tRet, tRetN, tCons, tNil, tTup, tLst, tCB, tNot, tAnd, tNotV, tAndV, tOrV, tOr, V.bl.injEq, V.int.injEq, V.str.injEq, exists_eq_left', exists_eq_left, exists_eq', true_and, and_true, cIsN, L2.start, gTup, gCons, gNil, nox_K, cx_K, tCallF, tSl, tPart, tNoPart, iEnum, RZ.iZipA, iRng1, iRng2, cAbs, List.map_cons, List.map_nil, List.length_cons, List.length_nil, List.replicate, List.cons_append, List.nil_append, List.getElem?_cons_zero, List.getElem?_cons_succ, List.getElem?_nil, List.set_cons_zero, List.set_cons_succ, Nat.reduceAdd, Nat.reduceSub, Nat.zero_add, if_true, if_false, reduceIte, reduceCtorEq, Bool.false_eq_true, decide_eq_true_eq, tDrop, cMin2, cJoin, iList, tDNewK, tLc_eq, iStr, wipe])
        simp only [ha]
        (try simp only [tSeq, tNext, tIfS, tFor_eq, cBl, tOp, tC, cI, cIc, cAdd, cVar, hEq, hNe, hIn, hNotIn, hLen, hSl, tM1, tBM, cT1, cT1f, cFind3, cSplit, cPart, rNewStrs, hIsS, hTru, tAsg, gName, gSub, tRet, tRetN, tCons, tNil, tTup, tLst, tCB, tNot, tAnd, tNotV, tAndV, tOrV, tOr, V.bl.injEq, V.int.injEq, V.str.injEq, exists_eq_left', exists_eq_left, exists_eq', true_and, and_true, cIsN, L2.start, gTup, gCons, gNil, nox_K, cx_K, tCallF, tSl, tPart, tNoPart, iEnum, RZ.iZipA, iRng1, iRng2, cAbs, List.map_cons, List.map_nil, List.length_cons, List.length_nil, List.replicate, List.cons_append, List.nil_append, List.getElem?_cons_zero, List.getElem?_cons_succ, List.getElem?_nil, List.set_cons_zero, List.set_cons_succ, Nat.reduceAdd, Nat.reduceSub, Nat.zero_add, if_true, if_false, reduceIte, reduceCtorEq, Bool.false_eq_true, decide_eq_true_eq, tDrop, cMin2, cJoin, iList, tDNewK, tLc_eq, iStr, wipe])
        exact q _ Ext.rf
    | _ => exact ha.elim
theorem ok__is_possible (c : Ct w K mg) : OkF P w K mg base CX0 1 (He.ga K "_is_possible") ["scheme", "host", "path"] (spPoss) := by
  obtain ⟨fd, F⟩ := F__is_possible c
  refine ⟨fd, F.ok sc__is_possible (fun vs H Q E h => ?_) (fun cdv A outer s H vs Q E hr h => ⟨_, PSs.nox ((pss_cons (ps_if (ctc co_notN (cv 1) pe_non (by rfl)) (pss_one (ps_ret (pe_or (pe_cmpR (ho_eq (hu64 hr)) (cv 2) pe_str (by rfl)) (pe_one (pe_m1 PySem.F.slot_str_startswith PySem.F.type_str_startswith cm_startswith (cv 2) pe_str))))) pss_nil) (pss_cons (ps_if (ct (pe_m1 PySem.F.slot_str_startswith PySem.F.type_str_startswith cm_startswith (cv 2) pe_str)) (pss_one (ps_ret pe_bl)) pss_nil) (pss_one (ps_ret (pe_or (pe_cmpR co_notN (cv 0) pe_non (by rfl)) (pe_one (pe_cmpR ho_notIn pe_str (hix (pe_m1 PySem.F.slot_str_partition PySem.F.type_str_partition cm_partition (cv 2) pe_str) pe_int) (by rfl))))))))), ?_⟩), F.bindsN fun _ _ _ _ _ _ us hl => match us, hl with | [_, _, _], _ => rfl⟩
  · unfold spPoss at h
    split at h
    · rfl
    · exact h.elim
  · unfold spPoss at h
    split at h
    case h_2 => exact h.elim
    rename_i s0 h p
    obtain ⟨hs, hh, hp, q⟩ := h
    have sl := sl
    have w1 := sw_lit (x := p) (y := Str.ofString "/") (S := [47]) (by decide +kernel) (by decide)
    have w2 := sw_lit (x := p) (y := Str.ofString "//") (S := [47, 47]) (by decide +kernel) (by decide)
    have ee := tl_emp p
    simp only [List.length_cons, List.length_nil, Nat.zero_add, Nat.reduceAdd] at w1 w2
    (try simp only [tSeq, tNext, tIfS, tFor_eq, cBl, tOp, tC, cI, cIc, cAdd, cVar, hEq, hNe, hIn, hNotIn, hLen, hSl, tM1, tBM, cT1, cT1f, cFind3, cSplit, cPart, rNewStrs, hIsS, hTru, tAsg, gName, gSub, tRet, tRetN, tCons, tNil, tTup, tLst, tCB, tNot, tAnd, tNotV, tAndV, tOrV, tOr, V.bl.injEq, V.int.injEq, V.str.injEq, exists_eq_left', exists_eq_left, exists_eq', true_and, and_true, cIsN, L2.start, gTup, gCons, gNil, nox_K, cx_K, tCallF, tSl, tPart, tNoPart, iEnum, RZ.iZipA, iRng1, iRng2, cAbs, List.map_cons, List.map_nil, List.length_cons, List.length_nil, List.replicate, List.cons_append, List.nil_append, List.getElem?_cons_zero, List.getElem?_cons_succ, List.getElem?_nil, List.set_cons_zero, List.set_cons_succ, Nat.reduceAdd, Nat.reduceSub, Nat.zero_add, if_true, if_false, reduceIte, reduceCtorEq, Bool.false_eq_true, decide_eq_true_eq, tDrop, cMin2, cJoin, iList, tDNewK, tLc_eq, iStr, wipe])
    unfold poss at q
    rw [w1, w2]
    cases eh : isNo h with
    | false =>
      have eh' : decide (h = V.non) = false := eh
      rw [if_pos (by rw [eh']; rfl)]
      rw [eh, if_pos rfl, ← ee] at q
      by_cases he : p = Str.ofString ""
      · rw [if_pos he]
        rw [decide_eq_true he] at q
        exact q _ Ext.rf
      · rw [if_neg he]
        rw [decide_eq_false he, Bool.false_or] at q
        exact q _ Ext.rf
    | true =>
      have eh' : decide (h = V.non) = true := eh
      rw [if_neg (by rw [eh']; decide)]
      rw [eh, if_neg (by decide)] at q
      by_cases hd : List.take 2 (tl p) = [47, 47]
      · rw [if_pos (decide_eq_true hd)]
        rw [if_pos hd] at q
        exact q _ Ext.rf
      · rw [if_neg (fun z => hd (of_decide_eq_true z))]
        rw [if_neg hd] at q
        cases es : isNo s0 with
        | false =>
          have es' : decide (s0 = V.non) = false := es
          rw [if_pos (by rw [es']; rfl)]
          rw [es] at q
          exact q _ Ext.rf
        | true =>
          have es' : decide (s0 = V.non) = true := es
          rw [if_neg (by rw [es']; decide)]
          rw [es] at q
          refine ⟨by decide, by omega, fun r hr => ?_⟩
          refine hIx_tup upd_self (atI_zero _ _) ?_
          dsimp only
          have hc := (part_cut p 47).1
          rw [slash_one] at *
          rw [colon_one, isIn_one, hc]
          exact q _ (Ext.rf.fresh hr)
end
end Da
set_option Elab.async false
set_option linter.all false
set_option maxRecDepth 100000
set_option maxHeartbeats 4000000
namespace Da
open PySem PySem.Spec PyProof.Rows L2 Hd Xs Fx Mi ClX Xr
open TL (tl)
section
variable {P : Program} {w : World} {K : PySem.W.Frag} {mg : Str → Option Value} {base : Heap}
/-! ### the error -/
def spEI (f : Str) (C : Addr) : Sp := fun vs H Q _ => match vs with
  | [.ref a, y] => H a = some (exo a C none) ∧ ∀ dx, H dx = none → dx ≠ a → Q .non (upd (upd H dx (exd dx [(f, y)])) a (exo a C (some dx)))
  | _ => False
theorem ok_BadPart___init__ (c : Ct w K mg) : OkF P w K mg base CX0 1 (He.ma K (He.ga K "BadPart") "__init__") ["self", "name"] (spEI "name" (He.ga K "BadPart")) := by
  obtain ⟨fd, F⟩ := F_BadPart___init__ c
  refine ⟨fd, F.ok sc_BadPart___init__ (fun vs H Q E h => ?_) (fun cdv A outer s H vs Q E hr h => ⟨_, PSs.nox (pss_one (ps_ost (cv 0) (cv 1))), ?_⟩), F.bindsN fun _ _ _ _ _ _ us hl => match us, hl with | [_, _], _ => rfl⟩
  · unfold spEI at h
    split at h
    · rfl
    · exact h.elim
  · unfold spEI at h
    split at h
    case h_2 => exact h.elim
    rename_i a y
    obtain ⟨ha, q⟩ := h
    unfold tOst
    (try simp only [tSeq, tNext, tIfS, tFor_eq, cBl, tOp, tC, cI, cIc, cAdd, cVar, hEq, hNe, hIn, hNotIn, hLen, hSl, tM1, tBM, cT1, cT1f, cFind3, cSplit, cPart, rNewStrs, hIsS, hTru, tAsg, gName, gSub, tRet, tRetN, tCons, tNil, tTup, tLst, tCB, tNot, tAnd, tNotV, tAndV, tOrV, tOr, V.bl.injEq, V.int.injEq, V.str.injEq, exists_eq_left', exists_eq_left, exists_eq', true_and, and_true, cIsN, L2.start, gTup, gCons, gNil, nox_K, cx_K, tCallF, tSl, tPart, tNoPart, iEnum, RZ.iZipA, iRng1, iRng2, cAbs, List.map_cons, List.map_nil, List.length_cons, List.length_nil, List.replicate, List.cons_append, List.nil_append, List.getElem?_cons_zero, List.getElem?_cons_succ, List.getElem?_nil, List.set_cons_zero, List.set_cons_succ, Nat.reduceAdd, Nat.reduceSub, Nat.zero_add, if_true, if_false, reduceIte, reduceCtorEq, Bool.false_eq_true, decide_eq_true_eq, tDrop, cMin2, cJoin, iList, tDNewK, tLc_eq, iStr, wipe])
    exact ⟨a, He.ga K "BadPart", rfl, oex_BadPart c, noat_BadPart_name c, .inl ⟨ha, q⟩⟩
/-! ### the instance -/
def spInit : Sp := fun vs H Q _ => match vs with
  | [.ref a, y] => ∃ dx, H a = some (.ins (He.ga K "Url") dx []) ∧ Q .non (upd H a (.ins (He.ga K "Url") dx [("_parts", y)]))
  | _ => False
theorem ok_Url___init__ (c : Ct w K mg) : OkF P w K mg base CX0 1 (He.ma K (He.ga K "Url") "__init__") ["self", "parts"] (spInit (K := K)) := by
  obtain ⟨fd, F⟩ := F_Url___init__ c
  refine ⟨fd, F.ok sc_Url___init__ (fun vs H Q E h => ?_) (fun cdv A outer s H vs Q E hr h => ⟨_, PSs.nox ((pss_one (ps_fld (cv 0) (cv 1) (by rfl)))), ?_⟩), F.bindsN fun _ _ _ _ _ _ us hl => match us, hl with | [_, _], _ => rfl⟩
  · unfold spInit at h
    split at h
    · rfl
    · exact h.elim
  · unfold spInit at h
    split at h
    case h_2 => exact h.elim
    rename_i a y
    obtain ⟨dx, ha, q⟩ := h
    unfold sFld
    (try simp only [tSeq, tNext, tIfS, tFor_eq, cBl, tOp, tC, cI, cIc, cAdd, cVar, hEq, hNe, hIn, hNotIn, hLen, hSl, tM1, tBM, cT1, cT1f, cFind3, cSplit, cPart, rNewStrs, hIsS, hTru, tAsg, gName, gSub, tRet, tRetN, tCons, tNil, tTup, tLst, tCB, tNot, tAnd, tNotV, tAndV, tOrV, tOr, V.bl.injEq, V.int.injEq, V.str.injEq, exists_eq_left', exists_eq_left, exists_eq', true_and, and_true, cIsN, L2.start, gTup, gCons, gNil, nox_K, cx_K, tCallF, tSl, tPart, tNoPart, iEnum, RZ.iZipA, iRng1, iRng2, cAbs, List.map_cons, List.map_nil, List.length_cons, List.length_nil, List.replicate, List.cons_append, List.nil_append, List.getElem?_cons_zero, List.getElem?_cons_succ, List.getElem?_nil, List.set_cons_zero, List.set_cons_succ, Nat.reduceAdd, Nat.reduceSub, Nat.zero_add, if_true, if_false, reduceIte, reduceCtorEq, Bool.false_eq_true, decide_eq_true_eq, tDrop, cMin2, cJoin, iList, tDNewK, tLc_eq, iStr, wipe])
    exact ⟨a, _, dx, [], rfl, ha, cls_Url c, noat_Url__parts c, by decide, q⟩
end
end Da
set_option Elab.async false
set_option linter.all false
set_option maxRecDepth 100000
set_option maxHeartbeats 4000000
namespace Da
open PySem PySem.Spec PyProof.Rows L2 Hd Xs Fx Mi ClX Xr
open TL (tl)
abbrev uC (K : PySem.W.Frag) : Addr := He.ga K "Url"
/-- the first part that is none -/
def dueF : Nat → List V → Option Str
  | _, [] => none
  | i, v :: r => if isP i v = true then dueF (i + 1) r else NM[i]?
def due2 (vs : List V) : Option Str := match vs with
  | [s, u, h, p, .str l, _, _] => if isNo h = true ∧ isNo u = false then some "user" else if isNo h = true ∧ isNo p = false then some "port" else if poss (isNo s) (isNo h) (tl l) = false then some "path" else none
  | _ => none
def dueV (vs : List V) : Option Str := match dueF 0 vs with
  | some n => some n
  | none => due2 vs
/-- a URL with these parts, at a -/
def UrlAt (K : PySem.W.Frag) (H : Hp) (a : Addr) (vs : List V) : Prop := ∃ dx T, H a = some (.ins (uC K) dx [("_parts", .ref T)]) ∧ H T = some (.tup vs)
def spOf (K : PySem.W.Frag) : Sp := fun vs H Q E => match vs with
  | [.ref cl, a0, a1, a2, a3, a4, a5, a6] => cl = uC K ∧ (∀ v ∈ [a0, a1, a2, a3, a4, a5, a6], AV H v) ∧
    (match dueV [a0, a1, a2, a3, a4, a5, a6] with
    | none => ∀ a H', Ext H H' → UrlAt K H' a [a0, a1, a2, a3, a4, a5, a6] → H a = none → Q (.ref a) H'
    | some n => ∀ d H', Ext H H' → H' d = some (.xd [("name", .str n)]) → E (.ref (He.ga K "BadPart")) (some d) H')
  | _ => False
def ofDfl : List (Str × V) := [("scheme", .non), ("user", .non), ("host", .non), ("port", .non), ("path", .str ""), ("query", .non), ("fragment", .non)]
def OkKw (P : Program) (w : World) (K : PySem.W.Frag) (mg : Str → Option Value) (base : Heap) (CX : CXT) (k : Nat) (f : Addr) (c : Str) (dfl : List (Str × V)) (sp : Sp) : Prop := ∃ fd, FnOk P w K mg base CX k f fd (c :: dfl.map (·.1)) sp ∧ KwB K fd c dfl
theorem ei_ok {C : Addr} {f : Str} {y : V} {H : Hp} {Q E' : XK} (q : ∀ d H', Ext H H' → H' d = some (.xd [(f, y)]) → Q (.ref C) (some d) H') (a : Addr) (ha : H a = none) :
    spEI f C [.ref a, y] (upd H a (exo a C none)) (fun v H2 => v = .non ∧ ∃ (d : Addr) (fs : List (Str × V)), H2 a = some (exo a C (some d)) ∧ H2 d = some (exd d fs) ∧ H d = none ∧ Q (.ref C) (some d) (upd (del H2 a) d (.xd fs))) E' := by
  refine ⟨upd_self, fun dx hdx hne => ⟨rfl, dx, [(f, y)], upd_self, ?_, ?_, q dx _ ?_ upd_self⟩⟩
  · rw [upd_ne hne]; exact upd_self
  · rw [upd_ne hne] at hdx; exact hdx
  · intro p o hp
    rw [upd_ne hne] at hdx
    have n1 : p ≠ a := fun e => by subst e; rw [ha] at hp; cases hp
    have n2 : p ≠ dx := fun e => by subst e; rw [hdx] at hp; cases hp
    rw [upd_ne n2, del_ne n1, upd_ne n1, upd_ne n2, upd_ne n1]
    exact hp
theorem mk_ok {K : PySem.W.Frag} {y : V} {H : Hp} {Q : VK} {E : XK} (q : ∀ x dx H', Ext H H' → H' x = some (.ins (uC K) dx [("_parts", y)]) → H x = none → Q (.ref x) H') (x dx : Addr) (hx : H x = none) (hdx : H dx = none) (hne : dx ≠ x) :
    spInit (K := K) [.ref x, y] (upd (upd H dx (.own x)) x (.ins (uC K) dx [])) (fun v H2 => v = .non ∧ Q (.ref x) H2) E := by
  refine ⟨dx, upd_self, rfl, q x dx _ ?_ upd_self hx⟩
  intro p o hp
  have n1 : p ≠ x := fun e => by subst e; rw [hx] at hp; cases hp
  have n2 : p ≠ dx := fun e => by subst e; rw [hdx] at hp; cases hp
  rw [upd_ne n1, upd_ne n1, upd_ne n2]
  exact hp
theorem dueF_none : ∀ (l : List V) (i : Nat), i + l.length ≤ 7 → dueF i l = none → ∀ (j : Nat) (v : V), l[j]? = some v → isP (i + j) v = true
  | [], _, _, _, j, v, h => by simp at h
  | x :: r, i, hl, hd, j, v, h => by
    have hd' : (if isP i x = true then dueF (i + 1) r else NM[i]?) = none := hd
    simp only [List.length_cons] at hl
    cases hp : isP i x with
    | false =>
      rw [hp, if_neg (by decide)] at hd'
      have : i < NM.length := by show i < 7; omega
      rw [List.getElem?_eq_getElem this] at hd'
      cases hd'
    | true =>
      rw [hp, if_pos rfl] at hd'
      cases j with
      | zero => cases h; exact hp
      | succ j =>
        have := dueF_none r (i + 1) (by omega) hd' j v (by simpa using h)
        rw [show i + 1 + j = i + (j + 1) by omega] at this
        exact this
theorem isP_NT {i : Nat} {v : V} (h : isP i v = true) : NT v := by
  unfold isP at h
  split at h
  · exact .inl rfl
  · exact .inr ⟨_, rfl⟩
  · cases h
theorem isP_path {v : V} (h : isP 4 v = true) : ∃ t, v = .str t := by
  unfold isP at h
  split at h
  · cases h
  · exact ⟨_, rfl⟩
  · cases h
theorem dueF_cons (i : Nat) (v : V) (r : List V) : dueF i (v :: r) = if isP i v = true then dueF (i + 1) r else NM[i]? := rfl
section
variable {P : Program} {w : World} {K : PySem.W.Frag} {mg : Str → Option Value} {base : Heap}
theorem ok_Url_of (c : Ct w K mg) : OkKw P w K mg base (L2.CX P w) 6 (He5.wf K (uC K) "classmethod" "of") "cls" ofDfl (spOf K) := by
  obtain ⟨fd, F⟩ := F_Url_of c
  refine ⟨fd, F.ok sc_Url_of (fun vs H Q E h => ?_) (fun cdv A outer s H vs Q E hr h => ⟨_, ((pss_cons (ps_set (i := 8) (sc_Url_of).nd rfl (Or.inl rfl) (pe_tup (pa_cons (cv 1) (pa_cons (cv 2) (pa_cons (cv 3) (pa_cons (cv 4) (pa_cons (cv 5) (pa_cons (cv 6) (pa_cons (cv 7) pa_nil))))))))) (pss_cons (ps_for (passes_of rfl) rfl (RZ.pi_zipA rfl (b_zip c) (pa_cons (pe_cval (cv 0)) (pa_cons (cv 8) pa_nil))) (pg_tup (n := 2) rfl (pgs_cons (pg_name (i := 9) (sc_Url_of).nd rfl (Or.inl rfl)) (pgs_cons (pg_name (i := 10) (sc_Url_of).nd rfl (Or.inl rfl)) pgs_nil))) (pss_one (ps_if (pt_not (ct (pf (ok__is_part c) (hr.mono (by decide)) (g__is_part c) (k__is_part c) pass0 (pa_cons (cv 9) (pa_cons (cv 10) pa_nil))))) (pss_one (ps_raise rfl (takes_of rfl rfl rfl rfl) (pmk_oex (oex_BadPart c) (ini_BadPart c).1 (ini_BadPart c).2 (ok_BadPart___init__ c).choose_spec.1 (hr.mono (by decide)) (ok_BadPart___init__ c).choose_spec.2 .nil pass0 rfl (g_BadPart c) (pa_cons (cv 9) pa_nil)))) pss_nil))) (pss_cons (ps_if (PW.pt (pw_and (ctc co_isN (cv 3) pe_non (by rfl)) (pw_and1 (ctc co_notN (cv 2) pe_non (by rfl))))) (pss_one (ps_raise rfl (takes_of rfl rfl rfl rfl) (pmk_oex (oex_BadPart c) (ini_BadPart c).1 (ini_BadPart c).2 (ok_BadPart___init__ c).choose_spec.1 (hr.mono (by decide)) (ok_BadPart___init__ c).choose_spec.2 .nil pass0 rfl (g_BadPart c) (pa_cons pe_str pa_nil)))) pss_nil) (pss_cons (ps_if (PW.pt (pw_and (ctc co_isN (cv 3) pe_non (by rfl)) (pw_and1 (ctc co_notN (cv 4) pe_non (by rfl))))) (pss_one (ps_raise rfl (takes_of rfl rfl rfl rfl) (pmk_oex (oex_BadPart c) (ini_BadPart c).1 (ini_BadPart c).2 (ok_BadPart___init__ c).choose_spec.1 (hr.mono (by decide)) (ok_BadPart___init__ c).choose_spec.2 .nil pass0 rfl (g_BadPart c) (pa_cons pe_str pa_nil)))) pss_nil) (pss_cons (ps_if (pt_not (ct (pf (ok__is_possible c) (hr.mono (by decide)) (g__is_possible c) (k__is_possible c) pass0 (pa_cons (cv 1) (pa_cons (cv 3) (pa_cons (cv 5) pa_nil)))))) (pss_one (ps_raise rfl (takes_of rfl rfl rfl rfl) (pmk_oex (oex_BadPart c) (ini_BadPart c).1 (ini_BadPart c).2 (ok_BadPart___init__ c).choose_spec.1 (hr.mono (by decide)) (ok_BadPart___init__ c).choose_spec.2 .nil pass0 rfl (g_BadPart c) (pa_cons pe_str pa_nil)))) pss_nil) (pss_one (ps_ret (pe_makeV (i := 0) (mkr_Url c) (ok_Url___init__ c).r (hr.mono (by decide)) pass0 (pa_cons (cv 8) pa_nil)))))))))), ?_⟩), kwB_of F (by decide) (by rfl) (by rfl) (by rfl) (by rfl) (by rfl) (by decide) (by decide)⟩
  · unfold spOf at h
    split at h
    · rfl
    · exact h.elim
  · unfold spOf at h
    split at h
    case h_2 => exact h.elim
    rename_i cl a0 a1 a2 a3 a4 a5 a6
    obtain ⟨rfl, ha, q⟩ := h
    have sl := sl
    refine seqStep ?_
    (try simp only [tNext, tFor_eq, cBl, tOp, tC, cI, cIc, cAdd, cVar, hEq, hNe, hIn, hNotIn, hLen, hSl, tM1, tBM, cT1, cT1f, cFind3, cSplit, cPart, rNewStrs, hIsS, hTru, tAsg, gName, gSub, tRet, tRetN, tCons, tNil, tTup, tLst, tCB, tNot, tAnd, tNotV, tAndV, tOrV, tOr, V.bl.injEq, V.int.injEq, V.str.injEq, exists_eq_left', exists_eq_left, exists_eq', true_and, and_true, cIsN, L2.start, gTup, gCons, gNil, nox_K, cx_K, tCallF, tSl, tPart, tNoPart, iEnum, RZ.iZipA, iRng1, iRng2, cAbs, List.map_cons, List.map_nil, List.length_cons, List.length_nil, List.replicate, List.cons_append, List.nil_append, List.getElem?_cons_zero, List.getElem?_cons_succ, List.getElem?_nil, List.set_cons_zero, List.set_cons_succ, Nat.reduceAdd, Nat.reduceSub, Nat.zero_add, if_true, if_false, reduceIte, reduceCtorEq, Bool.false_eq_true, decide_eq_true_eq, tDrop, cMin2, cJoin, iList, tDNewK, tLc_eq, iStr, wipe])
    refine ⟨by omega, fun T hT => ?_⟩
    have ha' : ∀ v ∈ [a0, a1, a2, a3, a4, a5, a6], ∀ {H'}, Ext H H' → AV H' v := fun v hv _ e => (ha v hv).ext e
    generalize hvs : [a0, a1, a2, a3, a4, a5, a6] = vs at *
    have hlen : vs.length = 7 := by rw [← hvs]; rfl
    have ext0 : Ext H (upd H T (.tup vs)) := Ext.rf.fresh hT
    refine seqCps (fun σ H' => ∃ u9 u10, σ = [some (.ref (uC K)), some a0, some a1, some a2, some a3, some a4, some a5, some a6, some (.ref T), u9, u10] ∧ Ext (upd H T (.tup vs)) H' ∧ dueF 0 vs = none) (fun Nx hN => ?_) ?_
    · (try simp only [tNext, tFor_eq, cBl, tOp, tC, cI, cIc, cAdd, cVar, hEq, hNe, hIn, hNotIn, hLen, hSl, tM1, tBM, cT1, cT1f, cFind3, cSplit, cPart, rNewStrs, hIsS, hTru, tAsg, gName, gSub, tRet, tRetN, tCons, tNil, tTup, tLst, tCB, tNot, tAnd, tNotV, tAndV, tOrV, tOr, V.bl.injEq, V.int.injEq, V.str.injEq, exists_eq_left', exists_eq_left, exists_eq', true_and, and_true, cIsN, L2.start, gTup, gCons, gNil, nox_K, cx_K, tCallF, tSl, tPart, tNoPart, iEnum, RZ.iZipA, iRng1, iRng2, cAbs, List.map_cons, List.map_nil, List.length_cons, List.length_nil, List.replicate, List.cons_append, List.nil_append, List.getElem?_cons_zero, List.getElem?_cons_succ, List.getElem?_nil, List.set_cons_zero, List.set_cons_succ, Nat.reduceAdd, Nat.reduceSub, Nat.zero_add, if_true, if_false, reduceIte, reduceCtorEq, Bool.false_eq_true, decide_eq_true_eq, tDrop, cMin2, cJoin, iList, tDNewK, tLc_eq, iStr, wipe])
      simp only [tCVal]
      (try simp only [tNext, tFor_eq, cBl, tOp, tC, cI, cIc, cAdd, cVar, hEq, hNe, hIn, hNotIn, hLen, hSl, tM1, tBM, cT1, cT1f, cFind3, cSplit, cPart, rNewStrs, hIsS, hTru, tAsg, gName, gSub, tRet, tRetN, tCons, tNil, tTup, tLst, tCB, tNot, tAnd, tNotV, tAndV, tOrV, tOr, V.bl.injEq, V.int.injEq, V.str.injEq, exists_eq_left', exists_eq_left, exists_eq', true_and, and_true, cIsN, L2.start, gTup, gCons, gNil, nox_K, cx_K, tCallF, tSl, tPart, tNoPart, iEnum, RZ.iZipA, iRng1, iRng2, cAbs, List.map_cons, List.map_nil, List.length_cons, List.length_nil, List.replicate, List.cons_append, List.nil_append, List.getElem?_cons_zero, List.getElem?_cons_succ, List.getElem?_nil, List.set_cons_zero, List.set_cons_succ, Nat.reduceAdd, Nat.reduceSub, Nat.zero_add, if_true, if_false, reduceIte, reduceCtorEq, Bool.false_eq_true, decide_eq_true_eq, tDrop, cMin2, cJoin, iList, tDNewK, tLc_eq, iStr, wipe])
      refine ⟨uC K, .type "type", _, _, rfl, read_Url c, cval_Url_PARTS c, _, _, _, vs, rfl, .inr ⟨tups_Url_PARTS c _, .inl (Rd.of upd_self), ?_⟩⟩
      refine lp_zipT (xs := NM.map V.str) (ys := vs) (by rw [List.length_map, hlen]; rfl) (fun k σ H' => ∃ u9 u10, σ = [some (.ref (uC K)), some a0, some a1, some a2, some a3, some a4, some a5, some a6, some (.ref T), u9, u10] ∧ Ext (upd H T (.tup vs)) H' ∧ dueF 0 vs = dueF k (vs.drop k)) ⟨_, _, rfl, Ext.rf, rfl⟩ ?_ ?_ ?_
      · rintro k σ H' ⟨u9, u10, _, he, _⟩
        exact ⟨tups_Url_PARTS c _, .inl (Rd.of (he _ _ upd_self))⟩
      · rintro k x y S σ H' hx hy ⟨u9, u10, rfl, he, hd⟩ hS
        have hk : k < 7 := by
          have := (List.getElem?_eq_some_iff.mp hy).1
          omega
        obtain ⟨n, hn, rfl⟩ : ∃ n, NM[k]? = some n ∧ V.str n = x := by
          have hx' : (NM.map V.str)[k]? = some x := hx
          rw [List.getElem?_map] at hx'
          cases e : NM[k]? with
          | none => rw [e] at hx'; cases hx'
          | some n => rw [e] at hx'; exact ⟨n, rfl, Option.some.inj hx'⟩
        have hdr : vs.drop k = y :: vs.drop (k + 1) := by
          obtain ⟨hk, e⟩ := List.getElem?_eq_some_iff.mp hy
          rw [List.drop_eq_getElem_cons hk, e]
        rw [hdr, dueF_cons] at hd
        (try simp only [tNext, tFor_eq, cBl, tOp, tC, cI, cIc, cAdd, cVar, hEq, hNe, hIn, hNotIn, hLen, hSl, tM1, tBM, cT1, cT1f, cFind3, cSplit, cPart, rNewStrs, hIsS, hTru, tAsg, gName, gSub, tRet, tRetN, tCons, tNil, tTup, tLst, tCB, tNot, tAnd, tNotV, tAndV, tOrV, tOr, V.bl.injEq, V.int.injEq, V.str.injEq, exists_eq_left', exists_eq_left, exists_eq', true_and, and_true, cIsN, L2.start, gTup, gCons, gNil, nox_K, cx_K, tCallF, tSl, tPart, tNoPart, iEnum, RZ.iZipA, iRng1, iRng2, cAbs, List.map_cons, List.map_nil, List.length_cons, List.length_nil, List.replicate, List.cons_append, List.nil_append, List.getElem?_cons_zero, List.getElem?_cons_succ, List.getElem?_nil, List.set_cons_zero, List.set_cons_succ, Nat.reduceAdd, Nat.reduceSub, Nat.zero_add, if_true, if_false, reduceIte, reduceCtorEq, Bool.false_eq_true, decide_eq_true_eq, tDrop, cMin2, cJoin, iList, tDNewK, tLc_eq, iStr, wipe])
        refine ⟨_, _, rfl, .inl (Rd.of upd_self), rfl, _, _, rfl, _, _, rfl, rfl, ?_⟩
        unfold tIfS
        (try simp only [tNext, tFor_eq, cBl, tOp, tC, cI, cIc, cAdd, cVar, hEq, hNe, hIn, hNotIn, hLen, hSl, tM1, tBM, cT1, cT1f, cFind3, cSplit, cPart, rNewStrs, hIsS, hTru, tAsg, gName, gSub, tRet, tRetN, tCons, tNil, tTup, tLst, tCB, tNot, tAnd, tNotV, tAndV, tOrV, tOr, V.bl.injEq, V.int.injEq, V.str.injEq, exists_eq_left', exists_eq_left, exists_eq', true_and, and_true, cIsN, L2.start, gTup, gCons, gNil, nox_K, cx_K, tCallF, tSl, tPart, tNoPart, iEnum, RZ.iZipA, iRng1, iRng2, cAbs, List.map_cons, List.map_nil, List.length_cons, List.length_nil, List.replicate, List.cons_append, List.nil_append, List.getElem?_cons_zero, List.getElem?_cons_succ, List.getElem?_nil, List.set_cons_zero, List.set_cons_succ, Nat.reduceAdd, Nat.reduceSub, Nat.zero_add, if_true, if_false, reduceIte, reduceCtorEq, Bool.false_eq_true, decide_eq_true_eq, tDrop, cMin2, cJoin, iList, tDNewK, tLc_eq, iStr, wipe])
        have he' := ext0.tr (he.fresh (o := .tup [.str n, y]) hS)
        refine ⟨k, hk, hn, ha' y (List.mem_of_getElem? hy) he', fun H2 he2 => ?_⟩
        (try simp only [tNext, tFor_eq, cBl, tOp, tC, cI, cIc, cAdd, cVar, hEq, hNe, hIn, hNotIn, hLen, hSl, tM1, tBM, cT1, cT1f, cFind3, cSplit, cPart, rNewStrs, hIsS, hTru, tAsg, gName, gSub, tRet, tRetN, tCons, tNil, tTup, tLst, tCB, tNot, tAnd, tNotV, tAndV, tOrV, tOr, V.bl.injEq, V.int.injEq, V.str.injEq, exists_eq_left', exists_eq_left, exists_eq', true_and, and_true, cIsN, L2.start, gTup, gCons, gNil, nox_K, cx_K, tCallF, tSl, tPart, tNoPart, iEnum, RZ.iZipA, iRng1, iRng2, cAbs, List.map_cons, List.map_nil, List.length_cons, List.length_nil, List.replicate, List.cons_append, List.nil_append, List.getElem?_cons_zero, List.getElem?_cons_succ, List.getElem?_nil, List.set_cons_zero, List.set_cons_succ, Nat.reduceAdd, Nat.reduceSub, Nat.zero_add, if_true, if_false, reduceIte, reduceCtorEq, Bool.false_eq_true, decide_eq_true_eq, tDrop, cMin2, cJoin, iList, tDNewK, tLc_eq, iStr, wipe])
        cases hp : isP k y with
        | true =>
          rw [hp, if_pos rfl] at hd
          rw [if_neg (by decide)]
          exact ⟨_, _, rfl, he.fresh hS |>.tr he2, hd⟩
        | false =>
          rw [hp, if_neg (by decide), hn] at hd
          rw [if_pos (show (!false) = true from rfl)]
          have hv : dueV vs = some n := by unfold dueV; rw [hd]
          rw [hv] at q
          unfold tMkO
          (try simp only [tNext, tFor_eq, cBl, tOp, tC, cI, cIc, cAdd, cVar, hEq, hNe, hIn, hNotIn, hLen, hSl, tM1, tBM, cT1, cT1f, cFind3, cSplit, cPart, rNewStrs, hIsS, hTru, tAsg, gName, gSub, tRet, tRetN, tCons, tNil, tTup, tLst, tCB, tNot, tAnd, tNotV, tAndV, tOrV, tOr, V.bl.injEq, V.int.injEq, V.str.injEq, exists_eq_left', exists_eq_left, exists_eq', true_and, and_true, cIsN, L2.start, gTup, gCons, gNil, nox_K, cx_K, tCallF, tSl, tPart, tNoPart, iEnum, RZ.iZipA, iRng1, iRng2, cAbs, List.map_cons, List.map_nil, List.length_cons, List.length_nil, List.replicate, List.cons_append, List.nil_append, List.getElem?_cons_zero, List.getElem?_cons_succ, List.getElem?_nil, List.set_cons_zero, List.set_cons_succ, Nat.reduceAdd, Nat.reduceSub, Nat.zero_add, if_true, if_false, reduceIte, reduceCtorEq, Bool.false_eq_true, decide_eq_true_eq, tDrop, cMin2, cJoin, iList, tDNewK, tLc_eq, iStr, wipe])
          exact ⟨by decide, ei_ok fun d H3 he3 hd3 => q d H3 ((he'.tr he2).tr he3) hd3⟩
      · rintro σ H' ⟨u9, u10, rfl, he, hd⟩
        refine hN _ _ ⟨_, _, rfl, he, ?_⟩
        rw [hd, List.length_map, List.drop_of_length_le (by rw [hlen]; decide)]
        rfl
    · rintro σ H1 ⟨u9, u10, rfl, he, hd⟩
      have heT := he _ _ upd_self
      have he := ext0.tr he
      have hv : dueV vs = due2 vs := by unfold dueV; rw [hd]
      rw [hv] at q
      have hal := dueF_none vs 0 (by rw [hlen]; decide) hd
      have h0 := hal 0 a0 (by rw [← hvs]; rfl)
      have h1 := hal 1 a1 (by rw [← hvs]; rfl)
      have h2 := hal 2 a2 (by rw [← hvs]; rfl)
      have h3 := hal 3 a3 (by rw [← hvs]; rfl)
      obtain ⟨l, rfl⟩ := isP_path (hal 4 a4 (by rw [← hvs]; rfl))
      have hl : l.length ≤ (100000 : Nat) := ha (.str l) (by rw [← hvs]; exact .tail _ (.tail _ (.tail _ (.tail _ (.head _)))))
      have n0 := isP_NT h0
      have n2 := isP_NT h2
      have e2 : due2 vs = (if isNo a2 = true ∧ isNo a1 = false then some ("user" : Str) else if isNo a2 = true ∧ isNo a3 = false then some ("port" : Str) else if poss (isNo a0) (isNo a2) (tl l) = false then some ("path" : Str) else none) := by rw [← hvs]; rfl
      rw [e2] at q
      refine seqCps (fun σ H' => σ = [some (.ref (uC K)), some a0, some a1, some a2, some a3, some (.str l), some a5, some a6, some (.ref T), u9, u10] ∧ H' = H1 ∧ ¬ (isNo a2 = true ∧ isNo a1 = false)) (fun Nx hN => ?_) ?_
      · (try simp only [tSeq, tNext, tIfS, tFor_eq, cBl, tOp, tC, cI, cIc, cAdd, cVar, hEq, hNe, hIn, hNotIn, hLen, hSl, tM1, tBM, cT1, cT1f, cFind3, cSplit, cPart, rNewStrs, hIsS, hTru, tAsg, gName, gSub, tRet, tRetN, tCons, tNil, tTup, tLst, tCB, tNot, tAnd, tNotV, tAndV, tOrV, tOr, V.bl.injEq, V.int.injEq, V.str.injEq, exists_eq_left', exists_eq_left, exists_eq', true_and, and_true, cIsN, L2.start, gTup, gCons, gNil, nox_K, cx_K, tCallF, tSl, tPart, tNoPart, iEnum, RZ.iZipA, iRng1, iRng2, cAbs, List.map_cons, List.map_nil, List.length_cons, List.length_nil, List.replicate, List.cons_append, List.nil_append, List.getElem?_cons_zero, List.getElem?_cons_succ, List.getElem?_nil, List.set_cons_zero, List.set_cons_succ, Nat.reduceAdd, Nat.reduceSub, Nat.zero_add, if_true, if_false, reduceIte, reduceCtorEq, Bool.false_eq_true, decide_eq_true_eq, tDrop, cMin2, cJoin, iList, tDNewK, tLc_eq, iStr, wipe])
        by_cases hc : isNo a2 = true ∧ isNo a1 = false
        · have hc1 : a2 = V.non := of_decide_eq_true hc.1
          have hc2 : ¬ a1 = V.non := of_decide_eq_false hc.2
          rw [if_pos hc] at q
          rw [if_pos hc1, if_pos (by rw [decide_eq_false hc2]; rfl)]
          unfold tMkO
          (try simp only [tNext, tFor_eq, cBl, tOp, tC, cI, cIc, cAdd, cVar, hEq, hNe, hIn, hNotIn, hLen, hSl, tM1, tBM, cT1, cT1f, cFind3, cSplit, cPart, rNewStrs, hIsS, hTru, tAsg, gName, gSub, tRet, tRetN, tCons, tNil, tTup, tLst, tCB, tNot, tAnd, tNotV, tAndV, tOrV, tOr, V.bl.injEq, V.int.injEq, V.str.injEq, exists_eq_left', exists_eq_left, exists_eq', true_and, and_true, cIsN, L2.start, gTup, gCons, gNil, nox_K, cx_K, tCallF, tSl, tPart, tNoPart, iEnum, RZ.iZipA, iRng1, iRng2, cAbs, List.map_cons, List.map_nil, List.length_cons, List.length_nil, List.replicate, List.cons_append, List.nil_append, List.getElem?_cons_zero, List.getElem?_cons_succ, List.getElem?_nil, List.set_cons_zero, List.set_cons_succ, Nat.reduceAdd, Nat.reduceSub, Nat.zero_add, if_true, if_false, reduceIte, reduceCtorEq, Bool.false_eq_true, decide_eq_true_eq, tDrop, cMin2, cJoin, iList, tDNewK, tLc_eq, iStr, wipe])
          exact ⟨by decide, ei_ok fun d H3 he3 hd3 => q d H3 (he.tr he3) hd3⟩
        · have := hN _ _ ⟨rfl, rfl, hc⟩
          by_cases hc1 : a2 = V.non
          · rw [if_pos hc1]
            by_cases hc2 : a1 = V.non
            · rw [if_neg (by rw [decide_eq_true hc2]; decide)]
              exact this
            · exact absurd ⟨decide_eq_true hc1, decide_eq_false hc2⟩ hc
          · rw [if_neg hc1]
            exact this
      rintro σ H2 ⟨rfl, rfl, hn1⟩
      rw [if_neg hn1] at q
      refine seqCps (fun σ H' => σ = [some (.ref (uC K)), some a0, some a1, some a2, some a3, some (.str l), some a5, some a6, some (.ref T), u9, u10] ∧ H' = H2 ∧ ¬ (isNo a2 = true ∧ isNo a3 = false)) (fun Nx hN => ?_) ?_
      · (try simp only [tSeq, tNext, tIfS, tFor_eq, cBl, tOp, tC, cI, cIc, cAdd, cVar, hEq, hNe, hIn, hNotIn, hLen, hSl, tM1, tBM, cT1, cT1f, cFind3, cSplit, cPart, rNewStrs, hIsS, hTru, tAsg, gName, gSub, tRet, tRetN, tCons, tNil, tTup, tLst, tCB, tNot, tAnd, tNotV, tAndV, tOrV, tOr, V.bl.injEq, V.int.injEq, V.str.injEq, exists_eq_left', exists_eq_left, exists_eq', true_and, and_true, cIsN, L2.start, gTup, gCons, gNil, nox_K, cx_K, tCallF, tSl, tPart, tNoPart, iEnum, RZ.iZipA, iRng1, iRng2, cAbs, List.map_cons, List.map_nil, List.length_cons, List.length_nil, List.replicate, List.cons_append, List.nil_append, List.getElem?_cons_zero, List.getElem?_cons_succ, List.getElem?_nil, List.set_cons_zero, List.set_cons_succ, Nat.reduceAdd, Nat.reduceSub, Nat.zero_add, if_true, if_false, reduceIte, reduceCtorEq, Bool.false_eq_true, decide_eq_true_eq, tDrop, cMin2, cJoin, iList, tDNewK, tLc_eq, iStr, wipe])
        by_cases hc : isNo a2 = true ∧ isNo a3 = false
        · have hc1 : a2 = V.non := of_decide_eq_true hc.1
          have hc2 : ¬ a3 = V.non := of_decide_eq_false hc.2
          rw [if_pos hc] at q
          rw [if_pos hc1, if_pos (by rw [decide_eq_false hc2]; rfl)]
          unfold tMkO
          (try simp only [tNext, tFor_eq, cBl, tOp, tC, cI, cIc, cAdd, cVar, hEq, hNe, hIn, hNotIn, hLen, hSl, tM1, tBM, cT1, cT1f, cFind3, cSplit, cPart, rNewStrs, hIsS, hTru, tAsg, gName, gSub, tRet, tRetN, tCons, tNil, tTup, tLst, tCB, tNot, tAnd, tNotV, tAndV, tOrV, tOr, V.bl.injEq, V.int.injEq, V.str.injEq, exists_eq_left', exists_eq_left, exists_eq', true_and, and_true, cIsN, L2.start, gTup, gCons, gNil, nox_K, cx_K, tCallF, tSl, tPart, tNoPart, iEnum, RZ.iZipA, iRng1, iRng2, cAbs, List.map_cons, List.map_nil, List.length_cons, List.length_nil, List.replicate, List.cons_append, List.nil_append, List.getElem?_cons_zero, List.getElem?_cons_succ, List.getElem?_nil, List.set_cons_zero, List.set_cons_succ, Nat.reduceAdd, Nat.reduceSub, Nat.zero_add, if_true, if_false, reduceIte, reduceCtorEq, Bool.false_eq_true, decide_eq_true_eq, tDrop, cMin2, cJoin, iList, tDNewK, tLc_eq, iStr, wipe])
          exact ⟨by decide, ei_ok fun d H3 he3 hd3 => q d H3 (he.tr he3) hd3⟩
        · have := hN _ _ ⟨rfl, rfl, hc⟩
          by_cases hc1 : a2 = V.non
          · rw [if_pos hc1]
            by_cases hc2 : a3 = V.non
            · rw [if_neg (by rw [decide_eq_true hc2]; decide)]
              exact this
            · exact absurd ⟨decide_eq_true hc1, decide_eq_false hc2⟩ hc
          · rw [if_neg hc1]
            exact this
      rintro σ H3 ⟨rfl, rfl, hn2⟩
      rw [if_neg hn2] at q
      refine seqCps (fun σ H' => σ = [some (.ref (uC K)), some a0, some a1, some a2, some a3, some (.str l), some a5, some a6, some (.ref T), u9, u10] ∧ Ext H3 H' ∧ poss (isNo a0) (isNo a2) (tl l) = true) (fun Nx hN => ?_) ?_
      · unfold tIfS
        (try simp only [tNext, tFor_eq, cBl, tOp, tC, cI, cIc, cAdd, cVar, hEq, hNe, hIn, hNotIn, hLen, hSl, tM1, tBM, cT1, cT1f, cFind3, cSplit, cPart, rNewStrs, hIsS, hTru, tAsg, gName, gSub, tRet, tRetN, tCons, tNil, tTup, tLst, tCB, tNot, tAnd, tNotV, tAndV, tOrV, tOr, V.bl.injEq, V.int.injEq, V.str.injEq, exists_eq_left', exists_eq_left, exists_eq', true_and, and_true, cIsN, L2.start, gTup, gCons, gNil, nox_K, cx_K, tCallF, tSl, tPart, tNoPart, iEnum, RZ.iZipA, iRng1, iRng2, cAbs, List.map_cons, List.map_nil, List.length_cons, List.length_nil, List.replicate, List.cons_append, List.nil_append, List.getElem?_cons_zero, List.getElem?_cons_succ, List.getElem?_nil, List.set_cons_zero, List.set_cons_succ, Nat.reduceAdd, Nat.reduceSub, Nat.zero_add, if_true, if_false, reduceIte, reduceCtorEq, Bool.false_eq_true, decide_eq_true_eq, tDrop, cMin2, cJoin, iList, tDNewK, tLc_eq, iStr, wipe])
        refine ⟨n0, n2, hl, fun H4 he4 => ?_⟩
        (try simp only [tNext, tFor_eq, cBl, tOp, tC, cI, cIc, cAdd, cVar, hEq, hNe, hIn, hNotIn, hLen, hSl, tM1, tBM, cT1, cT1f, cFind3, cSplit, cPart, rNewStrs, hIsS, hTru, tAsg, gName, gSub, tRet, tRetN, tCons, tNil, tTup, tLst, tCB, tNot, tAnd, tNotV, tAndV, tOrV, tOr, V.bl.injEq, V.int.injEq, V.str.injEq, exists_eq_left', exists_eq_left, exists_eq', true_and, and_true, cIsN, L2.start, gTup, gCons, gNil, nox_K, cx_K, tCallF, tSl, tPart, tNoPart, iEnum, RZ.iZipA, iRng1, iRng2, cAbs, List.map_cons, List.map_nil, List.length_cons, List.length_nil, List.replicate, List.cons_append, List.nil_append, List.getElem?_cons_zero, List.getElem?_cons_succ, List.getElem?_nil, List.set_cons_zero, List.set_cons_succ, Nat.reduceAdd, Nat.reduceSub, Nat.zero_add, if_true, if_false, reduceIte, reduceCtorEq, Bool.false_eq_true, decide_eq_true_eq, tDrop, cMin2, cJoin, iList, tDNewK, tLc_eq, iStr, wipe])
        cases hp : poss (isNo a0) (isNo a2) (tl l) with
        | true =>
          rw [if_neg (by decide)]
          exact hN _ _ ⟨rfl, he4, hp⟩
        | false =>
          rw [hp, if_pos rfl] at q
          rw [if_pos (show (!false) = true from rfl)]
          unfold tMkO
          (try simp only [tNext, tFor_eq, cBl, tOp, tC, cI, cIc, cAdd, cVar, hEq, hNe, hIn, hNotIn, hLen, hSl, tM1, tBM, cT1, cT1f, cFind3, cSplit, cPart, rNewStrs, hIsS, hTru, tAsg, gName, gSub, tRet, tRetN, tCons, tNil, tTup, tLst, tCB, tNot, tAnd, tNotV, tAndV, tOrV, tOr, V.bl.injEq, V.int.injEq, V.str.injEq, exists_eq_left', exists_eq_left, exists_eq', true_and, and_true, cIsN, L2.start, gTup, gCons, gNil, nox_K, cx_K, tCallF, tSl, tPart, tNoPart, iEnum, RZ.iZipA, iRng1, iRng2, cAbs, List.map_cons, List.map_nil, List.length_cons, List.length_nil, List.replicate, List.cons_append, List.nil_append, List.getElem?_cons_zero, List.getElem?_cons_succ, List.getElem?_nil, List.set_cons_zero, List.set_cons_succ, Nat.reduceAdd, Nat.reduceSub, Nat.zero_add, if_true, if_false, reduceIte, reduceCtorEq, Bool.false_eq_true, decide_eq_true_eq, tDrop, cMin2, cJoin, iList, tDNewK, tLc_eq, iStr, wipe])
          exact ⟨by decide, ei_ok fun d H5 he5 hd5 => q d H5 ((he.tr he4).tr he5) hd5⟩
      rintro σ H4 ⟨rfl, he4, hp⟩
      rw [hp, if_neg (by decide)] at q
      (try simp only [tNext, tFor_eq, cBl, tOp, tC, cI, cIc, cAdd, cVar, hEq, hNe, hIn, hNotIn, hLen, hSl, tM1, tBM, cT1, cT1f, cFind3, cSplit, cPart, rNewStrs, hIsS, hTru, tAsg, gName, gSub, tRet, tRetN, tCons, tNil, tTup, tLst, tCB, tNot, tAnd, tNotV, tAndV, tOrV, tOr, V.bl.injEq, V.int.injEq, V.str.injEq, exists_eq_left', exists_eq_left, exists_eq', true_and, and_true, cIsN, L2.start, gTup, gCons, gNil, nox_K, cx_K, tCallF, tSl, tPart, tNoPart, iEnum, RZ.iZipA, iRng1, iRng2, cAbs, List.map_cons, List.map_nil, List.length_cons, List.length_nil, List.replicate, List.cons_append, List.nil_append, List.getElem?_cons_zero, List.getElem?_cons_succ, List.getElem?_nil, List.set_cons_zero, List.set_cons_succ, Nat.reduceAdd, Nat.reduceSub, Nat.zero_add, if_true, if_false, reduceIte, reduceCtorEq, Bool.false_eq_true, decide_eq_true_eq, tDrop, cMin2, cJoin, iList, tDNewK, tLc_eq, iStr, wipe])
      unfold tMakeV
      (try simp only [tNext, tFor_eq, cBl, tOp, tC, cI, cIc, cAdd, cVar, hEq, hNe, hIn, hNotIn, hLen, hSl, tM1, tBM, cT1, cT1f, cFind3, cSplit, cPart, rNewStrs, hIsS, hTru, tAsg, gName, gSub, tRet, tRetN, tCons, tNil, tTup, tLst, tCB, tNot, tAnd, tNotV, tAndV, tOrV, tOr, V.bl.injEq, V.int.injEq, V.str.injEq, exists_eq_left', exists_eq_left, exists_eq', true_and, and_true, cIsN, L2.start, gTup, gCons, gNil, nox_K, cx_K, tCallF, tSl, tPart, tNoPart, iEnum, RZ.iZipA, iRng1, iRng2, cAbs, List.map_cons, List.map_nil, List.length_cons, List.length_nil, List.replicate, List.cons_append, List.nil_append, List.getElem?_cons_zero, List.getElem?_cons_succ, List.getElem?_nil, List.set_cons_zero, List.set_cons_succ, Nat.reduceAdd, Nat.reduceSub, Nat.zero_add, if_true, if_false, reduceIte, reduceCtorEq, Bool.false_eq_true, decide_eq_true_eq, tDrop, cMin2, cJoin, iList, tDNewK, tLc_eq, iStr, wipe])
      refine mk_ok fun x dx H5 he5 hx hx0 => q x H5 ((he.tr he4).tr he5) ⟨dx, T, hx, ?_⟩ ?_
      · exact he5 _ _ (he4 _ _ heT)
      · cases z : H x with
        | none => rfl
        | some o => rw [he4 _ _ (he _ _ z)] at hx0; cases hx0
end
end Da
set_option Elab.async false
set_option linter.all false
set_option maxRecDepth 100000
set_option maxHeartbeats 4000000
namespace Da
open PySem PySem.Spec PyProof.Rows L2 Hd Xs Fx Mi ClX Xr
open TL (tl)
def spEoh : Sp := fun vs H Q _ => match vs with
  | [.str t, .int i] => ∃ h : Nat, i = (h : Nat) ∧ t.length ≤ (100000 : Nat) ∧ h ≤ t.length ∧ Q (.int (eoh (tl t) h : Nat)) H
  | _ => False
theorem brk_one : Str.ofString "[" = ⟨#[91]⟩ := TL.ext_tl (by decide +kernel)
theorem kbr_one : Str.ofString "]" = ⟨#[93]⟩ := TL.ext_tl (by decide +kernel)
theorem at_one' : Str.ofString "@" = ⟨#[64]⟩ := TL.ext_tl (by decide +kernel)
/-- a slice of one sign, compared -/
theorem sl_one {t : Str} {m c : Nat} : cutS t (some (m : Int)) (some ((m : Int) + 1)) = ⟨#[c]⟩ ↔ ((tl t).drop m).take 1 = [c] := by
  have h := cutMN t m (m + 1)
  rw [show ((m + 1 : Nat) : Int) = (m : Int) + 1 by omega, show m + 1 - m = 1 by omega] at h
  constructor
  · intro e
    rw [← h, e]
  · intro e
    exact TL.ext_tl (by rw [h, e])
section
variable {P : Program} {w : World} {K : PySem.W.Frag} {mg : Str → Option Value} {base : Heap}
theorem ok__end_of_host (c : Ct w K mg) : OkF P w K mg base CX0 1 (He.ga K "_end_of_host") ["text", "host_at"] (spEoh) := by
  obtain ⟨fd, F⟩ := F__end_of_host c
  refine ⟨fd, F.ok sc__end_of_host (fun vs H Q E h => ?_) (fun cdv A outer s H vs Q E hr h => ⟨_, PSs.nox ((pss_cons (ps_if (ctc (ho_ne (hu64 hr)) (pe_slice hs_any (cv 0) (po_some (cv 1)) (po_some (pe_op co_add (cv 1) pe_int))) pe_str (by rfl)) (pss_cons (ps_set (i := 2) (sc__end_of_host).nd rfl (Or.inl rfl) (pe_bm PySem.F.plainAttrs_str PySem.F.slot_str_find PySem.F.type_str_find cm_find3 (cv 0) (pa_cons pe_str (pa_cons (cv 1) pa_nil)))) (pss_one (ps_ret (pe_ifExp (ctc co_ge (cv 2) pe_int (by rfl)) (cv 2) (pe_callB hc_len (by rfl) (b_len c) (by decide +kernel) (pa_cons (cv 0) pa_nil)))))) pss_nil) (pss_cons (ps_set (i := 3) (sc__end_of_host).nd rfl (Or.inl rfl) (pe_bm PySem.F.plainAttrs_str PySem.F.slot_str_find PySem.F.type_str_find cm_find3 (cv 0) (pa_cons pe_str (pa_cons (cv 1) pa_nil)))) (pss_cons (ps_if (PW.pt (pw_and (ctc co_ge (cv 3) pe_int (by rfl)) (pw_and1 (ctc (ho_eq (hu64 hr)) (pe_slice hs_any (cv 0) (po_some (pe_op co_add (cv 3) pe_int)) (po_some (pe_op co_add (cv 3) pe_int))) pe_str (by rfl))))) (pss_one (ps_ret (pe_op co_add (cv 3) pe_int))) pss_nil) (pss_one (ps_ret (pe_callB hc_len (by rfl) (b_len c) (by decide +kernel) (pa_cons (cv 0) pa_nil)))))))), ?_⟩), F.bindsN fun _ _ _ _ _ _ us hl => match us, hl with | [_, _], _ => rfl⟩
  · unfold spEoh at h
    split at h
    · rfl
    · exact h.elim
  · unfold spEoh at h
    split at h
    case h_2 => exact h.elim
    rename_i t i
    obtain ⟨h, rfl, ht, hh, q⟩ := h
    have sl := sl
    have hl := TL.len_tl t
    (try simp only [tSeq, tNext, tIfS, tFor_eq, cBl, tOp, tC, cI, cIc, cAdd, cVar, hEq, hNe, hIn, hNotIn, hLen, hSl, tM1, tBM, cT1, cT1f, cFind3, cSplit, cPart, rNewStrs, hIsS, hTru, tAsg, gName, gSub, tRet, tRetN, tCons, tNil, tTup, tLst, tCB, tNot, tAnd, tNotV, tAndV, tOrV, tOr, V.bl.injEq, V.int.injEq, V.str.injEq, exists_eq_left', exists_eq_left, exists_eq', true_and, and_true, cIsN, L2.start, gTup, gCons, gNil, nox_K, cx_K, tCallF, tSl, tPart, tNoPart, iEnum, RZ.iZipA, iRng1, iRng2, cAbs, List.map_cons, List.map_nil, List.length_cons, List.length_nil, List.replicate, List.cons_append, List.nil_append, List.getElem?_cons_zero, List.getElem?_cons_succ, List.getElem?_nil, List.set_cons_zero, List.set_cons_succ, Nat.reduceAdd, Nat.reduceSub, Nat.zero_add, if_true, if_false, reduceIte, reduceCtorEq, Bool.false_eq_true, decide_eq_true_eq, tDrop, cMin2, cJoin, iList, tDNewK, tLc_eq, iStr, wipe])
    refine ⟨by omega, ?_⟩
    unfold eoh at q
    rw [brk_one, kbr_one, colon_one, find3_ix, find3_ix]
    by_cases hb : List.take 1 (List.drop h (tl t)) = [91]
    · rw [if_neg (fun z => z (sl_one.mpr hb))]
      rw [if_pos hb] at q
      refine ⟨rfl, ?_⟩
      cases e : ixf 93 (tl t) h (tl t).length with
      | none =>
        rw [e] at q
        rw [if_neg (show ¬ (0 : Int) ≤ ixI none by decide)]
        exact ⟨by omega, by rw [hl]; exact q⟩
      | some b =>
        rw [e] at q
        have e1 : ixI (some b) + 1 = ((b + 1 : Nat) : Int) := rfl
        have e2 : ixI (some b) + 2 = ((b + 1 : Nat) : Int) + 1 := by show ((b : Nat) : Int) + 2 = _; omega
        rw [if_pos (show (0 : Int) ≤ ixI (some b) from Int.natCast_nonneg b), e1, e2]
        refine ⟨by omega, ?_⟩
        dsimp only at q
        by_cases hc : List.take 1 (List.drop (b + 1) (tl t)) = [58]
        · rw [if_pos hc] at q
          rw [if_pos (sl_one.mpr hc)]
          exact q
        · rw [if_neg hc] at q
          rw [if_neg (fun z => hc (sl_one.mp z))]
          exact ⟨by omega, by rw [hl]; exact q⟩
    · rw [if_pos (fun z => hb (sl_one.mp z))]
      rw [if_neg hb] at q
      refine ⟨rfl, ?_⟩
      unfold tIf
      (try simp only [tSeq, tNext, tIfS, tFor_eq, cBl, tOp, tC, cI, cIc, cAdd, cVar, hEq, hNe, hIn, hNotIn, hLen, hSl, tM1, tBM, cT1, cT1f, cFind3, cSplit, cPart, rNewStrs, hIsS, hTru, tAsg, gName, gSub, tRet, tRetN, tCons, tNil, tTup, tLst, tCB, tNot, tAnd, tNotV, tAndV, tOrV, tOr, V.bl.injEq, V.int.injEq, V.str.injEq, exists_eq_left', exists_eq_left, exists_eq', true_and, and_true, cIsN, L2.start, gTup, gCons, gNil, nox_K, cx_K, tCallF, tSl, tPart, tNoPart, iEnum, RZ.iZipA, iRng1, iRng2, cAbs, List.map_cons, List.map_nil, List.length_cons, List.length_nil, List.replicate, List.cons_append, List.nil_append, List.getElem?_cons_zero, List.getElem?_cons_succ, List.getElem?_nil, List.set_cons_zero, List.set_cons_succ, Nat.reduceAdd, Nat.reduceSub, Nat.zero_add, if_true, if_false, reduceIte, reduceCtorEq, Bool.false_eq_true, decide_eq_true_eq, tDrop, cMin2, cJoin, iList, tDNewK, tLc_eq, iStr, wipe])
      cases e : ixf 58 (tl t) h (tl t).length with
      | none =>
        rw [e] at q
        rw [if_neg (show ¬ (0 : Int) ≤ ixI none by decide)]
        exact ⟨by omega, by rw [hl]; exact q⟩
      | some b =>
        rw [e] at q
        rw [if_pos (show (0 : Int) ≤ ixI (some b) from Int.natCast_nonneg b)]
        exact q
/-- the rows of a split: fresh tuples (name, start, text) in a list -/
def RowAt (H : Hp) (v : V) (r : Nat × Nat × T) : Prop := ∃ q n z, v = .ref q ∧ H q = some (.tup [.str n, .int (r.2.1 : Nat), .str z]) ∧ NM[r.1]? = some n ∧ tl z = r.2.2
abbrev RowsAt (H : Hp) (vs : List V) (rs : List (Nat × Nat × T)) : Prop := Paired (RowAt H) vs rs
theorem paired_snoc {α β : Type} {R : α → β → Prop} : ∀ {xs : List α} {ys : List β} {x : α} {y : β}, Paired R xs ys → R x y → Paired R (xs ++ [x]) (ys ++ [y])
  | _, _, _, _, .nil, h => .cons h .nil
  | _, _, _, _, .cons a r, h => .cons a (paired_snoc r h)
theorem paired_app {α β : Type} {R : α → β → Prop} : ∀ {xs xs' : List α} {ys ys' : List β}, Paired R xs ys → Paired R xs' ys' → Paired R (xs ++ xs') (ys ++ ys')
  | _, _, _, _, .nil, h => h
  | _, _, _, _, .cons a r, h => .cons a (paired_app r h)
theorem paired_imp {α β : Type} {R S : α → β → Prop} (i : ∀ a b, R a b → S a b) : ∀ {xs : List α} {ys : List β}, Paired R xs ys → Paired S xs ys
  | _, _, .nil => .nil
  | _, _, .cons a r => .cons (i _ _ a) (paired_imp i r)
theorem RowAt.upd {H : Hp} {v : V} {r : Nat × Nat × T} {p : Addr} {o : HO} (h : RowAt H v r) (hp : H p = none ∨ ∃ xs, H p = some (.lst xs)) : RowAt (upd H p o) v r := by
  obtain ⟨q, n, z, e, hq, r1, r2⟩ := h
  refine ⟨q, n, z, e, ?_, r1, r2⟩
  rw [upd_ne]
  · exact hq
  · intro e; subst e
    rcases hp with hp | ⟨xs, hp⟩
    · rw [hp] at hq; cases hq
    · rw [hp] at hq; cases hq
theorem RowAt.ext {H H' : Hp} {v : V} {r : Nat × Nat × T} (h : RowAt H v r) (e : Ext H H') : RowAt H' v r := by
  obtain ⟨q, n, z, ev, hq, r1, r2⟩ := h
  exact ⟨q, n, z, ev, e _ _ hq, r1, r2⟩
theorem row_new {H : Hp} {p r : Addr} {us : List V} {rs : List (Nat × Nat × T)} {i s : Nat} {n z : Str} {l : T} (hp : H p = some (.lst us)) (hr : H r = none) (h : RowsAt H us rs) (hn : NM[i]? = some n) (hz : tl z = l) :
    RowsAt (upd (upd H r (.tup [.str n, .int (s : Nat), .str z])) p (.lst (us ++ [.ref r]))) (us ++ [.ref r]) (rs ++ [(i, s, l)]) := by
  have hp' : upd H r (.tup [.str n, .int (s : Nat), .str z]) p = some (.lst us) := upd_old hp hr
  refine paired_snoc (paired_imp (fun a b h => (h.upd (.inl hr)).upd (.inr ⟨_, hp'⟩)) h) ⟨r, n, z, rfl, ?_, hn, hz⟩
  rw [upd_ne (ne_none hp hr).symm]
  exact upd_self
def spSplA : Sp := fun vs H Q _ => match vs with
  | [.str t, .int i] => ∃ st : Nat, i = (st : Nat) ∧ t.length ≤ (100000 : Nat) ∧ ∀ p us H', Ext H H' → H p = none → H' p = some (.lst us) → RowsAt H' us (splA (tl t) st) → Q (.ref p) H'
  | _ => False
theorem ok__split_authority (c : Ct w K mg) : OkF P w K mg base CX0 2 (He.ga K "_split_authority") ["text", "start"] (spSplA) := by
  obtain ⟨fd, F⟩ := F__split_authority c
  refine ⟨fd, F.ok sc__split_authority (fun vs H Q E h => ?_) (fun cdv A outer s H vs Q E hr h => ⟨_, PSs.nox ((pss_cons (ps_set (i := 2) (sc__split_authority).nd rfl (Or.inl rfl) (pe_lst pa_nil)) (pss_cons (ps_set (i := 3) (sc__split_authority).nd rfl (Or.inl rfl) (pe_op co_add (pe_m1 PySem.F.slot_str_find PySem.F.type_str_find cm_find (cv 0) pe_str) pe_int)) (pss_cons (ps_if (ctc co_gt (cv 3) pe_int (by rfl)) (pss_one (ps_expr (pe_bm PySem.F.plainAttrs_list PySem.F.slot_list_append PySem.F.type_list_append mt_append (cv 2) (pa_cons (pe_tup (pa_cons pe_str (pa_cons (cv 1) (pa_cons (pe_slice hs_any (cv 0) po_none (po_some (pe_op co_sub (cv 3) pe_int))) pa_nil)))) pa_nil)))) pss_nil) (pss_cons (ps_set (i := 4) (sc__split_authority).nd rfl (Or.inl rfl) (pf (ok__end_of_host c) (hr.mono (by decide)) (g__end_of_host c) (k__end_of_host c) pass0 (pa_cons (cv 0) (pa_cons (cv 3) pa_nil)))) (pss_cons (ps_expr (pe_bm PySem.F.plainAttrs_list PySem.F.slot_list_append PySem.F.type_list_append mt_append (cv 2) (pa_cons (pe_tup (pa_cons pe_str (pa_cons (pe_op co_add (cv 1) (cv 3)) (pa_cons (pe_slice hs_any (cv 0) (po_some (cv 3)) (po_some (cv 4))) pa_nil)))) pa_nil))) (pss_cons (ps_if (ctc co_lt (cv 4) (pe_callB hc_len (by rfl) (b_len c) (by decide +kernel) (pa_cons (cv 0) pa_nil)) (by rfl)) (pss_one (ps_expr (pe_bm PySem.F.plainAttrs_list PySem.F.slot_list_append PySem.F.type_list_append mt_append (cv 2) (pa_cons (pe_tup (pa_cons pe_str (pa_cons (pe_op co_add (pe_op co_add (cv 1) (cv 4)) pe_int) (pa_cons (pe_slice hs_any (cv 0) (po_some (pe_op co_add (cv 4) pe_int)) po_none) pa_nil)))) pa_nil)))) pss_nil) (pss_one (ps_ret (cv 2)))))))))), ?_⟩), F.bindsN fun _ _ _ _ _ _ us hl => match us, hl with | [_, _], _ => rfl⟩
  · unfold spSplA at h
    split at h
    · rfl
    · exact h.elim
  · unfold spSplA at h
    split at h
    case h_2 => exact h.elim
    rename_i t i
    obtain ⟨st, rfl, ht, q⟩ := h
    have sl := sl
    have hl := TL.len_tl t
    refine seqStep ?_
    (try simp only [tNext, tFor_eq, cBl, tOp, tC, cI, cIc, cAdd, cVar, hEq, hNe, hIn, hNotIn, hLen, hSl, tM1, tBM, cT1, cT1f, cFind3, cSplit, cPart, rNewStrs, hIsS, hTru, tAsg, gName, gSub, tRet, tRetN, tCons, tNil, tTup, tLst, tCB, tNot, tAnd, tNotV, tAndV, tOrV, tOr, V.bl.injEq, V.int.injEq, V.str.injEq, exists_eq_left', exists_eq_left, exists_eq', true_and, and_true, cIsN, L2.start, gTup, gCons, gNil, nox_K, cx_K, tCallF, tSl, tPart, tNoPart, iEnum, RZ.iZipA, iRng1, iRng2, cAbs, List.map_cons, List.map_nil, List.length_cons, List.length_nil, List.replicate, List.cons_append, List.nil_append, List.getElem?_cons_zero, List.getElem?_cons_succ, List.getElem?_nil, List.set_cons_zero, List.set_cons_succ, Nat.reduceAdd, Nat.reduceSub, Nat.zero_add, if_true, if_false, reduceIte, reduceCtorEq, Bool.false_eq_true, decide_eq_true_eq, tDrop, cMin2, cJoin, iList, tDNewK, tLc_eq, iStr, wipe])
    refine ⟨by omega, fun p hp => ?_⟩
    refine seqStep ?_
    (try simp only [tNext, tFor_eq, cBl, tOp, tC, cI, cIc, cAdd, cVar, hEq, hNe, hIn, hNotIn, hLen, hSl, tM1, tBM, cT1, cT1f, cFind3, cSplit, cPart, rNewStrs, hIsS, hTru, tAsg, gName, gSub, tRet, tRetN, tCons, tNil, tTup, tLst, tCB, tNot, tAnd, tNotV, tAndV, tOrV, tOr, V.bl.injEq, V.int.injEq, V.str.injEq, exists_eq_left', exists_eq_left, exists_eq', true_and, and_true, cIsN, L2.start, gTup, gCons, gNil, nox_K, cx_K, tCallF, tSl, tPart, tNoPart, iEnum, RZ.iZipA, iRng1, iRng2, cAbs, List.map_cons, List.map_nil, List.length_cons, List.length_nil, List.replicate, List.cons_append, List.nil_append, List.getElem?_cons_zero, List.getElem?_cons_succ, List.getElem?_nil, List.set_cons_zero, List.set_cons_succ, Nat.reduceAdd, Nat.reduceSub, Nat.zero_add, if_true, if_false, reduceIte, reduceCtorEq, Bool.false_eq_true, decide_eq_true_eq, tDrop, cMin2, cJoin, iList, tDNewK, tLc_eq, iStr, wipe])
    have hh : Txt.find t (Str.ofString "@") + 1 = ((hostAt (tl t) : Nat) : Int) := by
      rw [at_one', find_ix]
      unfold hostAt
      cases ixf 64 (tl t) 0 (tl t).length <;> rfl
    have hhl : hostAt (tl t) ≤ (tl t).length := by
      unfold hostAt
      cases e : ixf 64 (tl t) 0 (tl t).length with
      | none => exact Nat.zero_le _
      | some k =>
        have := ixf_lt e
        show k + 1 ≤ _
        omega
    rw [hh]
    unfold splA at q
    generalize hostAt (tl t) = h at *
    have he0 : Ext H (upd H p (.lst [])) := Ext.rf.fresh hp
    refine seqCps (fun σ H1 => ∃ us, σ = [some (.str t), some (.int (st : Nat)), some (.ref p), some (.int (h : Nat)), none] ∧ H1 p = some (.lst us) ∧ us.length ≤ 1 ∧ Ext H H1 ∧ RowsAt H1 us (if 0 < h then [(1, st, (tl t).take (h - 1))] else [])) (fun Nx hN => ?_) ?_
    · (try simp only [tSeq, tNext, tIfS, tFor_eq, cBl, tOp, tC, cI, cIc, cAdd, cVar, hEq, hNe, hIn, hNotIn, hLen, hSl, tM1, tBM, cT1, cT1f, cFind3, cSplit, cPart, rNewStrs, hIsS, hTru, tAsg, gName, gSub, tRet, tRetN, tCons, tNil, tTup, tLst, tCB, tNot, tAnd, tNotV, tAndV, tOrV, tOr, V.bl.injEq, V.int.injEq, V.str.injEq, exists_eq_left', exists_eq_left, exists_eq', true_and, and_true, cIsN, L2.start, gTup, gCons, gNil, nox_K, cx_K, tCallF, tSl, tPart, tNoPart, iEnum, RZ.iZipA, iRng1, iRng2, cAbs, List.map_cons, List.map_nil, List.length_cons, List.length_nil, List.replicate, List.cons_append, List.nil_append, List.getElem?_cons_zero, List.getElem?_cons_succ, List.getElem?_nil, List.set_cons_zero, List.set_cons_succ, Nat.reduceAdd, Nat.reduceSub, Nat.zero_add, if_true, if_false, reduceIte, reduceCtorEq, Bool.false_eq_true, decide_eq_true_eq, tDrop, cMin2, cJoin, iList, tDNewK, tLc_eq, iStr, wipe])
      by_cases h0 : 0 < h
      · rw [if_pos h0] at hN
        rw [if_pos (by omega)]
        refine ⟨tyL upd_self, by omega, by omega, fun r hr => append_at (upd_old upd_self hr) (by simp only [List.length_nil]; omega) ?_⟩
        have e : ((h : Nat) : Int) - 1 = ((h - 1 : Nat) : Int) := by omega
        rw [e]
        exact hN _ _ ⟨_, rfl, upd_self, by simp, (he0.fresh hr).new hp, row_new (us := []) (rs := []) (i := 1) (n := "user") upd_self hr .nil rfl (cut0 t (h - 1))⟩
      · rw [if_neg h0] at hN
        rw [if_neg (by omega)]
        exact hN _ _ ⟨[], rfl, upd_self, by simp, he0, .nil⟩
    · rintro σ H1 ⟨us, rfl, hus, hul, he, hr⟩
      generalize (if 0 < h then [(1, st, (tl t).take (h - 1))] else [] : List (Nat × Nat × T)) = rs1 at *
      refine seqStep ?_
      (try simp only [tNext, tFor_eq, cBl, tOp, tC, cI, cIc, cAdd, cVar, hEq, hNe, hIn, hNotIn, hLen, hSl, tM1, tBM, cT1, cT1f, cFind3, cSplit, cPart, rNewStrs, hIsS, hTru, tAsg, gName, gSub, tRet, tRetN, tCons, tNil, tTup, tLst, tCB, tNot, tAnd, tNotV, tAndV, tOrV, tOr, V.bl.injEq, V.int.injEq, V.str.injEq, exists_eq_left', exists_eq_left, exists_eq', true_and, and_true, cIsN, L2.start, gTup, gCons, gNil, nox_K, cx_K, tCallF, tSl, tPart, tNoPart, iEnum, RZ.iZipA, iRng1, iRng2, cAbs, List.map_cons, List.map_nil, List.length_cons, List.length_nil, List.replicate, List.cons_append, List.nil_append, List.getElem?_cons_zero, List.getElem?_cons_succ, List.getElem?_nil, List.set_cons_zero, List.set_cons_succ, Nat.reduceAdd, Nat.reduceSub, Nat.zero_add, if_true, if_false, reduceIte, reduceCtorEq, Bool.false_eq_true, decide_eq_true_eq, tDrop, cMin2, cJoin, iList, tDNewK, tLc_eq, iStr, wipe])
      refine ⟨h, rfl, ht, by omega, ?_⟩
      (try simp only [tNext, tFor_eq, cBl, tOp, tC, cI, cIc, cAdd, cVar, hEq, hNe, hIn, hNotIn, hLen, hSl, tM1, tBM, cT1, cT1f, cFind3, cSplit, cPart, rNewStrs, hIsS, hTru, tAsg, gName, gSub, tRet, tRetN, tCons, tNil, tTup, tLst, tCB, tNot, tAnd, tNotV, tAndV, tOrV, tOr, V.bl.injEq, V.int.injEq, V.str.injEq, exists_eq_left', exists_eq_left, exists_eq', true_and, and_true, cIsN, L2.start, gTup, gCons, gNil, nox_K, cx_K, tCallF, tSl, tPart, tNoPart, iEnum, RZ.iZipA, iRng1, iRng2, cAbs, List.map_cons, List.map_nil, List.length_cons, List.length_nil, List.replicate, List.cons_append, List.nil_append, List.getElem?_cons_zero, List.getElem?_cons_succ, List.getElem?_nil, List.set_cons_zero, List.set_cons_succ, Nat.reduceAdd, Nat.reduceSub, Nat.zero_add, if_true, if_false, reduceIte, reduceCtorEq, Bool.false_eq_true, decide_eq_true_eq, tDrop, cMin2, cJoin, iList, tDNewK, tLc_eq, iStr, wipe])
      have hel : h ≤ eoh (tl t) h ∧ eoh (tl t) h ≤ (tl t).length := eoh_le hhl
      generalize eoh (tl t) h = c0 at *
      refine seqCps (fun σ H1 => ∃ us, σ = [some (.str t), some (.int (st : Nat)), some (.ref p), some (.int (h : Nat)), some (.int (c0 : Nat))] ∧ H1 p = some (.lst us) ∧ us.length ≤ 2 ∧ Ext H H1 ∧ RowsAt H1 us (rs1 ++ [(2, st + h, ((tl t).drop h).take (c0 - h))])) (fun Nx hN => ?_) ?_
      · (try simp only [tSeq, tNext, tIfS, tFor_eq, cBl, tOp, tC, cI, cIc, cAdd, cVar, hEq, hNe, hIn, hNotIn, hLen, hSl, tM1, tBM, cT1, cT1f, cFind3, cSplit, cPart, rNewStrs, hIsS, hTru, tAsg, gName, gSub, tRet, tRetN, tCons, tNil, tTup, tLst, tCB, tNot, tAnd, tNotV, tAndV, tOrV, tOr, V.bl.injEq, V.int.injEq, V.str.injEq, exists_eq_left', exists_eq_left, exists_eq', true_and, and_true, cIsN, L2.start, gTup, gCons, gNil, nox_K, cx_K, tCallF, tSl, tPart, tNoPart, iEnum, RZ.iZipA, iRng1, iRng2, cAbs, List.map_cons, List.map_nil, List.length_cons, List.length_nil, List.replicate, List.cons_append, List.nil_append, List.getElem?_cons_zero, List.getElem?_cons_succ, List.getElem?_nil, List.set_cons_zero, List.set_cons_succ, Nat.reduceAdd, Nat.reduceSub, Nat.zero_add, if_true, if_false, reduceIte, reduceCtorEq, Bool.false_eq_true, decide_eq_true_eq, tDrop, cMin2, cJoin, iList, tDNewK, tLc_eq, iStr, wipe])
        refine ⟨tyL hus, by omega, by omega, fun r hr2 => append_at (upd_old hus hr2) (by omega) ?_⟩
        have e : ((st : Nat) : Int) + ((h : Nat) : Int) = ((st + h : Nat) : Int) := by omega
        rw [e]
        exact hN _ _ ⟨_, rfl, upd_self, by simp only [List.length_append, List.length_cons, List.length_nil]; omega, (he.fresh hr2).new hp, row_new (i := 2) (n := "host") hus hr2 hr rfl (cutMN t h c0)⟩
      · rintro σ H2 ⟨us2, rfl, hus2, hul2, he2, hr2⟩
        (try simp only [tSeq, tNext, tIfS, tFor_eq, cBl, tOp, tC, cI, cIc, cAdd, cVar, hEq, hNe, hIn, hNotIn, hLen, hSl, tM1, tBM, cT1, cT1f, cFind3, cSplit, cPart, rNewStrs, hIsS, hTru, tAsg, gName, gSub, tRet, tRetN, tCons, tNil, tTup, tLst, tCB, tNot, tAnd, tNotV, tAndV, tOrV, tOr, V.bl.injEq, V.int.injEq, V.str.injEq, exists_eq_left', exists_eq_left, exists_eq', true_and, and_true, cIsN, L2.start, gTup, gCons, gNil, nox_K, cx_K, tCallF, tSl, tPart, tNoPart, iEnum, RZ.iZipA, iRng1, iRng2, cAbs, List.map_cons, List.map_nil, List.length_cons, List.length_nil, List.replicate, List.cons_append, List.nil_append, List.getElem?_cons_zero, List.getElem?_cons_succ, List.getElem?_nil, List.set_cons_zero, List.set_cons_succ, Nat.reduceAdd, Nat.reduceSub, Nat.zero_add, if_true, if_false, reduceIte, reduceCtorEq, Bool.false_eq_true, decide_eq_true_eq, tDrop, cMin2, cJoin, iList, tDNewK, tLc_eq, iStr, wipe])
        refine ⟨by omega, ?_⟩
        rw [hl]
        by_cases hc : c0 < (tl t).length
        · rw [if_pos hc] at q
          rw [if_pos (by omega)]
          refine ⟨tyL hus2, by omega, by omega, fun r hr3 => append_at (upd_old hus2 hr3) (by omega) ?_⟩
          have e : ((st : Nat) : Int) + ((c0 : Nat) : Int) + 1 = ((st + c0 + 1 : Nat) : Int) := by omega
          have e2 : ((c0 : Nat) : Int) + 1 = ((c0 + 1 : Nat) : Int) := by omega
          rw [e, e2]
          refine q _ _ _ ((he2.fresh hr3).new hp) hp upd_self ?_
          have := row_new (i := 3) (n := "port") (s := st + c0 + 1) hus2 hr3 hr2 rfl (cutN t (c0 + 1))
          rw [List.append_assoc] at this
          exact this
        · rw [if_neg hc, List.append_nil] at q
          rw [if_neg (by omega)]
          exact q _ _ _ he2 hp hus2 hr2
def spSplB : Sp := fun vs H Q _ => match vs with
  | [.str t] => t.length ≤ (100000 : Nat) ∧ ∀ p us H', Ext H H' → H p = none → H' p = some (.lst us) → RowsAt H' us (splB (tl t)) → Q (.ref p) H'
  | _ => False
theorem ok__split_beginning (c : Ct w K mg) : OkF P w K mg base CX0 3 (He.ga K "_split_beginning") ["text"] (spSplB) := by
  obtain ⟨fd, F⟩ := F__split_beginning c
  refine ⟨fd, F.ok sc__split_beginning (fun vs H Q E h => ?_) (fun cdv A outer s H vs Q E hr h => ⟨_, PSs.nox ((pss_cons (ps_set (i := 1) (sc__split_beginning).nd rfl (Or.inl rfl) (pe_lst pa_nil)) (pss_cons (ps_set (i := 2) (sc__split_beginning).nd rfl (Or.inl rfl) pe_int) (pss_cons (ps_if (ctc ho_in pe_str (hix (pe_m1 PySem.F.slot_str_partition PySem.F.type_str_partition cm_partition (cv 0) pe_str) pe_int) (by rfl)) (pss_cons (ps_set (i := 3) (sc__split_beginning).nd rfl (Or.inl rfl) (pe_m1 PySem.F.slot_str_find PySem.F.type_str_find cm_find (cv 0) pe_str)) (pss_cons (ps_expr (pe_bm PySem.F.plainAttrs_list PySem.F.slot_list_append PySem.F.type_list_append mt_append (cv 1) (pa_cons (pe_tup (pa_cons pe_str (pa_cons pe_int (pa_cons (pe_slice hs_any (cv 0) po_none (po_some (cv 3))) pa_nil)))) pa_nil))) (pss_one (ps_set (i := 2) (sc__split_beginning).nd rfl (Or.inl rfl) (pe_op co_add (cv 3) pe_int))))) pss_nil) (pss_cons (ps_if (ctc (ho_eq (hu64 hr)) (pe_slice hs_any (cv 0) (po_some (cv 2)) (po_some (pe_op co_add (cv 2) pe_int))) pe_str (by rfl)) (pss_cons (ps_set (i := 4) (sc__split_beginning).nd rfl (Or.inl rfl) (hix (pe_m1 PySem.F.slot_str_partition PySem.F.type_str_partition cm_partition (pe_slice hs_any (cv 0) (po_some (pe_op co_add (cv 2) pe_int)) po_none) pe_str) pe_int)) (pss_cons (ps_expr (pe_bm PySem.F.plainAttrs_list PySem.F.slot_list_extend PySem.F.type_list_extend mt_extend (cv 1) (pa_cons (pf (ok__split_authority c) (hr.mono (by decide)) (g__split_authority c) (k__split_authority c) pass0 (pa_cons (cv 4) (pa_cons (pe_op co_add (cv 2) pe_int) pa_nil))) pa_nil))) (pss_one (ps_set (i := 2) (sc__split_beginning).nd rfl (Or.inl rfl) (pe_op co_add (pe_op co_add (cv 2) pe_int) (pe_callB hc_len (by rfl) (b_len c) (by decide +kernel) (pa_cons (cv 4) pa_nil))))))) pss_nil) (pss_cons (ps_expr (pe_bm PySem.F.plainAttrs_list PySem.F.slot_list_append PySem.F.type_list_append mt_append (cv 1) (pa_cons (pe_tup (pa_cons pe_str (pa_cons (cv 2) (pa_cons (pe_slice hs_any (cv 0) (po_some (cv 2)) po_none) pa_nil)))) pa_nil))) (pss_one (ps_ret (cv 1))))))))), ?_⟩), F.bindsN fun _ _ _ _ _ _ us hl => match us, hl with | [_], _ => rfl⟩
  · unfold spSplB at h
    split at h
    · rfl
    · exact h.elim
  · unfold spSplB at h
    split at h
    case h_2 => exact h.elim
    rename_i t
    obtain ⟨ht, q⟩ := h
    have sl := sl
    have hl := TL.len_tl t
    refine seqStep ?_
    (try simp only [tNext, tFor_eq, cBl, tOp, tC, cI, cIc, cAdd, cVar, hEq, hNe, hIn, hNotIn, hLen, hSl, tM1, tBM, cT1, cT1f, cFind3, cSplit, cPart, rNewStrs, hIsS, hTru, tAsg, gName, gSub, tRet, tRetN, tCons, tNil, tTup, tLst, tCB, tNot, tAnd, tNotV, tAndV, tOrV, tOr, V.bl.injEq, V.int.injEq, V.str.injEq, exists_eq_left', exists_eq_left, exists_eq', true_and, and_true, cIsN, L2.start, gTup, gCons, gNil, nox_K, cx_K, tCallF, tSl, tPart, tNoPart, iEnum, RZ.iZipA, iRng1, iRng2, cAbs, List.map_cons, List.map_nil, List.length_cons, List.length_nil, List.replicate, List.cons_append, List.nil_append, List.getElem?_cons_zero, List.getElem?_cons_succ, List.getElem?_nil, List.set_cons_zero, List.set_cons_succ, Nat.reduceAdd, Nat.reduceSub, Nat.zero_add, if_true, if_false, reduceIte, reduceCtorEq, Bool.false_eq_true, decide_eq_true_eq, tDrop, cMin2, cJoin, iList, tDNewK, tLc_eq, iStr, wipe])
    refine ⟨by omega, fun p hp => ?_⟩
    refine seqStep ?_
    (try simp only [tNext, tFor_eq, cBl, tOp, tC, cI, cIc, cAdd, cVar, hEq, hNe, hIn, hNotIn, hLen, hSl, tM1, tBM, cT1, cT1f, cFind3, cSplit, cPart, rNewStrs, hIsS, hTru, tAsg, gName, gSub, tRet, tRetN, tCons, tNil, tTup, tLst, tCB, tNot, tAnd, tNotV, tAndV, tOrV, tOr, V.bl.injEq, V.int.injEq, V.str.injEq, exists_eq_left', exists_eq_left, exists_eq', true_and, and_true, cIsN, L2.start, gTup, gCons, gNil, nox_K, cx_K, tCallF, tSl, tPart, tNoPart, iEnum, RZ.iZipA, iRng1, iRng2, cAbs, List.map_cons, List.map_nil, List.length_cons, List.length_nil, List.replicate, List.cons_append, List.nil_append, List.getElem?_cons_zero, List.getElem?_cons_succ, List.getElem?_nil, List.set_cons_zero, List.set_cons_succ, Nat.reduceAdd, Nat.reduceSub, Nat.zero_add, if_true, if_false, reduceIte, reduceCtorEq, Bool.false_eq_true, decide_eq_true_eq, tDrop, cMin2, cJoin, iList, tDNewK, tLc_eq, iStr, wipe])
    have he0 : Ext H (upd H p (.lst [])) := Ext.rf.fresh hp
    refine seqCps (fun σ H1 => ∃ us u3 u4, σ = [some (.str t), some (.ref p), some (.int (schAt (tl t) : Nat)), u3, u4] ∧ H1 p = some (.lst us) ∧ Ext H H1 ∧ RowsAt H1 us (if (bef 47 (tl t)).contains 58 = true then [(0, 0, (tl t).take (schAt (tl t) - 1))] else [])) (fun Nx hN => ?_) ?_
    · unfold tIfS
      (try simp only [tNext, tFor_eq, cBl, tOp, tC, cI, cIc, cAdd, cVar, hEq, hNe, hIn, hNotIn, hLen, hSl, tM1, tBM, cT1, cT1f, cFind3, cSplit, cPart, rNewStrs, hIsS, hTru, tAsg, gName, gSub, tRet, tRetN, tCons, tNil, tTup, tLst, tCB, tNot, tAnd, tNotV, tAndV, tOrV, tOr, V.bl.injEq, V.int.injEq, V.str.injEq, exists_eq_left', exists_eq_left, exists_eq', true_and, and_true, cIsN, L2.start, gTup, gCons, gNil, nox_K, cx_K, tCallF, tSl, tPart, tNoPart, iEnum, RZ.iZipA, iRng1, iRng2, cAbs, List.map_cons, List.map_nil, List.length_cons, List.length_nil, List.replicate, List.cons_append, List.nil_append, List.getElem?_cons_zero, List.getElem?_cons_succ, List.getElem?_nil, List.set_cons_zero, List.set_cons_succ, Nat.reduceAdd, Nat.reduceSub, Nat.zero_add, if_true, if_false, reduceIte, reduceCtorEq, Bool.false_eq_true, decide_eq_true_eq, tDrop, cMin2, cJoin, iList, tDNewK, tLc_eq, iStr, wipe])
      refine ⟨by decide, by omega, fun r hr => ?_⟩
      refine hIx_tup upd_self (atI_zero _ _) ?_
      (try simp only [tSeq, tNext, tIfS, tFor_eq, cBl, tOp, tC, cI, cIc, cAdd, cVar, hEq, hNe, hIn, hNotIn, hLen, hSl, tM1, tBM, cT1, cT1f, cFind3, cSplit, cPart, rNewStrs, hIsS, hTru, tAsg, gName, gSub, tRet, tRetN, tCons, tNil, tTup, tLst, tCB, tNot, tAnd, tNotV, tAndV, tOrV, tOr, V.bl.injEq, V.int.injEq, V.str.injEq, exists_eq_left', exists_eq_left, exists_eq', true_and, and_true, cIsN, L2.start, gTup, gCons, gNil, nox_K, cx_K, tCallF, tSl, tPart, tNoPart, iEnum, RZ.iZipA, iRng1, iRng2, cAbs, List.map_cons, List.map_nil, List.length_cons, List.length_nil, List.replicate, List.cons_append, List.nil_append, List.getElem?_cons_zero, List.getElem?_cons_succ, List.getElem?_nil, List.set_cons_zero, List.set_cons_succ, Nat.reduceAdd, Nat.reduceSub, Nat.zero_add, if_true, if_false, reduceIte, reduceCtorEq, Bool.false_eq_true, decide_eq_true_eq, tDrop, cMin2, cJoin, iList, tDNewK, tLc_eq, iStr, wipe])
      have hc := (part_cut t 47).1
      rw [slash_one, colon_one, isIn_one, hc, find_ix]
      unfold schAt at hN
      cases hb : (bef 47 (tl t)).contains 58 with
      | false =>
        rw [if_neg (by decide)]
        simp only [hb, Bool.false_eq_true, if_false] at hN
        exact hN _ _ ⟨[], _, _, rfl, upd_old upd_self hr, he0.fresh hr, .nil⟩
      | true =>
        rw [if_pos rfl]
        simp only [hb, if_true] at hN
        rw [ixf_all, if_pos (bef_mem hb)] at hN ⊢
        refine ⟨tyL (upd_old upd_self hr), by omega, by omega, fun r2 hr2 => append_at (upd_old (upd_old upd_self hr) hr2) (by simp only [List.length_nil]; omega) ?_⟩
        refine hN _ _ ⟨_, _, _, rfl, upd_self, ((he0.fresh hr).fresh hr2).new hp, ?_⟩
        exact row_new (us := []) (rs := []) (i := 0) (n := "scheme") (s := 0) (upd_old upd_self hr) hr2 .nil rfl (cut0 t _)
    · rintro σ H1 ⟨us, u3, u4, rfl, hus, he, hr⟩
      unfold splB at q
      have hsl : schAt (tl t) ≤ (tl t).length := by
        unfold schAt
        split
        · rename_i hb
          rw [ixf_all, if_pos (bef_mem hb)]
          have := congrArg List.length (bef_aft (bef_mem hb))
          simp only [List.length_append, List.length_cons] at this
          show (bef 58 (tl t)).length + 1 ≤ _
          omega
        · exact Nat.zero_le _
      generalize schAt (tl t) = s0 at *
      have hrl : (if (bef 47 (tl t)).contains 58 = true then [(0, 0, (tl t).take (s0 - 1))] else [] : List (Nat × Nat × T)).length ≤ 1 := by split <;> simp
      generalize (if (bef 47 (tl t)).contains 58 = true then [(0, 0, (tl t).take (s0 - 1))] else [] : List (Nat × Nat × T)) = rs1 at *
      have hul := hr.length
      have c2 := cutMN t s0 (s0 + 2)
      have c3 := cutN t (s0 + 2)
      have c3l := cutS_len t (some ((s0 + 2 : Nat) : Int)) none
      have e2 : ((s0 : Nat) : Int) + 2 = ((s0 + 2 : Nat) : Int) := by omega
      have e47 : tl (Str.ofString "//") = [47, 47] := by decide +kernel
      rw [show s0 + 2 - s0 = 2 by omega] at c2
      refine seqCps (fun σ H2 => ∃ us s1 rsA u3 u4, σ = [some (.str t), some (.ref p), some (.int (s1 : Nat)), u3, u4] ∧ H2 p = some (.lst us) ∧ Ext H H2 ∧ RowsAt H2 us (rs1 ++ rsA) ∧ rsA.length ≤ 3 ∧
        (if (tl t |>.drop s0).take 2 = [47, 47] then s1 = s0 + 2 + (bef 47 ((tl t).drop (s0 + 2))).length ∧ rsA = splA (bef 47 ((tl t).drop (s0 + 2))) (s0 + 2) else s1 = s0 ∧ rsA = [])) (fun Nx hN => ?_) ?_
      · (try simp only [tSeq, tNext, tIfS, tFor_eq, cBl, tOp, tC, cI, cIc, cAdd, cVar, hEq, hNe, hIn, hNotIn, hLen, hSl, tM1, tBM, cT1, cT1f, cFind3, cSplit, cPart, rNewStrs, hIsS, hTru, tAsg, gName, gSub, tRet, tRetN, tCons, tNil, tTup, tLst, tCB, tNot, tAnd, tNotV, tAndV, tOrV, tOr, V.bl.injEq, V.int.injEq, V.str.injEq, exists_eq_left', exists_eq_left, exists_eq', true_and, and_true, cIsN, L2.start, gTup, gCons, gNil, nox_K, cx_K, tCallF, tSl, tPart, tNoPart, iEnum, RZ.iZipA, iRng1, iRng2, cAbs, List.map_cons, List.map_nil, List.length_cons, List.length_nil, List.replicate, List.cons_append, List.nil_append, List.getElem?_cons_zero, List.getElem?_cons_succ, List.getElem?_nil, List.set_cons_zero, List.set_cons_succ, Nat.reduceAdd, Nat.reduceSub, Nat.zero_add, if_true, if_false, reduceIte, reduceCtorEq, Bool.false_eq_true, decide_eq_true_eq, tDrop, cMin2, cJoin, iList, tDNewK, tLc_eq, iStr, wipe])
        rw [e2]
        refine ⟨by omega, ?_⟩
        by_cases hd : (tl t |>.drop s0).take 2 = [47, 47]
        · rw [if_pos (TL.ext_tl (by rw [c2, hd, e47]))]
          simp only [if_pos hd] at hN
          refine ⟨by omega, rfl, by omega, fun r hr2 => ?_⟩
          refine hIx_tup upd_self (atI_zero _ _) ?_
          (try simp only [tSeq, tNext, tIfS, tFor_eq, cBl, tOp, tC, cI, cIc, cAdd, cVar, hEq, hNe, hIn, hNotIn, hLen, hSl, tM1, tBM, cT1, cT1f, cFind3, cSplit, cPart, rNewStrs, hIsS, hTru, tAsg, gName, gSub, tRet, tRetN, tCons, tNil, tTup, tLst, tCB, tNot, tAnd, tNotV, tAndV, tOrV, tOr, V.bl.injEq, V.int.injEq, V.str.injEq, exists_eq_left', exists_eq_left, exists_eq', true_and, and_true, cIsN, L2.start, gTup, gCons, gNil, nox_K, cx_K, tCallF, tSl, tPart, tNoPart, iEnum, RZ.iZipA, iRng1, iRng2, cAbs, List.map_cons, List.map_nil, List.length_cons, List.length_nil, List.replicate, List.cons_append, List.nil_append, List.getElem?_cons_zero, List.getElem?_cons_succ, List.getElem?_nil, List.set_cons_zero, List.set_cons_succ, Nat.reduceAdd, Nat.reduceSub, Nat.zero_add, if_true, if_false, reduceIte, reduceCtorEq, Bool.false_eq_true, decide_eq_true_eq, tDrop, cMin2, cJoin, iList, tDNewK, tLc_eq, iStr, wipe])
          rw [slash_one]
          have pc := (part_cut (cutS t (some ((s0 + 2 : Nat) : Int)) none) 47).1
          rw [c3] at pc
          generalize hau : (Txt.partition (cutS t (some ((s0 + 2 : Nat) : Int)) none) ⟨#[47]⟩).1 = au at *
          have haul : au.length ≤ (100000 : Nat) := by
            rw [TL.len_tl, pc]
            have : (bef 47 ((tl t).drop (s0 + 2))).length ≤ ((tl t).drop (s0 + 2)).length := (List.takeWhile_sublist _).length_le
            rw [List.length_drop] at this
            omega
          refine ⟨tyL (upd_old hus hr2), s0 + 2, rfl, haul, fun b zs H3 he3 hb0 hb hz => ?_⟩
          have hus3 := he3 _ _ (upd_old hus hr2)
          have hpb : b ≠ p := fun e => by subst e; rw [upd_old hus hr2] at hb0; cases hb0
          have hzl := hz.length
          have hAl := splA_len (tl au) (s0 + 2)
          refine ⟨p, b, us, zs, rfl, rfl, hus3, hb, by omega, ?_⟩
          rw [show ((s0 + 2 : Nat) : Int) + (au.length : Nat) = ((s0 + 2 + au.length : Nat) : Int) by omega]
          refine ⟨by omega, hN _ _ ⟨_, s0 + 2 + au.length, _, _, _, rfl, upd_self, ((he.fresh hr2).tr he3).new hp, ?_, hAl, ?_, by rw [pc]⟩⟩
          · exact paired_app (paired_imp (fun a b h => ((h.upd (.inl hr2)).ext he3).upd (.inr ⟨_, hus3⟩)) hr) (paired_imp (fun a b h => h.upd (.inr ⟨_, hus3⟩)) hz)
          · rw [TL.len_tl, pc]
        · rw [if_neg (fun z => hd (by rw [← c2, z, e47]))]
          simp only [if_neg hd] at hN
          exact hN _ _ ⟨us, s0, [], _, _, rfl, hus, he, by rw [List.append_nil]; exact hr, by simp, rfl, rfl⟩
      · rintro σ H2 ⟨us2, s1, rsA, v3, v4, rfl, hus2, he2, hr2, hAl, hif⟩
        (try simp only [tSeq, tNext, tIfS, tFor_eq, cBl, tOp, tC, cI, cIc, cAdd, cVar, hEq, hNe, hIn, hNotIn, hLen, hSl, tM1, tBM, cT1, cT1f, cFind3, cSplit, cPart, rNewStrs, hIsS, hTru, tAsg, gName, gSub, tRet, tRetN, tCons, tNil, tTup, tLst, tCB, tNot, tAnd, tNotV, tAndV, tOrV, tOr, V.bl.injEq, V.int.injEq, V.str.injEq, exists_eq_left', exists_eq_left, exists_eq', true_and, and_true, cIsN, L2.start, gTup, gCons, gNil, nox_K, cx_K, tCallF, tSl, tPart, tNoPart, iEnum, RZ.iZipA, iRng1, iRng2, cAbs, List.map_cons, List.map_nil, List.length_cons, List.length_nil, List.replicate, List.cons_append, List.nil_append, List.getElem?_cons_zero, List.getElem?_cons_succ, List.getElem?_nil, List.set_cons_zero, List.set_cons_succ, Nat.reduceAdd, Nat.reduceSub, Nat.zero_add, if_true, if_false, reduceIte, reduceCtorEq, Bool.false_eq_true, decide_eq_true_eq, tDrop, cMin2, cJoin, iList, tDNewK, tLc_eq, iStr, wipe])
        have hul2 := hr2.length
        rw [List.length_append] at hul2
        refine ⟨tyL hus2, by omega, by omega, fun r hr3 => append_at (upd_old hus2 hr3) (by omega) ?_⟩
        refine q _ _ _ ((he2.fresh hr3).new hp) hp upd_self ?_
        have := row_new (i := 4) (n := "path") (s := s1) hus2 hr3 hr2 rfl (cutN t s1)
        rw [List.append_assoc] at this
        by_cases hd : (tl t |>.drop s0).take 2 = [47, 47]
        · rw [if_pos hd] at hif ⊢
          rw [hif.1, hif.2] at this
          rw [hif.1]
          exact this
        · rw [if_neg hd] at hif ⊢
          rw [hif.1, hif.2] at this
          rw [hif.1]
          exact this
def spSplT : Sp := fun vs H Q _ => match vs with
  | [.str t] => t.length ≤ (100000 : Nat) ∧ ∀ p us H', Ext H H' → H p = none → H' p = some (.lst us) → RowsAt H' us (splT (tl t)) → Q (.ref p) H'
  | _ => False
theorem ok__split (c : Ct w K mg) : OkF P w K mg base CX0 4 (He.ga K "_split") ["text"] (spSplT) := by
  obtain ⟨fd, F⟩ := F__split c
  refine ⟨fd, F.ok sc__split (fun vs H Q E h => ?_) (fun cdv A outer s H vs Q E hr h => ⟨_, PSs.nox ((pss_cons (ps_asg (pe_m1 PySem.F.slot_str_partition PySem.F.type_str_partition cm_partition (cv 0) pe_str) (pg_tup (n := 3) rfl (pgs_cons (pg_name (i := 1) (sc__split).nd rfl (Or.inl rfl)) (pgs_cons (pg_name (i := 2) (sc__split).nd rfl (Or.inl rfl)) (pgs_cons (pg_name (i := 3) (sc__split).nd rfl (Or.inl rfl)) pgs_nil))))) (pss_cons (ps_asg (pe_m1 PySem.F.slot_str_partition PySem.F.type_str_partition cm_partition (cv 1) pe_str) (pg_tup (n := 3) rfl (pgs_cons (pg_name (i := 4) (sc__split).nd rfl (Or.inl rfl)) (pgs_cons (pg_name (i := 5) (sc__split).nd rfl (Or.inl rfl)) (pgs_cons (pg_name (i := 6) (sc__split).nd rfl (Or.inl rfl)) pgs_nil))))) (pss_cons (ps_set (i := 7) (sc__split).nd rfl (Or.inl rfl) (pf (ok__split_beginning c) (hr.mono (by decide)) (g__split_beginning c) (k__split_beginning c) pass0 (pa_cons (cv 4) pa_nil))) (pss_cons (ps_if (hTr (cv 5)) (pss_one (ps_expr (pe_bm PySem.F.plainAttrs_list PySem.F.slot_list_append PySem.F.type_list_append mt_append (cv 7) (pa_cons (pe_tup (pa_cons pe_str (pa_cons (pe_op co_add (pe_callB hc_len (by rfl) (b_len c) (by decide +kernel) (pa_cons (cv 4) pa_nil)) pe_int) (pa_cons (cv 6) pa_nil)))) pa_nil)))) pss_nil) (pss_cons (ps_if (hTr (cv 2)) (pss_one (ps_expr (pe_bm PySem.F.plainAttrs_list PySem.F.slot_list_append PySem.F.type_list_append mt_append (cv 7) (pa_cons (pe_tup (pa_cons pe_str (pa_cons (pe_op co_add (pe_callB hc_len (by rfl) (b_len c) (by decide +kernel) (pa_cons (cv 1) pa_nil)) pe_int) (pa_cons (cv 3) pa_nil)))) pa_nil)))) pss_nil) (pss_one (ps_ret (cv 7))))))))), ?_⟩), F.bindsN fun _ _ _ _ _ _ us hl => match us, hl with | [_], _ => rfl⟩
  · unfold spSplT at h
    split at h
    · rfl
    · exact h.elim
  · unfold spSplT at h
    split at h
    case h_2 => exact h.elim
    rename_i t
    obtain ⟨ht, q⟩ := h
    have sl := sl
    have hl := TL.len_tl t
    refine seqStep ?_
    (try simp only [tNext, tFor_eq, cBl, tOp, tC, cI, cIc, cAdd, cVar, hEq, hNe, hIn, hNotIn, hLen, hSl, tM1, tBM, cT1, cT1f, cFind3, cSplit, cPart, rNewStrs, hIsS, hTru, tAsg, gName, gSub, tRet, tRetN, tCons, tNil, tTup, tLst, tCB, tNot, tAnd, tNotV, tAndV, tOrV, tOr, V.bl.injEq, V.int.injEq, V.str.injEq, exists_eq_left', exists_eq_left, exists_eq', true_and, and_true, cIsN, L2.start, gTup, gCons, gNil, nox_K, cx_K, tCallF, tSl, tPart, tNoPart, iEnum, RZ.iZipA, iRng1, iRng2, cAbs, List.map_cons, List.map_nil, List.length_cons, List.length_nil, List.replicate, List.cons_append, List.nil_append, List.getElem?_cons_zero, List.getElem?_cons_succ, List.getElem?_nil, List.set_cons_zero, List.set_cons_succ, Nat.reduceAdd, Nat.reduceSub, Nat.zero_add, if_true, if_false, reduceIte, reduceCtorEq, Bool.false_eq_true, decide_eq_true_eq, tDrop, cMin2, cJoin, iList, tDNewK, tLc_eq, iStr, wipe])
    refine ⟨by decide, by omega, fun r hr => ?_⟩
    refine ⟨_, _, rfl, .inl (Rd.of upd_self), rfl, _, _, rfl, _, _, rfl, _, _, rfl, rfl, ?_⟩
    have h35 : Str.ofString "#" = ⟨#[35]⟩ := TL.ext_tl (by decide +kernel)
    have h63 : Str.ofString "?" = ⟨#[63]⟩ := TL.ext_tl (by decide +kernel)
    have p1 := part_cut t 35
    rw [← h35] at p1
    generalize Txt.partition t (Str.ofString "#") = P1 at *
    obtain ⟨bf, mf, fr⟩ := P1
    dsimp only at p1 ⊢
    obtain ⟨pa, pb, pc⟩ := p1
    have hbl : bf.length ≤ (100000 : Nat) := by
      rw [TL.len_tl, pa]
      have : (bef 35 (tl t)).length ≤ (tl t).length := (List.takeWhile_sublist _).length_le
      omega
    refine seqStep ?_
    (try simp only [tNext, tFor_eq, cBl, tOp, tC, cI, cIc, cAdd, cVar, hEq, hNe, hIn, hNotIn, hLen, hSl, tM1, tBM, cT1, cT1f, cFind3, cSplit, cPart, rNewStrs, hIsS, hTru, tAsg, gName, gSub, tRet, tRetN, tCons, tNil, tTup, tLst, tCB, tNot, tAnd, tNotV, tAndV, tOrV, tOr, V.bl.injEq, V.int.injEq, V.str.injEq, exists_eq_left', exists_eq_left, exists_eq', true_and, and_true, cIsN, L2.start, gTup, gCons, gNil, nox_K, cx_K, tCallF, tSl, tPart, tNoPart, iEnum, RZ.iZipA, iRng1, iRng2, cAbs, List.map_cons, List.map_nil, List.length_cons, List.length_nil, List.replicate, List.cons_append, List.nil_append, List.getElem?_cons_zero, List.getElem?_cons_succ, List.getElem?_nil, List.set_cons_zero, List.set_cons_succ, Nat.reduceAdd, Nat.reduceSub, Nat.zero_add, if_true, if_false, reduceIte, reduceCtorEq, Bool.false_eq_true, decide_eq_true_eq, tDrop, cMin2, cJoin, iList, tDNewK, tLc_eq, iStr, wipe])
    refine ⟨by decide, by omega, fun r2 hr2 => ?_⟩
    refine ⟨_, _, rfl, .inl (Rd.of upd_self), rfl, _, _, rfl, _, _, rfl, _, _, rfl, rfl, ?_⟩
    have p2 := part_cut bf 63
    rw [← h63] at p2
    generalize Txt.partition bf (Str.ofString "?") = P2 at *
    obtain ⟨bq, mq, qu⟩ := P2
    dsimp only at p2 ⊢
    obtain ⟨qa, qb, qc⟩ := p2
    have hql : bq.length ≤ (100000 : Nat) := by
      rw [TL.len_tl, qa]
      have : (bef 63 (tl bf)).length ≤ (tl bf).length := (List.takeWhile_sublist _).length_le
      rw [TL.len_tl] at hbl
      omega
    refine seqStep ?_
    (try simp only [tNext, tFor_eq, cBl, tOp, tC, cI, cIc, cAdd, cVar, hEq, hNe, hIn, hNotIn, hLen, hSl, tM1, tBM, cT1, cT1f, cFind3, cSplit, cPart, rNewStrs, hIsS, hTru, tAsg, gName, gSub, tRet, tRetN, tCons, tNil, tTup, tLst, tCB, tNot, tAnd, tNotV, tAndV, tOrV, tOr, V.bl.injEq, V.int.injEq, V.str.injEq, exists_eq_left', exists_eq_left, exists_eq', true_and, and_true, cIsN, L2.start, gTup, gCons, gNil, nox_K, cx_K, tCallF, tSl, tPart, tNoPart, iEnum, RZ.iZipA, iRng1, iRng2, cAbs, List.map_cons, List.map_nil, List.length_cons, List.length_nil, List.replicate, List.cons_append, List.nil_append, List.getElem?_cons_zero, List.getElem?_cons_succ, List.getElem?_nil, List.set_cons_zero, List.set_cons_succ, Nat.reduceAdd, Nat.reduceSub, Nat.zero_add, if_true, if_false, reduceIte, reduceCtorEq, Bool.false_eq_true, decide_eq_true_eq, tDrop, cMin2, cJoin, iList, tDNewK, tLc_eq, iStr, wipe])
    refine ⟨hql, fun p us H1 he hp hus hrow => ?_⟩
    (try simp only [tNext, tFor_eq, cBl, tOp, tC, cI, cIc, cAdd, cVar, hEq, hNe, hIn, hNotIn, hLen, hSl, tM1, tBM, cT1, cT1f, cFind3, cSplit, cPart, rNewStrs, hIsS, hTru, tAsg, gName, gSub, tRet, tRetN, tCons, tNil, tTup, tLst, tCB, tNot, tAnd, tNotV, tAndV, tOrV, tOr, V.bl.injEq, V.int.injEq, V.str.injEq, exists_eq_left', exists_eq_left, exists_eq', true_and, and_true, cIsN, L2.start, gTup, gCons, gNil, nox_K, cx_K, tCallF, tSl, tPart, tNoPart, iEnum, RZ.iZipA, iRng1, iRng2, cAbs, List.map_cons, List.map_nil, List.length_cons, List.length_nil, List.replicate, List.cons_append, List.nil_append, List.getElem?_cons_zero, List.getElem?_cons_succ, List.getElem?_nil, List.set_cons_zero, List.set_cons_succ, Nat.reduceAdd, Nat.reduceSub, Nat.zero_add, if_true, if_false, reduceIte, reduceCtorEq, Bool.false_eq_true, decide_eq_true_eq, tDrop, cMin2, cJoin, iList, tDNewK, tLc_eq, iStr, wipe])
    have he := ((Ext.rf.fresh hr).fresh hr2).tr he
    have hp0 : H p = none := by
      cases z : H p with
      | none => rfl
      | some o => rw [upd_old (upd_old z hr) hr2] at hp; cases hp
    unfold splT at q
    rw [← pa, ← qa] at q
    have hul := hrow.length
    have hBl : (splB (tl bq)).length ≤ 5 := by
      unfold splB
      have := splA_len (bef 47 (List.drop (schAt (tl bq) + 2) (tl bq))) (schAt (tl bq) + 2)
      simp only [List.length_append]
      split <;> split <;> simp only [List.length_append, List.length_cons, List.length_nil] <;> omega
    generalize splB (tl bq) = rs1 at *
    have em : (Str.ofString "").length = 0 := rfl
    refine seqCps (fun σ H2 => ∃ us, σ = [some (.str t), some (.str bf), some (.str mf), some (.str fr), some (.str bq), some (.str mq), some (.str qu), some (.ref p)] ∧ H2 p = some (.lst us) ∧ us.length ≤ 6 ∧ Ext H H2 ∧ RowsAt H2 us (rs1 ++ (if (tl bf).contains 63 = true then [(5, (tl bq).length + 1, aft 63 (tl bf))] else []))) (fun Nx hN => ?_) ?_
    · (try simp only [tSeq, tNext, tIfS, tFor_eq, cBl, tOp, tC, cI, cIc, cAdd, cVar, hEq, hNe, hIn, hNotIn, hLen, hSl, tM1, tBM, cT1, cT1f, cFind3, cSplit, cPart, rNewStrs, hIsS, hTru, tAsg, gName, gSub, tRet, tRetN, tCons, tNil, tTup, tLst, tCB, tNot, tAnd, tNotV, tAndV, tOrV, tOr, V.bl.injEq, V.int.injEq, V.str.injEq, exists_eq_left', exists_eq_left, exists_eq', true_and, and_true, cIsN, L2.start, gTup, gCons, gNil, nox_K, cx_K, tCallF, tSl, tPart, tNoPart, iEnum, RZ.iZipA, iRng1, iRng2, cAbs, List.map_cons, List.map_nil, List.length_cons, List.length_nil, List.replicate, List.cons_append, List.nil_append, List.getElem?_cons_zero, List.getElem?_cons_succ, List.getElem?_nil, List.set_cons_zero, List.set_cons_succ, Nat.reduceAdd, Nat.reduceSub, Nat.zero_add, if_true, if_false, reduceIte, reduceCtorEq, Bool.false_eq_true, decide_eq_true_eq, tDrop, cMin2, cJoin, iList, tDNewK, tLc_eq, iStr, wipe])
      cases hb : (tl bf).contains 63 with
      | false =>
        simp only [hb, Bool.false_eq_true, if_false, List.append_nil] at hN qb
        rw [qb]
        refine ⟨by decide, ?_⟩
        rw [if_neg (by decide), ← qb]
        exact hN _ _ ⟨us, rfl, hus, by omega, he, hrow⟩
      | true =>
        simp only [hb, if_true] at hN qb qc
        rw [qb]
        refine ⟨by decide, ?_⟩
        rw [if_pos (by decide), ← qb]
        refine ⟨tyL hus, by omega, by omega, fun r3 hr3 => append_at (upd_old hus hr3) (by omega) ?_⟩
        have e : ((bq.length : Nat) : Int) + 1 = (((tl bq).length + 1 : Nat) : Int) := by rw [TL.len_tl]; rfl
        rw [e]
        exact hN _ _ ⟨_, rfl, upd_self, by simp only [List.length_append, List.length_cons, List.length_nil]; omega, (he.fresh hr3).new hp0, row_new (i := 5) (n := "query") hus hr3 hrow rfl qc⟩
    · rintro σ H2 ⟨us2, rfl, hus2, hul2, he2, hrow2⟩
      generalize (if (tl bf).contains 63 = true then [(5, (tl bq).length + 1, aft 63 (tl bf))] else [] : List (Nat × Nat × T)) = rs2 at *
      (try simp only [tSeq, tNext, tIfS, tFor_eq, cBl, tOp, tC, cI, cIc, cAdd, cVar, hEq, hNe, hIn, hNotIn, hLen, hSl, tM1, tBM, cT1, cT1f, cFind3, cSplit, cPart, rNewStrs, hIsS, hTru, tAsg, gName, gSub, tRet, tRetN, tCons, tNil, tTup, tLst, tCB, tNot, tAnd, tNotV, tAndV, tOrV, tOr, V.bl.injEq, V.int.injEq, V.str.injEq, exists_eq_left', exists_eq_left, exists_eq', true_and, and_true, cIsN, L2.start, gTup, gCons, gNil, nox_K, cx_K, tCallF, tSl, tPart, tNoPart, iEnum, RZ.iZipA, iRng1, iRng2, cAbs, List.map_cons, List.map_nil, List.length_cons, List.length_nil, List.replicate, List.cons_append, List.nil_append, List.getElem?_cons_zero, List.getElem?_cons_succ, List.getElem?_nil, List.set_cons_zero, List.set_cons_succ, Nat.reduceAdd, Nat.reduceSub, Nat.zero_add, if_true, if_false, reduceIte, reduceCtorEq, Bool.false_eq_true, decide_eq_true_eq, tDrop, cMin2, cJoin, iList, tDNewK, tLc_eq, iStr, wipe])
      cases hb : (tl t).contains 35 with
      | false =>
        simp only [hb, Bool.false_eq_true, if_false, List.append_nil] at q pb
        rw [pb]
        refine ⟨by decide, ?_⟩
        rw [if_neg (by decide)]
        exact q _ _ _ he2 hp0 hus2 hrow2
      | true =>
        simp only [hb, if_true] at q pb pc
        rw [pb]
        refine ⟨by decide, ?_⟩
        rw [if_pos (by decide)]
        refine ⟨tyL hus2, by omega, by omega, fun r3 hr3 => append_at (upd_old hus2 hr3) (by omega) ?_⟩
        have e : ((bf.length : Nat) : Int) + 1 = (((tl bf).length + 1 : Nat) : Int) := by rw [TL.len_tl]; rfl
        rw [e]
        refine q _ _ _ ((he2.fresh hr3).new hp0) hp0 upd_self ?_
        have := row_new (i := 6) (n := "fragment") (s := (tl bf).length + 1) hus2 hr3 hrow2 rfl pc
        rw [List.append_assoc] at this
        exact this
end
end Da
set_option Elab.async false
set_option linter.all false
set_option maxRecDepth 100000
set_option maxHeartbeats 4000000
namespace Da
open PySem PySem.Spec PyProof.Rows L2 Hd Xs Fx Mi ClX Xr
open TL (tl)
abbrev R3 := Nat × Nat × T
/-- the first wrong place of the rows -/
def wRows : List R3 → KP
  | [] => none
  | r :: rs => match wP r.1 r.2.2 with
    | some (k, a) => some (k, r.2.1 + a)
    | none => wRows rs
def vStr (l : T) : V := .str ⟨l.toArray⟩
def dflV (i : Nat) : V := if i = 4 then .str "" else .non
/-- the parts of rows -/
def vsOf (rs : List R3) : List V := (List.range 7).map fun i => match rs.find? fun r => r.1 == i with
  | some r => vStr r.2.2
  | none => dflV i
def spParse (K : PySem.W.Frag) : Sp := fun vs H Q E => match vs with
  | [.str t] => t.length ≤ (100000 : Nat) ∧ (match wRows (splT (tl t)) with
    | some (k, i) => ∀ d H', Ext H H' → H' d = some (.xd [("place", .int (i : Nat)), ("kind", .str k)]) → E (.ref (He.ga K "BadUrl")) (some d) H'
    | none => dueV (vsOf (splT (tl t))) = none ∧ ∀ a H', Ext H H' → UrlAt K H' a (vsOf (splT (tl t))) → H a = none → Q (.ref a) H')
  | _ => False
theorem hu1 {A : Around} {k : Nat} (h : Room k A) : A.units + 1 < cLine := by have := h.un; omega
def nmS (i : Nat) : Str := NM.getD i ""
theorem nmS_of {i : Nat} {n : Str} (h : NM[i]? = some n) : nmS i = n := by
  unfold nmS
  rw [List.getD_eq_getElem?_getD, h]; rfl
def kvsOf (rs : List R3) : List (Key × V) := rs.map fun r => ((.inr (nmS r.1) : Key), vStr r.2.2)
def kwOfR (rs : List R3) : List (Str × V) := rs.map fun r => (nmS r.1, vStr r.2.2)
theorem kwV_rows : ∀ rs : List R3, kwV (kvsOf rs) = some (kwOfR rs)
  | [] => rfl
  | r :: rs => by
    show (kwV (kvsOf rs)).map ((nmS r.1, vStr r.2.2) :: ·) = _
    rw [kwV_rows rs]
    rfl
theorem nmS_inj {i j : Nat} (hi : i < 7) (hj : j < 7) (h : nmS i = nmS j) : i = j := by
  have hi' : i = 0 ∨ i = 1 ∨ i = 2 ∨ i = 3 ∨ i = 4 ∨ i = 5 ∨ i = 6 := by omega
  have hj' : j = 0 ∨ j = 1 ∨ j = 2 ∨ j = 3 ∨ j = 4 ∨ j = 5 ∨ j = 6 := by omega
  rcases hi' with rfl | rfl | rfl | rfl | rfl | rfl | rfl <;> rcases hj' with rfl | rfl | rfl | rfl | rfl | rfl | rfl <;> first | rfl | exact absurd h (by decide +kernel)
theorem look_rows {i : Nat} (hi : i < 7) : ∀ rs : List R3, (∀ r ∈ rs, r.1 < 7) → (kwOfR rs).lookup (nmS i) = (rs.find? fun r => r.1 == i).map fun r => vStr r.2.2
  | [], _ => rfl
  | r :: rs, h => by
    have hr := h r (List.mem_cons_self ..)
    have ih := look_rows hi rs fun x hx => h x (List.mem_cons_of_mem _ hx)
    show ((nmS r.1, vStr r.2.2) :: kwOfR rs).lookup (nmS i) = _
    by_cases e : r.1 = i
    · rw [List.lookup_cons, List.find?_cons, e]
      simp
    · have ne : (nmS i == nmS r.1) = false := by
        cases hb : nmS i == nmS r.1 with
        | false => rfl
        | true => exact absurd (nmS_inj hr hi (eq_of_beq hb).symm) e
      have ne2 : (r.1 == i) = false := by simpa using e
      rw [List.lookup_cons, List.find?_cons, ne, ne2]
      exact ih
theorem kwVals_rows {U : V} (rs : List R3) (h : ∀ r ∈ rs, r.1 < 7) : kwVals ofDfl U (kwOfR rs) = U :: vsOf rs := by
  have g : ∀ (i : Nat) (d : V), i < 7 → d = dflV i → ((kwOfR rs).lookup (nmS i)).getD d = (match rs.find? fun r => r.1 == i with | some r => vStr r.2.2 | none => dflV i) := fun i d hi hd => by
    rw [look_rows hi rs h, hd]
    cases rs.find? fun r => r.1 == i <;> rfl
  show U :: [((kwOfR rs).lookup (nmS 0)).getD .non, ((kwOfR rs).lookup (nmS 1)).getD .non, ((kwOfR rs).lookup (nmS 2)).getD .non, ((kwOfR rs).lookup (nmS 3)).getD .non, ((kwOfR rs).lookup (nmS 4)).getD (.str ""), ((kwOfR rs).lookup (nmS 5)).getD .non, ((kwOfR rs).lookup (nmS 6)).getD .non] = _
  rw [g 0 .non (by decide) rfl, g 1 .non (by decide) rfl, g 2 .non (by decide) rfl, g 3 .non (by decide) rfl, g 4 (.str "") (by decide) rfl, g 5 .non (by decide) rfl, g 6 .non (by decide) rfl]
  rfl
theorem put_new {rs : List R3} {r : R3} (h : ∀ x ∈ rs, nmS x.1 ≠ nmS r.1) : putK (kvsOf rs) (.inr (nmS r.1)) (vStr r.2.2) = kvsOf (rs ++ [r]) := by
  unfold putK
  rw [if_neg]
  · unfold kvsOf
    rw [List.map_append]; rfl
  · intro z
    obtain ⟨kv, hk, e⟩ := List.any_eq_true.mp z
    obtain ⟨x, hx, rfl⟩ := List.mem_map.mp hk
    have e := of_decide_eq_true e
    exact h x hx (Sum.inr.inj e)
theorem AV_vs {H : Hp} {rs : List R3} (h : ∀ r ∈ rs, r.2.2.length ≤ 100000) : ∀ v ∈ vsOf rs, AV H v := by
  intro v hv
  obtain ⟨i, _, rfl⟩ := List.mem_map.mp hv
  cases e : rs.find? fun r => r.1 == i with
  | some r =>
    have := h r (List.mem_of_find?_eq_some e)
    show (⟨r.2.2.toArray⟩ : Str).length ≤ 100000
    rw [TL.len_tl]
    exact this
  | none =>
    dsimp only
    unfold dflV
    split
    · show (Str.ofString "").length ≤ 100000
      decide
    · trivial
theorem wRows_cons (r : R3) (rs : List R3) : wRows (r :: rs) = (match wP r.1 r.2.2 with
    | some (k, a) => some (k, r.2.1 + a)
    | none => wRows rs) := rfl
theorem paired_get {α β : Type} {R : α → β → Prop} : ∀ {xs : List α} {ys : List β}, Paired R xs ys → ∀ {i : Nat} {x : α}, xs[i]? = some x → ∃ y, ys[i]? = some y ∧ R x y
  | _, _, .nil, i, x, h => by simp at h
  | _, _, .cons a r, 0, x, h => by cases h; exact ⟨_, rfl, a⟩
  | _, _, .cons a r, i + 1, x, h => paired_get r (i := i) (by simpa using h)
/-! ### BadUrl -/
def spEI2 (f g : Str) (C : Addr) : Sp := fun vs H Q _ => match vs with
  | [.ref a, y, z] => H a = some (exo a C none) ∧ ∀ dx, H dx = none → dx ≠ a → Q .non (upd (upd (upd H dx (exd dx [(f, y)])) a (exo a C (some dx))) dx (exd dx [(g, z), (f, y)]))
  | _ => False
section
variable {P : Program} {w : World} {K : PySem.W.Frag} {mg : Str → Option Value} {base : Heap}
theorem ok_BadUrl___init__ (c : Ct w K mg) : OkF P w K mg base CX0 1 (He.ma K (He.ga K "BadUrl") "__init__") ["self", "kind", "place"] (spEI2 "kind" "place" (He.ga K "BadUrl")) := by
  obtain ⟨fd, F⟩ := F_BadUrl___init__ c
  refine ⟨fd, F.ok sc_BadUrl___init__ (fun vs H Q E h => ?_) (fun cdv A outer s H vs Q E hr h => ⟨_, PSs.nox (pss_cons (ps_ost (cv 0) (cv 1)) (pss_one (ps_ost (cv 0) (cv 2)))), ?_⟩), F.bindsN fun _ _ _ _ _ _ us hl => match us, hl with | [_, _, _], _ => rfl⟩
  · unfold spEI2 at h
    split at h
    · rfl
    · exact h.elim
  · unfold spEI2 at h
    split at h
    case h_2 => exact h.elim
    rename_i a y z
    obtain ⟨ha, q⟩ := h
    unfold tOst
    (try simp only [tSeq, tNext, tIfS, tFor_eq, cBl, tOp, tC, cI, cIc, cAdd, cVar, hEq, hNe, hIn, hNotIn, hLen, hSl, tM1, tBM, cT1, cT1f, cFind3, cSplit, cPart, rNewStrs, hIsS, hTru, tAsg, gName, gSub, tRet, tRetN, tCons, tNil, tTup, tLst, tCB, tNot, tAnd, tNotV, tAndV, tOrV, tOr, V.bl.injEq, V.int.injEq, V.str.injEq, exists_eq_left', exists_eq_left, exists_eq', true_and, and_true, cIsN, L2.start, gTup, gCons, gNil, nox_K, cx_K, tCallF, tSl, tPart, tNoPart, iEnum, RZ.iZipA, iRng1, iRng2, cAbs, List.map_cons, List.map_nil, List.length_cons, List.length_nil, List.replicate, List.cons_append, List.nil_append, List.getElem?_cons_zero, List.getElem?_cons_succ, List.getElem?_nil, List.set_cons_zero, List.set_cons_succ, Nat.reduceAdd, Nat.reduceSub, Nat.zero_add, if_true, if_false, reduceIte, reduceCtorEq, Bool.false_eq_true, decide_eq_true_eq, tDrop, cMin2, cJoin, iList, tDNewK, tLc_eq, iStr, wipe])
    refine ⟨a, He.ga K "BadUrl", rfl, oex_BadUrl c, noat_BadUrl_kind c, .inl ⟨ha, fun dx hdx hne => ?_⟩⟩
    refine ⟨a, He.ga K "BadUrl", rfl, oex_BadUrl c, noat_BadUrl_place c, .inr ⟨dx, _, upd_self, ?_, by simp, q dx hdx hne⟩⟩
    rw [upd_ne hne]
    exact upd_self
theorem ei2_ok {C : Addr} {f g : Str} {y z : V} {H : Hp} {Q E' : XK} (q : ∀ d H', Ext H H' → H' d = some (.xd [(g, z), (f, y)]) → Q (.ref C) (some d) H') (a : Addr) (ha : H a = none) :
    spEI2 f g C [.ref a, y, z] (upd H a (exo a C none)) (fun v H2 => v = .non ∧ ∃ (d : Addr) (fs : List (Str × V)), H2 a = some (exo a C (some d)) ∧ H2 d = some (exd d fs) ∧ H d = none ∧ Q (.ref C) (some d) (upd (del H2 a) d (.xd fs))) E' := by
  refine ⟨upd_self, fun dx hdx hne => ⟨rfl, dx, _, ?_, upd_self, ?_, q dx _ ?_ upd_self⟩⟩
  · rw [upd_ne hne.symm]; exact upd_self
  · rw [upd_ne hne] at hdx; exact hdx
  · intro p o hp
    rw [upd_ne hne] at hdx
    have n1 : p ≠ a := fun e => by subst e; rw [ha] at hp; cases hp
    have n2 : p ≠ dx := fun e => by subst e; rw [hdx] at hp; cases hp
    rw [upd_ne n2, del_ne n1, upd_ne n2, upd_ne n1, upd_ne n2, upd_ne n1]
    exact hp
theorem ok_parse (c : Ct w K mg) : OkF P w K mg base (L2.CX P w) 7 (He.ga K "parse") ["text"] (spParse K) := by
  obtain ⟨fd, F⟩ := F_parse c
  refine ⟨fd, F.ok sc_parse (fun vs H Q E h => ?_) (fun cdv A outer s H vs Q E hr h => ⟨_, ((pss_cons (ps_if (pt_not (ct (pe_callB hc_isS (by rfl) (b_isinstance c) (by decide +kernel) (pa_cons (cv 0) (pa_cons (pe_bltn (v := .ty "str") (by rfl) (b_str c) (by decide +kernel) rfl) pa_nil))))) (pss_one ps_dead) pss_nil) (pss_cons (ps_set (i := 1) (sc_parse).nd rfl (Or.inl rfl) pe_dnewK) (pss_cons (ps_for (passes_of rfl) rfl (pi_list (pf (ok__split c) (hr.mono (by decide)) (g__split c) (k__split c) pass0 (pa_cons (cv 0) pa_nil))) (pg_tup (n := 3) rfl (pgs_cons (pg_name (i := 2) (sc_parse).nd rfl (Or.inl rfl)) (pgs_cons (pg_name (i := 3) (sc_parse).nd rfl (Or.inl rfl)) (pgs_cons (pg_name (i := 4) (sc_parse).nd rfl (Or.inl rfl)) pgs_nil)))) (pss_cons (ps_set (i := 5) (sc_parse).nd rfl (Or.inl rfl) (pf (ok_wrong_place c) (hr.mono (by decide)) (g_wrong_place c) (k_wrong_place c) pass0 (pa_cons (cv 2) (pa_cons (cv 4) pa_nil)))) (pss_cons (ps_if (ctc co_notN (cv 5) pe_non (by rfl)) (pss_cons (ps_asg (cv 5) (pg_tup (n := 2) rfl (pgs_cons (pg_name (i := 6) (sc_parse).nd rfl (Or.inl rfl)) (pgs_cons (pg_name (i := 7) (sc_parse).nd rfl (Or.inl rfl)) pgs_nil)))) (pss_one (ps_raise rfl (takes_of rfl rfl rfl rfl) (pmk_oex (oex_BadUrl c) (ini_BadUrl c).1 (ini_BadUrl c).2 (ok_BadUrl___init__ c).choose_spec.1 (hr.mono (by decide)) (ok_BadUrl___init__ c).choose_spec.2 .nil pass0 rfl (g_BadUrl c) (pa_cons (cv 6) (pa_cons (pe_op co_add (cv 3) (cv 7)) pa_nil)))))) pss_nil) (pss_one (ps_asg (cv 4) (pg_sub (cv 1) (cv 2) (set_dict (hu1 hr)))))))) (pss_one (ps_ret (pe_cmethKw (pe_glob (v := .ref (He.ga K "Url")) rfl (g_Url c) rfl) (read_Url c) (cm_Url_of c) (ok_Url_of c).choose_spec.1 (ok_Url_of c).choose_spec.2 (hr.mono (by decide)) (passes_call (takes_of rfl rfl rfl rfl) (fun _ _ _ _ z => z)) (cv 1)))))))), ?_⟩), F.bindsN fun _ _ _ _ _ _ us hl => match us, hl with | [_], _ => rfl⟩
  · unfold spParse at h
    split at h
    · rfl
    · exact h.elim
  · unfold spParse at h
    split at h
    case h_2 => exact h.elim
    rename_i t
    obtain ⟨ht, q⟩ := h
    have sl := sl
    refine seqCps (fun σ H' => σ = [some (.str t), none, none, none, none, none, none, none] ∧ H' = H) (fun Nx hN => ?_) ?_
    · (try simp only [tSeq, tNext, tIfS, tFor_eq, cBl, tOp, tC, cI, cIc, cAdd, cVar, hEq, hNe, hIn, hNotIn, hLen, hSl, tM1, tBM, cT1, cT1f, cFind3, cSplit, cPart, rNewStrs, hIsS, hTru, tAsg, gName, gSub, tRet, tRetN, tCons, tNil, tTup, tLst, tCB, tNot, tAnd, tNotV, tAndV, tOrV, tOr, V.bl.injEq, V.int.injEq, V.str.injEq, exists_eq_left', exists_eq_left, exists_eq', true_and, and_true, cIsN, L2.start, gTup, gCons, gNil, nox_K, cx_K, tCallF, tSl, tPart, tNoPart, iEnum, RZ.iZipA, iRng1, iRng2, cAbs, List.map_cons, List.map_nil, List.length_cons, List.length_nil, List.replicate, List.cons_append, List.nil_append, List.getElem?_cons_zero, List.getElem?_cons_succ, List.getElem?_nil, List.set_cons_zero, List.set_cons_succ, Nat.reduceAdd, Nat.reduceSub, Nat.zero_add, if_true, if_false, reduceIte, reduceCtorEq, Bool.false_eq_true, decide_eq_true_eq, tDrop, cMin2, cJoin, iList, tDNewK, tLc_eq, iStr, wipe])
      simp only [Bool.not_true, Bool.false_eq_true, if_false]
      exact hN _ _ ⟨rfl, rfl⟩
    rintro σ H0 ⟨rfl, rfl⟩
    refine seqStep ?_
    (try simp only [tNext, tFor_eq, cBl, tOp, tC, cI, cIc, cAdd, cVar, hEq, hNe, hIn, hNotIn, hLen, hSl, tM1, tBM, cT1, cT1f, cFind3, cSplit, cPart, rNewStrs, hIsS, hTru, tAsg, gName, gSub, tRet, tRetN, tCons, tNil, tTup, tLst, tCB, tNot, tAnd, tNotV, tAndV, tOrV, tOr, V.bl.injEq, V.int.injEq, V.str.injEq, exists_eq_left', exists_eq_left, exists_eq', true_and, and_true, cIsN, L2.start, gTup, gCons, gNil, nox_K, cx_K, tCallF, tSl, tPart, tNoPart, iEnum, RZ.iZipA, iRng1, iRng2, cAbs, List.map_cons, List.map_nil, List.length_cons, List.length_nil, List.replicate, List.cons_append, List.nil_append, List.getElem?_cons_zero, List.getElem?_cons_succ, List.getElem?_nil, List.set_cons_zero, List.set_cons_succ, Nat.reduceAdd, Nat.reduceSub, Nat.zero_add, if_true, if_false, reduceIte, reduceCtorEq, Bool.false_eq_true, decide_eq_true_eq, tDrop, cMin2, cJoin, iList, tDNewK, tLc_eq, iStr, wipe])
    intro d hd
    have hidx := splT_idx (tl t)
    have hlen : ∀ r ∈ splT (tl t), r.2.2.length ≤ (100000 : Nat) := fun r hr => by
      have := splT_tl hr
      rw [TL.len_tl] at ht
      omega
    generalize hrs : splT (tl t) = rs at *
    have hnd : (rs.map (·.1)).Nodup := hidx.nodup (by decide)
    have h7 : ∀ r ∈ rs, r.1 < 7 := fun r hr => by
      have := hidx.subset (List.mem_map.mpr ⟨r, hr, rfl⟩)
      simp only [List.mem_cons, List.not_mem_nil, or_false] at this
      omega
    refine seqCps (fun σ H' => ∃ u2 u3 u4 u5 u6 u7, σ = [some (.str t), some (.ref d), u2, u3, u4, u5, u6, u7] ∧ H' d = some (.dK (kvsOf rs)) ∧ Ext H0 H' ∧ wRows rs = none) (fun Nx hN => ?_) ?_
    · (try simp only [tNext, tFor_eq, cBl, tOp, tC, cI, cIc, cAdd, cVar, hEq, hNe, hIn, hNotIn, hLen, hSl, tM1, tBM, cT1, cT1f, cFind3, cSplit, cPart, rNewStrs, hIsS, hTru, tAsg, gName, gSub, tRet, tRetN, tCons, tNil, tTup, tLst, tCB, tNot, tAnd, tNotV, tAndV, tOrV, tOr, V.bl.injEq, V.int.injEq, V.str.injEq, exists_eq_left', exists_eq_left, exists_eq', true_and, and_true, cIsN, L2.start, gTup, gCons, gNil, nox_K, cx_K, tCallF, tSl, tPart, tNoPart, iEnum, RZ.iZipA, iRng1, iRng2, cAbs, List.map_cons, List.map_nil, List.length_cons, List.length_nil, List.replicate, List.cons_append, List.nil_append, List.getElem?_cons_zero, List.getElem?_cons_succ, List.getElem?_nil, List.set_cons_zero, List.set_cons_succ, Nat.reduceAdd, Nat.reduceSub, Nat.zero_add, if_true, if_false, reduceIte, reduceCtorEq, Bool.false_eq_true, decide_eq_true_eq, tDrop, cMin2, cJoin, iList, tDNewK, tLc_eq, iStr, wipe])
      refine ⟨ht, fun p us H1 he hp hus hrow => ⟨p, rfl, ⟨_, .inl (Rd.of hus)⟩, ?_⟩⟩
      rw [hrs] at hrow
      have hpd : p ≠ d := fun e => by subst e; rw [upd_self] at hp; cases hp
      refine lp_list (xs := us) (fun k σ H' => ∃ u2 u3 u4 u5 u6 u7, σ = [some (.str t), some (.ref d), u2, u3, u4, u5, u6, u7] ∧ H' d = some (.dK (kvsOf (rs.take k))) ∧ H' p = some (.lst us) ∧ RowsAt H' us rs ∧ Ext H0 H' ∧ wRows rs = wRows (rs.drop k)) ⟨_, _, _, _, _, _, rfl, he _ _ upd_self, hus, hrow, (Ext.rf.fresh hd).tr he, rfl⟩ ?_ ?_ ?_
      · rintro k σ H' _ ⟨u2, u3, u4, u5, u6, u7, _, _, h, _⟩
        exact .inl (Rd.of h)
      · rintro k x σ H' hx ⟨u2, u3, u4, u5, u6, u7, rfl, hdk, hpk, hrk, hek, hwk⟩
        obtain ⟨r, hr, ⟨q1, n, z, rfl, hq1, hn, hz⟩⟩ := paired_get hrk hx
        have hrm := List.mem_of_getElem? hr
        have hdr : rs.drop k = r :: rs.drop (k + 1) := by
          obtain ⟨hk, e⟩ := List.getElem?_eq_some_iff.mp hr
          rw [List.drop_eq_getElem_cons hk, e]
        have htk : rs.take (k + 1) = rs.take k ++ [r] := by rw [List.take_succ, hr]; rfl
        rw [hdr, wRows_cons] at hwk
        (try simp only [tNext, tFor_eq, cBl, tOp, tC, cI, cIc, cAdd, cVar, hEq, hNe, hIn, hNotIn, hLen, hSl, tM1, tBM, cT1, cT1f, cFind3, cSplit, cPart, rNewStrs, hIsS, hTru, tAsg, gName, gSub, tRet, tRetN, tCons, tNil, tTup, tLst, tCB, tNot, tAnd, tNotV, tAndV, tOrV, tOr, V.bl.injEq, V.int.injEq, V.str.injEq, exists_eq_left', exists_eq_left, exists_eq', true_and, and_true, cIsN, L2.start, gTup, gCons, gNil, nox_K, cx_K, tCallF, tSl, tPart, tNoPart, iEnum, RZ.iZipA, iRng1, iRng2, cAbs, List.map_cons, List.map_nil, List.length_cons, List.length_nil, List.replicate, List.cons_append, List.nil_append, List.getElem?_cons_zero, List.getElem?_cons_succ, List.getElem?_nil, List.set_cons_zero, List.set_cons_succ, Nat.reduceAdd, Nat.reduceSub, Nat.zero_add, if_true, if_false, reduceIte, reduceCtorEq, Bool.false_eq_true, decide_eq_true_eq, tDrop, cMin2, cJoin, iList, tDNewK, tLc_eq, iStr, wipe])
        refine ⟨_, _, rfl, .inl (Rd.of hq1), rfl, _, _, rfl, _, _, rfl, _, _, rfl, rfl, ?_⟩
        refine seqStep ?_
        (try simp only [tNext, tFor_eq, cBl, tOp, tC, cI, cIc, cAdd, cVar, hEq, hNe, hIn, hNotIn, hLen, hSl, tM1, tBM, cT1, cT1f, cFind3, cSplit, cPart, rNewStrs, hIsS, hTru, tAsg, gName, gSub, tRet, tRetN, tCons, tNil, tTup, tLst, tCB, tNot, tAnd, tNotV, tAndV, tOrV, tOr, V.bl.injEq, V.int.injEq, V.str.injEq, exists_eq_left', exists_eq_left, exists_eq', true_and, and_true, cIsN, L2.start, gTup, gCons, gNil, nox_K, cx_K, tCallF, tSl, tPart, tNoPart, iEnum, RZ.iZipA, iRng1, iRng2, cAbs, List.map_cons, List.map_nil, List.length_cons, List.length_nil, List.replicate, List.cons_append, List.nil_append, List.getElem?_cons_zero, List.getElem?_cons_succ, List.getElem?_nil, List.set_cons_zero, List.set_cons_succ, Nat.reduceAdd, Nat.reduceSub, Nat.zero_add, if_true, if_false, reduceIte, reduceCtorEq, Bool.false_eq_true, decide_eq_true_eq, tDrop, cMin2, cJoin, iList, tDNewK, tLc_eq, iStr, wipe])
        have hzl : z.length ≤ (100000 : Nat) := by
          have := hlen r hrm
          rw [TL.len_tl, hz]; exact this
        refine ⟨r.1, h7 r hrm, hn, hzl, fun v H2 he2 hv => ?_⟩
        rw [hz] at hv
        (try simp only [tNext, tFor_eq, cBl, tOp, tC, cI, cIc, cAdd, cVar, hEq, hNe, hIn, hNotIn, hLen, hSl, tM1, tBM, cT1, cT1f, cFind3, cSplit, cPart, rNewStrs, hIsS, hTru, tAsg, gName, gSub, tRet, tRetN, tCons, tNil, tTup, tLst, tCB, tNot, tAnd, tNotV, tAndV, tOrV, tOr, V.bl.injEq, V.int.injEq, V.str.injEq, exists_eq_left', exists_eq_left, exists_eq', true_and, and_true, cIsN, L2.start, gTup, gCons, gNil, nox_K, cx_K, tCallF, tSl, tPart, tNoPart, iEnum, RZ.iZipA, iRng1, iRng2, cAbs, List.map_cons, List.map_nil, List.length_cons, List.length_nil, List.replicate, List.cons_append, List.nil_append, List.getElem?_cons_zero, List.getElem?_cons_succ, List.getElem?_nil, List.set_cons_zero, List.set_cons_succ, Nat.reduceAdd, Nat.reduceSub, Nat.zero_add, if_true, if_false, reduceIte, reduceCtorEq, Bool.false_eq_true, decide_eq_true_eq, tDrop, cMin2, cJoin, iList, tDNewK, tLc_eq, iStr, wipe])
        have hnm := nmS_of hn
        have hzv : V.str z = vStr r.2.2 := by
          unfold vStr
          rw [← hz, TL.mk_tl]
        cases hw : wP r.1 r.2.2 with
        | some ka =>
          obtain ⟨kk, aa⟩ := ka
          rw [hw] at hwk hv
          obtain ⟨q2, rfl, hq2⟩ := hv
          rw [hwk] at q
          refine seqCps (fun _ _ => False) (fun Nx hN => ?_) (fun _ _ h => h.elim)
          (try simp only [tSeq, tNext, tIfS, tFor_eq, cBl, tOp, tC, cI, cIc, cAdd, cVar, hEq, hNe, hIn, hNotIn, hLen, hSl, tM1, tBM, cT1, cT1f, cFind3, cSplit, cPart, rNewStrs, hIsS, hTru, tAsg, gName, gSub, tRet, tRetN, tCons, tNil, tTup, tLst, tCB, tNot, tAnd, tNotV, tAndV, tOrV, tOr, V.bl.injEq, V.int.injEq, V.str.injEq, exists_eq_left', exists_eq_left, exists_eq', true_and, and_true, cIsN, L2.start, gTup, gCons, gNil, nox_K, cx_K, tCallF, tSl, tPart, tNoPart, iEnum, RZ.iZipA, iRng1, iRng2, cAbs, List.map_cons, List.map_nil, List.length_cons, List.length_nil, List.replicate, List.cons_append, List.nil_append, List.getElem?_cons_zero, List.getElem?_cons_succ, List.getElem?_nil, List.set_cons_zero, List.set_cons_succ, Nat.reduceAdd, Nat.reduceSub, Nat.zero_add, if_true, if_false, reduceIte, reduceCtorEq, Bool.false_eq_true, decide_eq_true_eq, tDrop, cMin2, cJoin, iList, tDNewK, tLc_eq, iStr, wipe])
          refine ⟨_, _, rfl, .inl (Rd.of hq2), rfl, _, _, rfl, _, _, rfl, rfl, ?_⟩
          unfold tMkO
          (try simp only [tNext, tFor_eq, cBl, tOp, tC, cI, cIc, cAdd, cVar, hEq, hNe, hIn, hNotIn, hLen, hSl, tM1, tBM, cT1, cT1f, cFind3, cSplit, cPart, rNewStrs, hIsS, hTru, tAsg, gName, gSub, tRet, tRetN, tCons, tNil, tTup, tLst, tCB, tNot, tAnd, tNotV, tAndV, tOrV, tOr, V.bl.injEq, V.int.injEq, V.str.injEq, exists_eq_left', exists_eq_left, exists_eq', true_and, and_true, cIsN, L2.start, gTup, gCons, gNil, nox_K, cx_K, tCallF, tSl, tPart, tNoPart, iEnum, RZ.iZipA, iRng1, iRng2, cAbs, List.map_cons, List.map_nil, List.length_cons, List.length_nil, List.replicate, List.cons_append, List.nil_append, List.getElem?_cons_zero, List.getElem?_cons_succ, List.getElem?_nil, List.set_cons_zero, List.set_cons_succ, Nat.reduceAdd, Nat.reduceSub, Nat.zero_add, if_true, if_false, reduceIte, reduceCtorEq, Bool.false_eq_true, decide_eq_true_eq, tDrop, cMin2, cJoin, iList, tDNewK, tLc_eq, iStr, wipe])
          have e : ((r.2.1 : Nat) : Int) + ((aa : Nat) : Int) = ((r.2.1 + aa : Nat) : Int) := by omega
          rw [e]
          exact ⟨by simp, ei2_ok fun d3 H3 he3 hd3 => q d3 H3 ((hek.tr he2).tr he3) hd3⟩
        | none =>
          rw [hw] at hwk hv
          obtain rfl : v = .non := hv
          refine seqCps (fun σ H3 => σ = [some (.str t), some (.ref d), some (.str n), some (.int (r.2.1 : Nat)), some (.str z), some .non, u6, u7] ∧ H3 = H2) (fun Nx hN => ?_) ?_
          · (try simp only [tSeq, tNext, tIfS, tFor_eq, cBl, tOp, tC, cI, cIc, cAdd, cVar, hEq, hNe, hIn, hNotIn, hLen, hSl, tM1, tBM, cT1, cT1f, cFind3, cSplit, cPart, rNewStrs, hIsS, hTru, tAsg, gName, gSub, tRet, tRetN, tCons, tNil, tTup, tLst, tCB, tNot, tAnd, tNotV, tAndV, tOrV, tOr, V.bl.injEq, V.int.injEq, V.str.injEq, exists_eq_left', exists_eq_left, exists_eq', true_and, and_true, cIsN, L2.start, gTup, gCons, gNil, nox_K, cx_K, tCallF, tSl, tPart, tNoPart, iEnum, RZ.iZipA, iRng1, iRng2, cAbs, List.map_cons, List.map_nil, List.length_cons, List.length_nil, List.replicate, List.cons_append, List.nil_append, List.getElem?_cons_zero, List.getElem?_cons_succ, List.getElem?_nil, List.set_cons_zero, List.set_cons_succ, Nat.reduceAdd, Nat.reduceSub, Nat.zero_add, if_true, if_false, reduceIte, reduceCtorEq, Bool.false_eq_true, decide_eq_true_eq, tDrop, cMin2, cJoin, iList, tDNewK, tLc_eq, iStr, wipe])
            simp only [decide_true, Bool.not_true, Bool.false_eq_true, if_false]
            exact hN _ _ ⟨rfl, rfl⟩
          · rintro σ H3 ⟨rfl, rfl⟩
            have hd3 := he2 _ _ hdk
            have hp3 := he2 _ _ hpk
            have hd0 : H0 d = none := hd
            (try simp only [tSeq, tNext, tIfS, tFor_eq, cBl, tOp, tC, cI, cIc, cAdd, cVar, hEq, hNe, hIn, hNotIn, hLen, hSl, tM1, tBM, cT1, cT1f, cFind3, cSplit, cPart, rNewStrs, hIsS, hTru, tAsg, gName, gSub, tRet, tRetN, tCons, tNil, tTup, tLst, tCB, tNot, tAnd, tNotV, tAndV, tOrV, tOr, V.bl.injEq, V.int.injEq, V.str.injEq, exists_eq_left', exists_eq_left, exists_eq', true_and, and_true, cIsN, L2.start, gTup, gCons, gNil, nox_K, cx_K, tCallF, tSl, tPart, tNoPart, iEnum, RZ.iZipA, iRng1, iRng2, cAbs, List.map_cons, List.map_nil, List.length_cons, List.length_nil, List.replicate, List.cons_append, List.nil_append, List.getElem?_cons_zero, List.getElem?_cons_succ, List.getElem?_nil, List.set_cons_zero, List.set_cons_succ, Nat.reduceAdd, Nat.reduceSub, Nat.zero_add, if_true, if_false, reduceIte, reduceCtorEq, Bool.false_eq_true, decide_eq_true_eq, tDrop, cMin2, cJoin, iList, tDNewK, tLc_eq, iStr, wipe])
            refine ⟨d, _, rfl, DPut.k (k := .inr n) hd3 ?_, _, _, _, _, _, _, rfl, ?_, ?_, ?_, ?_, hwk⟩
            · unfold kvsOf
              rw [List.length_map, List.length_take]
              have : rs.length ≤ 7 := by
                have := hidx.length_le
                rw [List.length_map] at this
                exact this
              omega
            · rw [← hnm, hzv, put_new, ← htk]
              · exact upd_self
              · intro x hx e
                obtain ⟨j, hj⟩ := List.mem_iff_getElem?.mp hx
                have hjk : j < k := by
                  have := (List.getElem?_eq_some_iff.mp hj).1
                  rw [List.length_take] at this
                  omega
                rw [List.getElem?_take_of_lt hjk] at hj
                have h1 := nmS_inj (h7 x (List.mem_of_getElem? hj)) (h7 r hrm) e
                obtain ⟨hj1, hj2⟩ := List.getElem?_eq_some_iff.mp hj
                obtain ⟨hk1, hk2⟩ := List.getElem?_eq_some_iff.mp hr
                have := List.pairwise_iff_getElem.mp hnd j k (by simpa using hj1) (by simpa using hk1) hjk
                rw [List.getElem_map, List.getElem_map, hj2, hk2] at this
                exact this h1
            · rw [upd_ne hpd]
              exact hp3
            · refine paired_imp (fun a b h => ?_) hrk
              obtain ⟨q3, n3, z3, e3, h3, r3⟩ := h.ext he2
              refine ⟨q3, n3, z3, e3, ?_, r3⟩
              rw [upd_ne]
              · exact h3
              · intro e; subst e
                rw [hd3] at h3; cases h3
            · exact (hek.tr he2).new hd
      · rintro σ H' ⟨u2, u3, u4, u5, u6, u7, rfl, hdk, hpk, hrk, hek, hwk⟩
        have hl := hrk.length
        rw [hl, List.take_length] at hdk
        rw [hl, List.drop_length] at hwk
        exact hN _ _ ⟨_, _, _, _, _, _, rfl, hdk, hek, hwk⟩
    · rintro σ H1 ⟨u2, u3, u4, u5, u6, u7, rfl, hdk, hek, hwk⟩
      rw [hwk] at q
      obtain ⟨hdu, q⟩ := q
      unfold tRet tCMethKw
      (try simp only [tNext, tFor_eq, cBl, tOp, tC, cI, cIc, cAdd, cVar, hEq, hNe, hIn, hNotIn, hLen, hSl, tM1, tBM, cT1, cT1f, cFind3, cSplit, cPart, rNewStrs, hIsS, hTru, tAsg, gName, gSub, tRet, tRetN, tCons, tNil, tTup, tLst, tCB, tNot, tAnd, tNotV, tAndV, tOrV, tOr, V.bl.injEq, V.int.injEq, V.str.injEq, exists_eq_left', exists_eq_left, exists_eq', true_and, and_true, cIsN, L2.start, gTup, gCons, gNil, nox_K, cx_K, tCallF, tSl, tPart, tNoPart, iEnum, RZ.iZipA, iRng1, iRng2, cAbs, List.map_cons, List.map_nil, List.length_cons, List.length_nil, List.replicate, List.cons_append, List.nil_append, List.getElem?_cons_zero, List.getElem?_cons_succ, List.getElem?_nil, List.set_cons_zero, List.set_cons_succ, Nat.reduceAdd, Nat.reduceSub, Nat.zero_add, if_true, if_false, reduceIte, reduceCtorEq, Bool.false_eq_true, decide_eq_true_eq, tDrop, cMin2, cJoin, iList, tDNewK, tLc_eq, iStr, wipe])
      intro d2 hd2
      have hne : d ≠ d2 := ne_none hdk hd2
      refine ⟨upd_self, d, kvsOf rs, kwOfR rs, rfl, hne, upd_old hdk hd2, kwV_rows rs, fun q hq => ?_, ?_⟩
      · obtain ⟨r, hr, rfl⟩ := List.mem_map.mp hq
        have := h7 r hr
        have hc : r.1 = 0 ∨ r.1 = 1 ∨ r.1 = 2 ∨ r.1 = 3 ∨ r.1 = 4 ∨ r.1 = 5 ∨ r.1 = 6 := by omega
        show nmS r.1 ∈ _
        rcases hc with e | e | e | e | e | e | e <;> (rw [e]; decide +kernel)
      · rw [kwVals_rows rs h7]
        have hA := AV_vs (H := upd (upd H1 d2 (.dK [])) d2 (.dK (kvsOf rs))) hlen
        refine ⟨rfl, hA, ?_⟩
        show (match dueV (vsOf rs) with
          | none => _
          | some n => _)
        rw [hdu]
        have h02 : H0 d2 = none := by
          cases z : H0 d2 with
          | none => rfl
          | some o => rw [hek _ _ z] at hd2; cases hd2
        have eX : Ext H0 (upd (upd H1 d2 (.dK [])) d2 (.dK (kvsOf rs))) := (hek.fresh hd2).new h02
        refine fun a H2 he2 hu ha => q a H2 (eX.tr he2) hu ?_
        cases z : H0 a with
        | none => rfl
        | some o => rw [eX _ _ z] at ha; cases ha
end
end Da
set_option Elab.async false
set_option linter.all false
set_option maxRecDepth 100000
set_option maxHeartbeats 4000000
namespace Da
open PySem PySem.Spec PyProof.Rows L2 Hd Xs Fx Mi ClX Xr
open TL (tl)
def spGet (K : PySem.W.Frag) (i : Nat) : Sp := fun vs H Q _ => match vs with
  | [.ref a] => ∃ xs v, UrlAt K H a xs ∧ xs[i]? = some v ∧ xs.length = 7 ∧ Q v H
  | _ => False
theorem atI_nat {α : Type} {xs : List α} {i : Nat} {v : α} (h : xs[i]? = some v) : atI xs (i : Int) = some v := by
  have hl := (List.getElem?_eq_some_iff.mp h).1
  unfold atI ixN
  rw [if_pos (by omega), if_pos (by omega)]
  exact h
section
variable {P : Program} {w : World} {K : PySem.W.Frag} {mg : Str → Option Value} {base : Heap}
theorem ok_Url_scheme (c : Ct w K mg) : OkF P w K mg base CX0 1 (He5.wf K (He.ga K "Url") "property" "scheme") ["self"] (spGet K 0) := by
  obtain ⟨fd, F⟩ := F_Url_scheme c
  refine ⟨fd, F.ok sc_Url_scheme (fun vs H Q E h => ?_) (fun cdv A outer s H vs Q E hr h => ⟨_, PSs.nox ((pss_one (ps_ret (hix (pe_fld (cv 0) (by rfl)) pe_int)))), ?_⟩), F.bindsN fun _ _ _ _ _ _ us hl => match us, hl with | [_], _ => rfl⟩
  · unfold spGet at h
    split at h
    · rfl
    · exact h.elim
  · unfold spGet at h
    split at h
    case h_2 => exact h.elim
    rename_i a
    obtain ⟨xs, v, ⟨dx, T, ha, hT⟩, hv, _, q⟩ := h
    unfold tFld
    (try simp only [tSeq, tNext, tIfS, tFor_eq, cBl, tOp, tC, cI, cIc, cAdd, cVar, hEq, hNe, hIn, hNotIn, hLen, hSl, tM1, tBM, cT1, cT1f, cFind3, cSplit, cPart, rNewStrs, hIsS, hTru, tAsg, gName, gSub, tRet, tRetN, tCons, tNil, tTup, tLst, tCB, tNot, tAnd, tNotV, tAndV, tOrV, tOr, V.bl.injEq, V.int.injEq, V.str.injEq, exists_eq_left', exists_eq_left, exists_eq', true_and, and_true, cIsN, L2.start, gTup, gCons, gNil, nox_K, cx_K, tCallF, tSl, tPart, tNoPart, iEnum, RZ.iZipA, iRng1, iRng2, cAbs, List.map_cons, List.map_nil, List.length_cons, List.length_nil, List.replicate, List.cons_append, List.nil_append, List.getElem?_cons_zero, List.getElem?_cons_succ, List.getElem?_nil, List.set_cons_zero, List.set_cons_succ, Nat.reduceAdd, Nat.reduceSub, Nat.zero_add, if_true, if_false, reduceIte, reduceCtorEq, Bool.false_eq_true, decide_eq_true_eq, tDrop, cMin2, cJoin, iList, tDNewK, tLc_eq, iStr, wipe])
    exact ⟨a, _, dx, _, _, rfl, ha, cls_Url c, noat_Url__parts c, rfl, hIx_tup hT (atI_nat hv) q⟩
theorem ok_Url_user (c : Ct w K mg) : OkF P w K mg base CX0 1 (He5.wf K (He.ga K "Url") "property" "user") ["self"] (spGet K 1) := by
  obtain ⟨fd, F⟩ := F_Url_user c
  refine ⟨fd, F.ok sc_Url_user (fun vs H Q E h => ?_) (fun cdv A outer s H vs Q E hr h => ⟨_, PSs.nox ((pss_one (ps_ret (hix (pe_fld (cv 0) (by rfl)) pe_int)))), ?_⟩), F.bindsN fun _ _ _ _ _ _ us hl => match us, hl with | [_], _ => rfl⟩
  · unfold spGet at h
    split at h
    · rfl
    · exact h.elim
  · unfold spGet at h
    split at h
    case h_2 => exact h.elim
    rename_i a
    obtain ⟨xs, v, ⟨dx, T, ha, hT⟩, hv, _, q⟩ := h
    unfold tFld
    (try simp only [tSeq, tNext, tIfS, tFor_eq, cBl, tOp, tC, cI, cIc, cAdd, cVar, hEq, hNe, hIn, hNotIn, hLen, hSl, tM1, tBM, cT1, cT1f, cFind3, cSplit, cPart, rNewStrs, hIsS, hTru, tAsg, gName, gSub, tRet, tRetN, tCons, tNil, tTup, tLst, tCB, tNot, tAnd, tNotV, tAndV, tOrV, tOr, V.bl.injEq, V.int.injEq, V.str.injEq, exists_eq_left', exists_eq_left, exists_eq', true_and, and_true, cIsN, L2.start, gTup, gCons, gNil, nox_K, cx_K, tCallF, tSl, tPart, tNoPart, iEnum, RZ.iZipA, iRng1, iRng2, cAbs, List.map_cons, List.map_nil, List.length_cons, List.length_nil, List.replicate, List.cons_append, List.nil_append, List.getElem?_cons_zero, List.getElem?_cons_succ, List.getElem?_nil, List.set_cons_zero, List.set_cons_succ, Nat.reduceAdd, Nat.reduceSub, Nat.zero_add, if_true, if_false, reduceIte, reduceCtorEq, Bool.false_eq_true, decide_eq_true_eq, tDrop, cMin2, cJoin, iList, tDNewK, tLc_eq, iStr, wipe])
    exact ⟨a, _, dx, _, _, rfl, ha, cls_Url c, noat_Url__parts c, rfl, hIx_tup hT (atI_nat hv) q⟩
theorem ok_Url_host (c : Ct w K mg) : OkF P w K mg base CX0 1 (He5.wf K (He.ga K "Url") "property" "host") ["self"] (spGet K 2) := by
  obtain ⟨fd, F⟩ := F_Url_host c
  refine ⟨fd, F.ok sc_Url_host (fun vs H Q E h => ?_) (fun cdv A outer s H vs Q E hr h => ⟨_, PSs.nox ((pss_one (ps_ret (hix (pe_fld (cv 0) (by rfl)) pe_int)))), ?_⟩), F.bindsN fun _ _ _ _ _ _ us hl => match us, hl with | [_], _ => rfl⟩
  · unfold spGet at h
    split at h
    · rfl
    · exact h.elim
  · unfold spGet at h
    split at h
    case h_2 => exact h.elim
    rename_i a
    obtain ⟨xs, v, ⟨dx, T, ha, hT⟩, hv, _, q⟩ := h
    unfold tFld
    (try simp only [tSeq, tNext, tIfS, tFor_eq, cBl, tOp, tC, cI, cIc, cAdd, cVar, hEq, hNe, hIn, hNotIn, hLen, hSl, tM1, tBM, cT1, cT1f, cFind3, cSplit, cPart, rNewStrs, hIsS, hTru, tAsg, gName, gSub, tRet, tRetN, tCons, tNil, tTup, tLst, tCB, tNot, tAnd, tNotV, tAndV, tOrV, tOr, V.bl.injEq, V.int.injEq, V.str.injEq, exists_eq_left', exists_eq_left, exists_eq', true_and, and_true, cIsN, L2.start, gTup, gCons, gNil, nox_K, cx_K, tCallF, tSl, tPart, tNoPart, iEnum, RZ.iZipA, iRng1, iRng2, cAbs, List.map_cons, List.map_nil, List.length_cons, List.length_nil, List.replicate, List.cons_append, List.nil_append, List.getElem?_cons_zero, List.getElem?_cons_succ, List.getElem?_nil, List.set_cons_zero, List.set_cons_succ, Nat.reduceAdd, Nat.reduceSub, Nat.zero_add, if_true, if_false, reduceIte, reduceCtorEq, Bool.false_eq_true, decide_eq_true_eq, tDrop, cMin2, cJoin, iList, tDNewK, tLc_eq, iStr, wipe])
    exact ⟨a, _, dx, _, _, rfl, ha, cls_Url c, noat_Url__parts c, rfl, hIx_tup hT (atI_nat hv) q⟩
theorem ok_Url_port (c : Ct w K mg) : OkF P w K mg base CX0 1 (He5.wf K (He.ga K "Url") "property" "port") ["self"] (spGet K 3) := by
  obtain ⟨fd, F⟩ := F_Url_port c
  refine ⟨fd, F.ok sc_Url_port (fun vs H Q E h => ?_) (fun cdv A outer s H vs Q E hr h => ⟨_, PSs.nox ((pss_one (ps_ret (hix (pe_fld (cv 0) (by rfl)) pe_int)))), ?_⟩), F.bindsN fun _ _ _ _ _ _ us hl => match us, hl with | [_], _ => rfl⟩
  · unfold spGet at h
    split at h
    · rfl
    · exact h.elim
  · unfold spGet at h
    split at h
    case h_2 => exact h.elim
    rename_i a
    obtain ⟨xs, v, ⟨dx, T, ha, hT⟩, hv, _, q⟩ := h
    unfold tFld
    (try simp only [tSeq, tNext, tIfS, tFor_eq, cBl, tOp, tC, cI, cIc, cAdd, cVar, hEq, hNe, hIn, hNotIn, hLen, hSl, tM1, tBM, cT1, cT1f, cFind3, cSplit, cPart, rNewStrs, hIsS, hTru, tAsg, gName, gSub, tRet, tRetN, tCons, tNil, tTup, tLst, tCB, tNot, tAnd, tNotV, tAndV, tOrV, tOr, V.bl.injEq, V.int.injEq, V.str.injEq, exists_eq_left', exists_eq_left, exists_eq', true_and, and_true, cIsN, L2.start, gTup, gCons, gNil, nox_K, cx_K, tCallF, tSl, tPart, tNoPart, iEnum, RZ.iZipA, iRng1, iRng2, cAbs, List.map_cons, List.map_nil, List.length_cons, List.length_nil, List.replicate, List.cons_append, List.nil_append, List.getElem?_cons_zero, List.getElem?_cons_succ, List.getElem?_nil, List.set_cons_zero, List.set_cons_succ, Nat.reduceAdd, Nat.reduceSub, Nat.zero_add, if_true, if_false, reduceIte, reduceCtorEq, Bool.false_eq_true, decide_eq_true_eq, tDrop, cMin2, cJoin, iList, tDNewK, tLc_eq, iStr, wipe])
    exact ⟨a, _, dx, _, _, rfl, ha, cls_Url c, noat_Url__parts c, rfl, hIx_tup hT (atI_nat hv) q⟩
theorem ok_Url_path (c : Ct w K mg) : OkF P w K mg base CX0 1 (He5.wf K (He.ga K "Url") "property" "path") ["self"] (spGet K 4) := by
  obtain ⟨fd, F⟩ := F_Url_path c
  refine ⟨fd, F.ok sc_Url_path (fun vs H Q E h => ?_) (fun cdv A outer s H vs Q E hr h => ⟨_, PSs.nox ((pss_one (ps_ret (hix (pe_fld (cv 0) (by rfl)) pe_int)))), ?_⟩), F.bindsN fun _ _ _ _ _ _ us hl => match us, hl with | [_], _ => rfl⟩
  · unfold spGet at h
    split at h
    · rfl
    · exact h.elim
  · unfold spGet at h
    split at h
    case h_2 => exact h.elim
    rename_i a
    obtain ⟨xs, v, ⟨dx, T, ha, hT⟩, hv, _, q⟩ := h
    unfold tFld
    (try simp only [tSeq, tNext, tIfS, tFor_eq, cBl, tOp, tC, cI, cIc, cAdd, cVar, hEq, hNe, hIn, hNotIn, hLen, hSl, tM1, tBM, cT1, cT1f, cFind3, cSplit, cPart, rNewStrs, hIsS, hTru, tAsg, gName, gSub, tRet, tRetN, tCons, tNil, tTup, tLst, tCB, tNot, tAnd, tNotV, tAndV, tOrV, tOr, V.bl.injEq, V.int.injEq, V.str.injEq, exists_eq_left', exists_eq_left, exists_eq', true_and, and_true, cIsN, L2.start, gTup, gCons, gNil, nox_K, cx_K, tCallF, tSl, tPart, tNoPart, iEnum, RZ.iZipA, iRng1, iRng2, cAbs, List.map_cons, List.map_nil, List.length_cons, List.length_nil, List.replicate, List.cons_append, List.nil_append, List.getElem?_cons_zero, List.getElem?_cons_succ, List.getElem?_nil, List.set_cons_zero, List.set_cons_succ, Nat.reduceAdd, Nat.reduceSub, Nat.zero_add, if_true, if_false, reduceIte, reduceCtorEq, Bool.false_eq_true, decide_eq_true_eq, tDrop, cMin2, cJoin, iList, tDNewK, tLc_eq, iStr, wipe])
    exact ⟨a, _, dx, _, _, rfl, ha, cls_Url c, noat_Url__parts c, rfl, hIx_tup hT (atI_nat hv) q⟩
theorem ok_Url_query (c : Ct w K mg) : OkF P w K mg base CX0 1 (He5.wf K (He.ga K "Url") "property" "query") ["self"] (spGet K 5) := by
  obtain ⟨fd, F⟩ := F_Url_query c
  refine ⟨fd, F.ok sc_Url_query (fun vs H Q E h => ?_) (fun cdv A outer s H vs Q E hr h => ⟨_, PSs.nox ((pss_one (ps_ret (hix (pe_fld (cv 0) (by rfl)) pe_int)))), ?_⟩), F.bindsN fun _ _ _ _ _ _ us hl => match us, hl with | [_], _ => rfl⟩
  · unfold spGet at h
    split at h
    · rfl
    · exact h.elim
  · unfold spGet at h
    split at h
    case h_2 => exact h.elim
    rename_i a
    obtain ⟨xs, v, ⟨dx, T, ha, hT⟩, hv, _, q⟩ := h
    unfold tFld
    (try simp only [tSeq, tNext, tIfS, tFor_eq, cBl, tOp, tC, cI, cIc, cAdd, cVar, hEq, hNe, hIn, hNotIn, hLen, hSl, tM1, tBM, cT1, cT1f, cFind3, cSplit, cPart, rNewStrs, hIsS, hTru, tAsg, gName, gSub, tRet, tRetN, tCons, tNil, tTup, tLst, tCB, tNot, tAnd, tNotV, tAndV, tOrV, tOr, V.bl.injEq, V.int.injEq, V.str.injEq, exists_eq_left', exists_eq_left, exists_eq', true_and, and_true, cIsN, L2.start, gTup, gCons, gNil, nox_K, cx_K, tCallF, tSl, tPart, tNoPart, iEnum, RZ.iZipA, iRng1, iRng2, cAbs, List.map_cons, List.map_nil, List.length_cons, List.length_nil, List.replicate, List.cons_append, List.nil_append, List.getElem?_cons_zero, List.getElem?_cons_succ, List.getElem?_nil, List.set_cons_zero, List.set_cons_succ, Nat.reduceAdd, Nat.reduceSub, Nat.zero_add, if_true, if_false, reduceIte, reduceCtorEq, Bool.false_eq_true, decide_eq_true_eq, tDrop, cMin2, cJoin, iList, tDNewK, tLc_eq, iStr, wipe])
    exact ⟨a, _, dx, _, _, rfl, ha, cls_Url c, noat_Url__parts c, rfl, hIx_tup hT (atI_nat hv) q⟩
theorem ok_Url_fragment (c : Ct w K mg) : OkF P w K mg base CX0 1 (He5.wf K (He.ga K "Url") "property" "fragment") ["self"] (spGet K 6) := by
  obtain ⟨fd, F⟩ := F_Url_fragment c
  refine ⟨fd, F.ok sc_Url_fragment (fun vs H Q E h => ?_) (fun cdv A outer s H vs Q E hr h => ⟨_, PSs.nox ((pss_one (ps_ret (hix (pe_fld (cv 0) (by rfl)) pe_int)))), ?_⟩), F.bindsN fun _ _ _ _ _ _ us hl => match us, hl with | [_], _ => rfl⟩
  · unfold spGet at h
    split at h
    · rfl
    · exact h.elim
  · unfold spGet at h
    split at h
    case h_2 => exact h.elim
    rename_i a
    obtain ⟨xs, v, ⟨dx, T, ha, hT⟩, hv, _, q⟩ := h
    unfold tFld
    (try simp only [tSeq, tNext, tIfS, tFor_eq, cBl, tOp, tC, cI, cIc, cAdd, cVar, hEq, hNe, hIn, hNotIn, hLen, hSl, tM1, tBM, cT1, cT1f, cFind3, cSplit, cPart, rNewStrs, hIsS, hTru, tAsg, gName, gSub, tRet, tRetN, tCons, tNil, tTup, tLst, tCB, tNot, tAnd, tNotV, tAndV, tOrV, tOr, V.bl.injEq, V.int.injEq, V.str.injEq, exists_eq_left', exists_eq_left, exists_eq', true_and, and_true, cIsN, L2.start, gTup, gCons, gNil, nox_K, cx_K, tCallF, tSl, tPart, tNoPart, iEnum, RZ.iZipA, iRng1, iRng2, cAbs, List.map_cons, List.map_nil, List.length_cons, List.length_nil, List.replicate, List.cons_append, List.nil_append, List.getElem?_cons_zero, List.getElem?_cons_succ, List.getElem?_nil, List.set_cons_zero, List.set_cons_succ, Nat.reduceAdd, Nat.reduceSub, Nat.zero_add, if_true, if_false, reduceIte, reduceCtorEq, Bool.false_eq_true, decide_eq_true_eq, tDrop, cMin2, cJoin, iList, tDNewK, tLc_eq, iStr, wipe])
    exact ⟨a, _, dx, _, _, rfl, ha, cls_Url c, noat_Url__parts c, rfl, hIx_tup hT (atI_nat hv) q⟩
/-- parts that may be written -/
def Good (v : V) : Prop := v = .non ∨ ∃ t : Str, v = .str t ∧ t.length ≤ (100000 : Nat)
def oT (v : V) : T := match v with
  | .str t => tl t
  | _ => []
def txtV (vs : List V) : T := match vs with
  | [s, u, h, p, l, q, f] => (if isNo s = true then [] else oT s ++ [58]) ++ ((if isNo h = true then [] else [47, 47]) ++ ((if isNo u = true then [] else oT u ++ [64]) ++ ((if isNo h = true then [] else oT h) ++ ((if isNo p = true then [] else [58] ++ oT p) ++ (oT l ++ ((if isNo q = true then [] else [63] ++ oT q) ++ (if isNo f = true then [] else [35] ++ oT f)))))))
  | _ => []
def spStr (K : PySem.W.Frag) : Sp := fun vs H Q _ => match vs with
  | [.ref a] => ∃ v0 v1 v2 v3 l v5 v6, UrlAt K H a [v0, v1, v2, v3, .str l, v5, v6] ∧ Good v0 ∧ Good v1 ∧ Good v2 ∧ Good v3 ∧ l.length ≤ (100000 : Nat) ∧ Good v5 ∧ Good v6 ∧ ∀ z H', Ext H H' → tl z = txtV [v0, v1, v2, v3, .str l, v5, v6] → Q (.str z) H'
  | _ => False
theorem UrlAt.ext {K : PySem.W.Frag} {H H' : Hp} {a : Addr} {vs : List V} (h : UrlAt K H a vs) (e : Ext H H') : UrlAt K H' a vs := by
  obtain ⟨dx, T, h1, h2⟩ := h
  exact ⟨dx, T, e _ _ h1, e _ _ h2⟩
theorem UrlAt.updL {K : PySem.W.Frag} {H : Hp} {a p : Addr} {vs xs : List V} {o : HO} (h : UrlAt K H a vs) (hp : H p = some (.lst xs)) : UrlAt K (upd H p o) a vs := by
  obtain ⟨dx, T, h1, h2⟩ := h
  refine ⟨dx, T, ?_, ?_⟩
  · rw [upd_ne]
    · exact h1
    · intro e; subst e; rw [hp] at h1; cases h1
  · rw [upd_ne]
    · exact h2
    · intro e; subst e; rw [hp] at h2; cases h2
/-- the pieces so far -/
def PcAt (H0 : Hp) (p : Addr) (pre : T) (n : Nat) (H : Hp) : Prop := ∃ ps : List Str, H p = some (.lst (ps.map V.str)) ∧ (ps.map tl).flatten = pre ∧ (∀ z ∈ ps, z.length ≤ 100010) ∧ ps.length ≤ n ∧ Ext H0 H
theorem PcAt.put {H0 H : Hp} {p : Addr} {pre : T} {n : Nat} {K : PySem.W.Frag} {Q : VK} {z : Str} {a : Addr} {xs : List V} (h : PcAt H0 p pre n H) (h0 : H0 p = none) (hz : z.length ≤ 100010) (hn : n ≤ 20) (hu : UrlAt K H a xs)
    (q : ∀ H', PcAt H0 p (pre ++ tl z) (n + 1) H' → UrlAt K H' a xs → Q .non H') : rAppend (.ref p) [.str z] H Q := by
  obtain ⟨ps, h1, h2, h3, h4, h5⟩ := h
  have sl := sl
  refine append_at h1 (by rw [List.length_map]; omega) (q _ ⟨ps ++ [z], ?_, ?_, ?_, ?_, h5.new h0⟩ (hu.updL h1))
  · rw [List.map_append]; exact upd_self
  · rw [List.map_append, List.flatten_append, h2]
    simp
  · intro y hy
    rcases List.mem_append.mp hy with hy | hy
    · exact h3 y hy
    · rw [List.mem_singleton.mp hy]; exact hz
  · rw [List.length_append]; simp only [List.length_cons, List.length_nil]; omega
theorem prop_ok {K : PySem.W.Frag} {H : Hp} {a : Addr} {i : Nat} {v : V} {xs : List V} {Q : VK} {E : XK} {σ : L2.St} (hσ : σ[0]? = some (some (.ref a))) (hu : UrlAt K H a xs) (hi : xs[i]? = some v) (hl : xs.length = 7) (q : Q v H) : tProp (He.ga K "Url") (spGet K i) [] E (cVar 0) σ H Q := by
  obtain ⟨dx, T, h1, h2⟩ := hu
  unfold tProp cVar
  rw [hσ]
  exact ⟨a, dx, _, rfl, h1, xs, v, ⟨dx, T, h1, h2⟩, hi, hl, q⟩
/-- if self.f is not None: pieces.append(te) -/
theorem str_step {K : PySem.W.Frag} {H0 H : Hp} {a p : Addr} {i n : Nat} {v : V} {xs : List V} {pre piece : T} {te : TE} {D : Ends} (h0 : H0 p = none) (hn : n ≤ 20) (hu : UrlAt K H a xs) (hi : xs[i]? = some v) (hl : xs.length = 7) (g : Good v) (hp : PcAt H0 p pre n H)
    (hte : ∀ t, v = .str t → t.length ≤ (100000 : Nat) → ∀ Q : VK, (∀ z : Str, tl z = piece → z.length ≤ 100010 → Q (.str z) H) → te [some (.ref a), some (.ref p)] H Q)
    (hD : ∀ H', PcAt H0 p (pre ++ (if isNo v = true then [] else piece)) (n + 1) H' → UrlAt K H' a xs → D.nx [some (.ref a), some (.ref p)] H') :
    tIfS (cBl (tOp (cIsN true) (tProp (He.ga K "Url") (spGet K i) [] E0 (cVar 0)) (tC V.non))) (tDrop (tBM K "list" rAppend (cVar 1) (tCons te tNil))) tNext D [some (.ref a), some (.ref p)] H := by
  unfold tIfS cBl tOp
  refine prop_ok rfl hu hi hl ?_
  (try simp only [tSeq, tNext, tIfS, tFor_eq, cBl, tOp, tC, cI, cIc, cAdd, cVar, hEq, hNe, hIn, hNotIn, hLen, hSl, tM1, tBM, cT1, cT1f, cFind3, cSplit, cPart, rNewStrs, hIsS, hTru, tAsg, gName, gSub, tRet, tRetN, tCons, tNil, tTup, tLst, tCB, tNot, tAnd, tNotV, tAndV, tOrV, tOr, V.bl.injEq, V.int.injEq, V.str.injEq, exists_eq_left', exists_eq_left, exists_eq', true_and, and_true, cIsN, L2.start, gTup, gCons, gNil, nox_K, cx_K, tCallF, tSl, tPart, tNoPart, iEnum, RZ.iZipA, iRng1, iRng2, cAbs, List.map_cons, List.map_nil, List.length_cons, List.length_nil, List.replicate, List.cons_append, List.nil_append, List.getElem?_cons_zero, List.getElem?_cons_succ, List.getElem?_nil, List.set_cons_zero, List.set_cons_succ, Nat.reduceAdd, Nat.reduceSub, Nat.zero_add, if_true, if_false, reduceIte, reduceCtorEq, Bool.false_eq_true, decide_eq_true_eq, tDrop, cMin2, cJoin, iList, tDNewK, tLc_eq, iStr, wipe])
  rcases g with rfl | ⟨t, rfl, ht⟩
  · have := hD H (by
      obtain ⟨ps, h1, h2, h3, h4, h5⟩ := hp
      rw [if_pos (show isNo V.non = true from rfl), List.append_nil]
      exact ⟨ps, h1, h2, h3, by omega, h5⟩) hu
    simp only [decide_true, Bool.not_true, Bool.false_eq_true, if_false]
    exact this
  · have e : decide (V.str t = V.non) = false := rfl
    rw [e, if_pos (by decide)]
    rw [if_neg (show ¬ isNo (V.str t) = true from Bool.false_ne_true)] at hD
    have hl := hp
    obtain ⟨ps, h1, h2, h3, h4, h5⟩ := hp
    refine ⟨tyL h1, hte t rfl ht _ fun z hz hzl => ?_⟩
    refine hl.put h0 hzl hn hu fun H' h' hu' => ?_
    rw [hz] at h'
    exact hD H' h' hu'
/-- f"{self.f}s", f"s{self.f}" -/
theorem fs_post {K : PySem.W.Frag} {H : Hp} {a p : Addr} {i : Nat} {xs : List V} {t s : Str} {Q : VK} {E : XK} (hu : UrlAt K H a xs) (hi : xs[i]? = some (.str t)) (hl : xs.length = 7) (ht : t.length ≤ (100000 : Nat)) (hs : s.length ≤ 2)
    (q : ∀ z : Str, tl z = tl t ++ tl s → z.length ≤ 100010 → Q (.str z) H) : tJs [tFmt (tProp (He.ga K "Url") (spGet K i) [] E (cVar 0)), tC (.str s)] Str.empty [some (.ref a), some (.ref p)] H fun out H1 => Q (.str out) H1 := by
  have sl := sl
  have e0 : Str.empty.length = 0 := rfl
  simp only [tJs, tFmt, tC]
  refine prop_ok rfl hu hi hl ?_
  refine .inl ⟨t, rfl, by omega, t, rfl, by rw [la]; omega, s, rfl, by rw [la, la]; omega, q _ ?_ (by rw [la, la]; omega)⟩
  rw [TL.tl_append, TL.tl_append]
  rfl
theorem fs_pre {K : PySem.W.Frag} {H : Hp} {a p : Addr} {i : Nat} {xs : List V} {t s : Str} {Q : VK} {E : XK} (hu : UrlAt K H a xs) (hi : xs[i]? = some (.str t)) (hl : xs.length = 7) (ht : t.length ≤ (100000 : Nat)) (hs : s.length ≤ 2)
    (q : ∀ z : Str, tl z = tl s ++ tl t → z.length ≤ 100010 → Q (.str z) H) : tJs [tC (.str s), tFmt (tProp (He.ga K "Url") (spGet K i) [] E (cVar 0))] Str.empty [some (.ref a), some (.ref p)] H fun out H1 => Q (.str out) H1 := by
  have sl := sl
  have e0 : Str.empty.length = 0 := rfl
  simp only [tJs, tFmt, tC]
  refine ⟨s, rfl, by rw [la]; omega, ?_⟩
  refine prop_ok rfl hu hi hl ?_
  refine .inl ⟨t, rfl, by omega, t, rfl, by rw [la, la]; omega, q _ ?_ (by rw [la, la]; omega)⟩
  rw [TL.tl_append, TL.tl_append]
  rfl
theorem oT_str (t : Str) : oT (.str t) = tl t := rfl
theorem joinL_nil : ∀ ps : List T, TL.joinL [] ps = ps.flatten
  | [] => rfl
  | [p] => by simp [TL.joinL]
  | p :: q :: r => by
    have := joinL_nil (q :: r)
    simp only [TL.joinL, List.nil_append, List.flatten_cons] at this ⊢
    rw [this]
theorem ok_Url___str__ (c : Ct w K mg) : OkF P w K mg base CX0 3 (He.ma K (He.ga K "Url") "__str__") ["self"] (spStr K) := by
  obtain ⟨fd, F⟩ := F_Url___str__ c
  refine ⟨fd, F.ok sc_Url___str__ (fun vs H Q E h => ?_) (fun cdv A outer s H vs Q E hr h => ⟨_, PSs.nox ((pss_cons (ps_set (i := 1) (sc_Url___str__).nd rfl (Or.inl rfl) (pe_lst pa_nil)) (pss_cons (ps_if (ctc co_notN (pe_prop (cv 0) (cls_Url c) (prop_Url_scheme c) (ok_Url_scheme c).choose_spec.1 (hr.mono (by decide)) (ok_Url_scheme c).choose_spec.2 .nil pass0 (by rfl)) pe_non (by rfl)) (pss_one (ps_expr (pe_bm PySem.F.plainAttrs_list PySem.F.slot_list_append PySem.F.type_list_append mt_append (cv 1) (pa_cons (pe_joined (.cons (pe_fmt (pe_prop (cv 0) (cls_Url c) (prop_Url_scheme c) (ok_Url_scheme c).choose_spec.1 (hr.mono (by decide)) (ok_Url_scheme c).choose_spec.2 .nil pass0 (by rfl))) (.cons pe_str .nil))) pa_nil)))) pss_nil) (pss_cons (ps_if (ctc co_notN (pe_prop (cv 0) (cls_Url c) (prop_Url_host c) (ok_Url_host c).choose_spec.1 (hr.mono (by decide)) (ok_Url_host c).choose_spec.2 .nil pass0 (by rfl)) pe_non (by rfl)) (pss_one (ps_expr (pe_bm PySem.F.plainAttrs_list PySem.F.slot_list_append PySem.F.type_list_append mt_append (cv 1) (pa_cons pe_str pa_nil)))) pss_nil) (pss_cons (ps_if (ctc co_notN (pe_prop (cv 0) (cls_Url c) (prop_Url_user c) (ok_Url_user c).choose_spec.1 (hr.mono (by decide)) (ok_Url_user c).choose_spec.2 .nil pass0 (by rfl)) pe_non (by rfl)) (pss_one (ps_expr (pe_bm PySem.F.plainAttrs_list PySem.F.slot_list_append PySem.F.type_list_append mt_append (cv 1) (pa_cons (pe_joined (.cons (pe_fmt (pe_prop (cv 0) (cls_Url c) (prop_Url_user c) (ok_Url_user c).choose_spec.1 (hr.mono (by decide)) (ok_Url_user c).choose_spec.2 .nil pass0 (by rfl))) (.cons pe_str .nil))) pa_nil)))) pss_nil) (pss_cons (ps_if (ctc co_notN (pe_prop (cv 0) (cls_Url c) (prop_Url_host c) (ok_Url_host c).choose_spec.1 (hr.mono (by decide)) (ok_Url_host c).choose_spec.2 .nil pass0 (by rfl)) pe_non (by rfl)) (pss_one (ps_expr (pe_bm PySem.F.plainAttrs_list PySem.F.slot_list_append PySem.F.type_list_append mt_append (cv 1) (pa_cons (pe_prop (cv 0) (cls_Url c) (prop_Url_host c) (ok_Url_host c).choose_spec.1 (hr.mono (by decide)) (ok_Url_host c).choose_spec.2 .nil pass0 (by rfl)) pa_nil)))) pss_nil) (pss_cons (ps_if (ctc co_notN (pe_prop (cv 0) (cls_Url c) (prop_Url_port c) (ok_Url_port c).choose_spec.1 (hr.mono (by decide)) (ok_Url_port c).choose_spec.2 .nil pass0 (by rfl)) pe_non (by rfl)) (pss_one (ps_expr (pe_bm PySem.F.plainAttrs_list PySem.F.slot_list_append PySem.F.type_list_append mt_append (cv 1) (pa_cons (pe_joined (.cons pe_str (.cons (pe_fmt (pe_prop (cv 0) (cls_Url c) (prop_Url_port c) (ok_Url_port c).choose_spec.1 (hr.mono (by decide)) (ok_Url_port c).choose_spec.2 .nil pass0 (by rfl))) .nil))) pa_nil)))) pss_nil) (pss_cons (ps_expr (pe_bm PySem.F.plainAttrs_list PySem.F.slot_list_append PySem.F.type_list_append mt_append (cv 1) (pa_cons (pe_prop (cv 0) (cls_Url c) (prop_Url_path c) (ok_Url_path c).choose_spec.1 (hr.mono (by decide)) (ok_Url_path c).choose_spec.2 .nil pass0 (by rfl)) pa_nil))) (pss_cons (ps_if (ctc co_notN (pe_prop (cv 0) (cls_Url c) (prop_Url_query c) (ok_Url_query c).choose_spec.1 (hr.mono (by decide)) (ok_Url_query c).choose_spec.2 .nil pass0 (by rfl)) pe_non (by rfl)) (pss_one (ps_expr (pe_bm PySem.F.plainAttrs_list PySem.F.slot_list_append PySem.F.type_list_append mt_append (cv 1) (pa_cons (pe_joined (.cons pe_str (.cons (pe_fmt (pe_prop (cv 0) (cls_Url c) (prop_Url_query c) (ok_Url_query c).choose_spec.1 (hr.mono (by decide)) (ok_Url_query c).choose_spec.2 .nil pass0 (by rfl))) .nil))) pa_nil)))) pss_nil) (pss_cons (ps_if (ctc co_notN (pe_prop (cv 0) (cls_Url c) (prop_Url_fragment c) (ok_Url_fragment c).choose_spec.1 (hr.mono (by decide)) (ok_Url_fragment c).choose_spec.2 .nil pass0 (by rfl)) pe_non (by rfl)) (pss_one (ps_expr (pe_bm PySem.F.plainAttrs_list PySem.F.slot_list_append PySem.F.type_list_append mt_append (cv 1) (pa_cons (pe_joined (.cons pe_str (.cons (pe_fmt (pe_prop (cv 0) (cls_Url c) (prop_Url_fragment c) (ok_Url_fragment c).choose_spec.1 (hr.mono (by decide)) (ok_Url_fragment c).choose_spec.2 .nil pass0 (by rfl))) .nil))) pa_nil)))) pss_nil) (pss_one (ps_ret (pe_m1 PySem.F.slot_str_join PySem.F.type_str_join hm_join pe_str (cv 1)))))))))))))), ?_⟩), F.bindsN fun _ _ _ _ _ _ us hl => match us, hl with | [_], _ => rfl⟩
  · unfold spStr at h
    split at h
    · rfl
    · exact h.elim
  · unfold spStr at h
    split at h
    case h_2 => exact h.elim
    rename_i a
    obtain ⟨v0, v1, v2, v3, l, v5, v6, hu, g0, g1, g2, g3, hl, g5, g6, q⟩ := h
    have sl := sl
    have hl7 : [v0, v1, v2, v3, V.str l, v5, v6].length = 7 := rfl
    refine seqStep ?_
    (try simp only [tNext, tFor_eq, cBl, tOp, tC, cI, cIc, cAdd, cVar, hEq, hNe, hIn, hNotIn, hLen, hSl, tM1, tBM, cT1, cT1f, cFind3, cSplit, cPart, rNewStrs, hIsS, hTru, tAsg, gName, gSub, tRet, tRetN, tCons, tNil, tTup, tLst, tCB, tNot, tAnd, tNotV, tAndV, tOrV, tOr, V.bl.injEq, V.int.injEq, V.str.injEq, exists_eq_left', exists_eq_left, exists_eq', true_and, and_true, cIsN, L2.start, gTup, gCons, gNil, nox_K, cx_K, tCallF, tSl, tPart, tNoPart, iEnum, RZ.iZipA, iRng1, iRng2, cAbs, List.map_cons, List.map_nil, List.length_cons, List.length_nil, List.replicate, List.cons_append, List.nil_append, List.getElem?_cons_zero, List.getElem?_cons_succ, List.getElem?_nil, List.set_cons_zero, List.set_cons_succ, Nat.reduceAdd, Nat.reduceSub, Nat.zero_add, if_true, if_false, reduceIte, reduceCtorEq, Bool.false_eq_true, decide_eq_true_eq, tDrop, cMin2, cJoin, iList, tDNewK, tLc_eq, iStr, wipe])
    refine ⟨by omega, fun p h0 => ?_⟩
    have hp0 : PcAt H p [] 0 (upd H p (.lst [])) := ⟨[], upd_self, rfl, fun _ h => (nomatch h), Nat.le_refl _, Ext.rf.fresh h0⟩
    have hu0 := hu.ext (Ext.rf.fresh (o := .lst []) h0)
    have e58 : tl (Str.ofString ":") = [58] := by decide +kernel
    have e64 : tl (Str.ofString "@") = [64] := by decide +kernel
    have e63 : tl (Str.ofString "?") = [63] := by decide +kernel
    have e35 : tl (Str.ofString "#") = [35] := by decide +kernel
    have e47 : tl (Str.ofString "//") = [47, 47] := by decide +kernel
    refine seqCps (fun σ H' => σ = [some (.ref a), some (.ref p)] ∧ PcAt H p ([] ++ (if isNo v0 = true then [] else (oT v0 ++ [58]))) 1 H' ∧ UrlAt K H' a [v0, v1, v2, v3, .str l, v5, v6]) (fun Nx hN => ?_) ?_
    · refine str_step (piece := (oT v0 ++ [58])) h0 (by decide) hu0 rfl rfl g0 hp0 (fun t e ht Q hQ => ?_) (fun H' h' hu' => hN _ _ ⟨rfl, h', hu'⟩)
      subst e; exact fs_post hu0 rfl rfl ht (by decide) fun z hz hzl => hQ z (by rw [hz, e58]; rfl) hzl
    rintro σ H1 ⟨rfl, hp1, hu1⟩
    refine seqCps (fun σ H' => σ = [some (.ref a), some (.ref p)] ∧ PcAt H p (([] ++ (if isNo v0 = true then [] else (oT v0 ++ [58]))) ++ (if isNo v2 = true then [] else [47, 47])) 2 H' ∧ UrlAt K H' a [v0, v1, v2, v3, .str l, v5, v6]) (fun Nx hN => ?_) ?_
    · refine str_step (piece := [47, 47]) h0 (by decide) hu1 rfl rfl g2 hp1 (fun t e ht Q hQ => ?_) (fun H' h' hu' => hN _ _ ⟨rfl, h', hu'⟩)
      subst e; exact hQ _ e47 (by decide)
    rintro σ H2 ⟨rfl, hp2, hu2⟩
    refine seqCps (fun σ H' => σ = [some (.ref a), some (.ref p)] ∧ PcAt H p ((([] ++ (if isNo v0 = true then [] else (oT v0 ++ [58]))) ++ (if isNo v2 = true then [] else [47, 47])) ++ (if isNo v1 = true then [] else (oT v1 ++ [64]))) 3 H' ∧ UrlAt K H' a [v0, v1, v2, v3, .str l, v5, v6]) (fun Nx hN => ?_) ?_
    · refine str_step (piece := (oT v1 ++ [64])) h0 (by decide) hu2 rfl rfl g1 hp2 (fun t e ht Q hQ => ?_) (fun H' h' hu' => hN _ _ ⟨rfl, h', hu'⟩)
      subst e; exact fs_post hu2 rfl rfl ht (by decide) fun z hz hzl => hQ z (by rw [hz, e64]; rfl) hzl
    rintro σ H3 ⟨rfl, hp3, hu3⟩
    refine seqCps (fun σ H' => σ = [some (.ref a), some (.ref p)] ∧ PcAt H p (((([] ++ (if isNo v0 = true then [] else (oT v0 ++ [58]))) ++ (if isNo v2 = true then [] else [47, 47])) ++ (if isNo v1 = true then [] else (oT v1 ++ [64]))) ++ (if isNo v2 = true then [] else (oT v2))) 4 H' ∧ UrlAt K H' a [v0, v1, v2, v3, .str l, v5, v6]) (fun Nx hN => ?_) ?_
    · refine str_step (piece := (oT v2)) h0 (by decide) hu3 rfl rfl g2 hp3 (fun t e ht Q hQ => ?_) (fun H' h' hu' => hN _ _ ⟨rfl, h', hu'⟩)
      subst e; exact prop_ok rfl hu3 rfl rfl (hQ _ rfl (by omega))
    rintro σ H4 ⟨rfl, hp4, hu4⟩
    refine seqCps (fun σ H' => σ = [some (.ref a), some (.ref p)] ∧ PcAt H p ((((([] ++ (if isNo v0 = true then [] else (oT v0 ++ [58]))) ++ (if isNo v2 = true then [] else [47, 47])) ++ (if isNo v1 = true then [] else (oT v1 ++ [64]))) ++ (if isNo v2 = true then [] else (oT v2))) ++ (if isNo v3 = true then [] else ([58] ++ oT v3))) 5 H' ∧ UrlAt K H' a [v0, v1, v2, v3, .str l, v5, v6]) (fun Nx hN => ?_) ?_
    · refine str_step (piece := ([58] ++ oT v3)) h0 (by decide) hu4 rfl rfl g3 hp4 (fun t e ht Q hQ => ?_) (fun H' h' hu' => hN _ _ ⟨rfl, h', hu'⟩)
      subst e; exact fs_pre hu4 rfl rfl ht (by decide) fun z hz hzl => hQ z (by rw [hz, e58]; rfl) hzl
    rintro σ H5 ⟨rfl, hp5, hu5⟩
    refine seqCps (fun σ H' => σ = [some (.ref a), some (.ref p)] ∧ PcAt H p (((((([] ++ (if isNo v0 = true then [] else (oT v0 ++ [58]))) ++ (if isNo v2 = true then [] else [47, 47])) ++ (if isNo v1 = true then [] else (oT v1 ++ [64]))) ++ (if isNo v2 = true then [] else (oT v2))) ++ (if isNo v3 = true then [] else ([58] ++ oT v3))) ++ tl l) 6 H' ∧ UrlAt K H' a [v0, v1, v2, v3, .str l, v5, v6]) (fun Nx hN => ?_) ?_
    · unfold tDrop tBM
      (try simp only [tSeq, tNext, tIfS, tFor_eq, cBl, tOp, tC, cI, cIc, cAdd, cVar, hEq, hNe, hIn, hNotIn, hLen, hSl, tM1, tBM, cT1, cT1f, cFind3, cSplit, cPart, rNewStrs, hIsS, hTru, tAsg, gName, gSub, tRet, tRetN, tCons, tNil, tTup, tLst, tCB, tNot, tAnd, tNotV, tAndV, tOrV, tOr, V.bl.injEq, V.int.injEq, V.str.injEq, exists_eq_left', exists_eq_left, exists_eq', true_and, and_true, cIsN, L2.start, gTup, gCons, gNil, nox_K, cx_K, tCallF, tSl, tPart, tNoPart, iEnum, RZ.iZipA, iRng1, iRng2, cAbs, List.map_cons, List.map_nil, List.length_cons, List.length_nil, List.replicate, List.cons_append, List.nil_append, List.getElem?_cons_zero, List.getElem?_cons_succ, List.getElem?_nil, List.set_cons_zero, List.set_cons_succ, Nat.reduceAdd, Nat.reduceSub, Nat.zero_add, if_true, if_false, reduceIte, reduceCtorEq, Bool.false_eq_true, decide_eq_true_eq, tDrop, cMin2, cJoin, iList, tDNewK, tLc_eq, iStr, wipe])
      obtain ⟨ps, h1, _⟩ := id hp5
      refine ⟨tyL h1, prop_ok rfl hu5 rfl rfl ?_⟩
      exact hp5.put h0 (by omega) (by decide) hu5 fun H' h' hu' => hN _ _ ⟨rfl, h', hu'⟩
    rintro σ H6 ⟨rfl, hp6, hu6⟩
    refine seqCps (fun σ H' => σ = [some (.ref a), some (.ref p)] ∧ PcAt H p ((((((([] ++ (if isNo v0 = true then [] else (oT v0 ++ [58]))) ++ (if isNo v2 = true then [] else [47, 47])) ++ (if isNo v1 = true then [] else (oT v1 ++ [64]))) ++ (if isNo v2 = true then [] else (oT v2))) ++ (if isNo v3 = true then [] else ([58] ++ oT v3))) ++ tl l) ++ (if isNo v5 = true then [] else ([63] ++ oT v5))) 7 H' ∧ UrlAt K H' a [v0, v1, v2, v3, .str l, v5, v6]) (fun Nx hN => ?_) ?_
    · refine str_step (piece := ([63] ++ oT v5)) h0 (by decide) hu6 rfl rfl g5 hp6 (fun t e ht Q hQ => ?_) (fun H' h' hu' => hN _ _ ⟨rfl, h', hu'⟩)
      subst e; exact fs_pre hu6 rfl rfl ht (by decide) fun z hz hzl => hQ z (by rw [hz, e63]; rfl) hzl
    rintro σ H7 ⟨rfl, hp7, hu7⟩
    refine seqCps (fun σ H' => σ = [some (.ref a), some (.ref p)] ∧ PcAt H p (((((((([] ++ (if isNo v0 = true then [] else (oT v0 ++ [58]))) ++ (if isNo v2 = true then [] else [47, 47])) ++ (if isNo v1 = true then [] else (oT v1 ++ [64]))) ++ (if isNo v2 = true then [] else (oT v2))) ++ (if isNo v3 = true then [] else ([58] ++ oT v3))) ++ tl l) ++ (if isNo v5 = true then [] else ([63] ++ oT v5))) ++ (if isNo v6 = true then [] else ([35] ++ oT v6))) 8 H' ∧ UrlAt K H' a [v0, v1, v2, v3, .str l, v5, v6]) (fun Nx hN => ?_) ?_
    · refine str_step (piece := ([35] ++ oT v6)) h0 (by decide) hu7 rfl rfl g6 hp7 (fun t e ht Q hQ => ?_) (fun H' h' hu' => hN _ _ ⟨rfl, h', hu'⟩)
      subst e; exact fs_pre hu7 rfl rfl ht (by decide) fun z hz hzl => hQ z (by rw [hz, e35]; rfl) hzl
    rintro σ H8 ⟨rfl, hp8, hu8⟩
    (try simp only [tSeq, tNext, tIfS, tFor_eq, cBl, tOp, tC, cI, cIc, cAdd, cVar, hEq, hNe, hIn, hNotIn, hLen, hSl, tM1, tBM, cT1, cT1f, cFind3, cSplit, cPart, rNewStrs, hIsS, hTru, tAsg, gName, gSub, tRet, tRetN, tCons, tNil, tTup, tLst, tCB, tNot, tAnd, tNotV, tAndV, tOrV, tOr, V.bl.injEq, V.int.injEq, V.str.injEq, exists_eq_left', exists_eq_left, exists_eq', true_and, and_true, cIsN, L2.start, gTup, gCons, gNil, nox_K, cx_K, tCallF, tSl, tPart, tNoPart, iEnum, RZ.iZipA, iRng1, iRng2, cAbs, List.map_cons, List.map_nil, List.length_cons, List.length_nil, List.replicate, List.cons_append, List.nil_append, List.getElem?_cons_zero, List.getElem?_cons_succ, List.getElem?_nil, List.set_cons_zero, List.set_cons_succ, Nat.reduceAdd, Nat.reduceSub, Nat.zero_add, if_true, if_false, reduceIte, reduceCtorEq, Bool.false_eq_true, decide_eq_true_eq, tDrop, cMin2, cJoin, iList, tDNewK, tLc_eq, iStr, wipe])
    obtain ⟨ps, h1, h2, h3, h4, h5⟩ := hp8
    have hs := sum_len h3
    have em : (Str.ofString "").length = 0 := rfl
    refine ⟨ps, .inl (.inl (Rd.of h1)), by rw [em]; have : ps.length * 100010 ≤ 8 * 100010 := Nat.mul_le_mul_right _ h4; omega, q _ _ h5 ?_⟩
    rw [TL.join_eq, TL.tl_join, show tl (Str.ofString "") = [] from rfl, joinL_nil, h2]
    simp only [txtV, List.nil_append, List.append_assoc, oT_str]
end
end Da
set_option Elab.async false
set_option linter.all false
set_option maxRecDepth 100000
set_option maxHeartbeats 4000000
namespace Da
open PySem PySem.Spec PyProof.Rows L2 Hd Xs Fx Mi ClX Xr
open TL (tl)
theorem contains_eq {A B : T} (h1 : A.all B.contains = true) (h2 : B.all A.contains = true) (c : Nat) : A.contains c = B.contains c := by
  cases ha : A.contains c with
  | true => exact (List.all_eq_true.mp h1 c (List.contains_iff_mem.mp ha)).symm
  | false =>
    cases hb : B.contains c with
    | false => rfl
    | true =>
      have := List.all_eq_true.mp h2 c (List.contains_iff_mem.mp hb)
      rw [ha] at this; cases this
theorem eq_hat (c : Nat) : (⟨#[c]⟩ : Str) = Str.ofString "^" ↔ c = 94 := by
  rw [hat_one]
  constructor
  · intro h
    have := congrArg tl h
    exact (List.cons.inj this).1
  · intro h; rw [h]
theorem scan_in {S : T} {i c : Nat} {r : T} (h : c ≠ 94) (hc : S.contains c = true) : scan S i (c :: r) = scan S (i + 1) r := by
  conv => lhs; unfold Mi.scan
  rw [if_neg h, if_pos hc]
theorem scan_out {S : T} {i c : Nat} {r : T} (h : c ≠ 94) (hc : S.contains c = false) : scan S i (c :: r) = some (kS, i) := by
  conv => lhs; unfold Mi.scan
  rw [if_neg h, if_neg (by rw [hc]; exact Bool.false_ne_true)]
def hexT (r : T) : Bool := decide ((r.take 2).length = 2) && (r.take 2).all HEXT.contains
theorem scan_94' (S : T) (i : Nat) (r : T) : Mi.scan S i (94 :: r) = if hexT r = true then Mi.scan S (i + 3) (r.drop 2) else some (kE, i) := by
  rw [scan_94]
  rcases r with _ | ⟨a, _ | ⟨b, q⟩⟩
  · rfl
  · rfl
  · have e : hexT (a :: b :: q) = (HEXT.contains a && HEXT.contains b) := by
      show (true && (HEXT.contains a && (HEXT.contains b && true))) = _
      rw [Bool.true_and, Bool.and_true]
    rw [e]
    rfl
theorem hexT_len {r : T} (h : hexT r = true) : 2 ≤ r.length := by
  unfold hexT at h
  rw [Bool.and_eq_true] at h
  have := of_decide_eq_true h.1
  rw [List.length_take] at this
  omega
theorem SI_94 {i : Nat} (h : i = 1 ∨ i = 2 ∨ i = 4 ∨ i = 5 ∨ i = 6) : (SI i).contains 94 = false := by
  rcases h with rfl | rfl | rfl | rfl | rfl <;> decide +kernel
theorem SI_hex {i : Nat} (h : i = 1 ∨ i = 2 ∨ i = 4 ∨ i = 5 ∨ i = 6) (c : Nat) (hc : HEXT.contains c = true) : (SI i).contains c = true := by
  have e : HEXT.all PLNT.contains = true := by decide +kernel
  have h1 := List.all_eq_true.mp e c (List.contains_iff_mem.mp hc)
  unfold SI
  rw [con_app, con_app, h1]; rfl
theorem wP_scan {i : Nat} (h : i = 1 ∨ i = 2 ∨ i = 4 ∨ i = 5 ∨ i = 6) {l : T} (hb : ¬ (i = 2 ∧ l.take 1 = [91])) : wP i l = Mi.scan (SI i) 0 l := by
  unfold wP
  rw [if_neg (by omega), if_neg (by omega), if_neg hb, wAm_scan (SI i) (SI_94 h) (SI_hex h) l.length l (Nat.le_refl _) 0 0, if_neg (fun z => Nat.lt_irrefl 0 z.1)]
/-! what is written is parsed as the same parts -/
def SG (i : Nat) : T := if i = 0 then SCHT else if i = 3 then DIGT else if i = 2 then [91, 93, 58] ++ SI 2 else SI i
theorem wP_all {i : Nat} {l : T} (hi : i < 7) (h : wP i l = none) : ∀ c ∈ l, c = 94 ∨ (SG i).contains c = true := by
  by_cases h0 : i = 0
  · subst h0
    exact wSch_all (l := l) h
  by_cases h3 : i = 3
  · subst h3
    exact wPort_all (l := l) h
  have hc : i = 1 ∨ i = 2 ∨ i = 4 ∨ i = 5 ∨ i = 6 := by omega
  by_cases hb : i = 2 ∧ l.take 1 = [91]
  · obtain ⟨rfl, h91⟩ := hb
    have hw : wP 2 l = wBr l := by
      unfold wP
      rw [if_neg (by decide), if_neg (by decide), if_pos ⟨rfl, h91⟩]
    rw [hw] at h
    obtain ⟨b, rfl, hb⟩ := wBr_form h91 h
    have eG : (SG 2) = [91, 93, 58] ++ SI 2 := rfl
    intro c hcm
    rcases List.mem_cons.mp hcm with e | hcm
    · rw [e]; exact .inr (by decide +kernel)
    rcases List.mem_append.mp hcm with hcm | hcm
    · rcases hb c hcm with e | e
      · exact .inl e
      · have e2 : BRKT.all (SG 2).contains = true := by decide +kernel
        exact .inr (List.all_eq_true.mp e2 c (List.contains_iff_mem.mp e))
    · rw [List.mem_singleton.mp hcm]; exact .inr (by decide +kernel)
  · rw [wP_scan hc hb] at h
    have := scan_all (SI i) (SI_hex hc) l.length l 0 (Nat.le_refl _) h
    intro c hcm
    rcases this c hcm with e | e
    · exact .inl e
    · refine .inr ?_
      unfold SG
      rw [if_neg h0, if_neg h3]
      by_cases h2 : i = 2
      · subst h2
        rw [if_pos rfl, con_app, e, Bool.or_true]
      · rw [if_neg h2]; exact e
theorem nC {i c : Nat} {l : T} (h : wP i l = none) (hi : i < 7) (hc : (SG i).contains c = false) (h94 : c ≠ 94) : l.contains c = false := nin (wP_all hi h) hc h94
theorem host_ok {l : T} (h : wP 2 l = none) : HostOk l := by
  by_cases h91 : l.take 1 = [91]
  · have hw : wP 2 l = wBr l := by
      unfold wP
      rw [if_neg (by decide), if_neg (by decide), if_pos ⟨rfl, h91⟩]
    rw [hw] at h
    obtain ⟨b, e, hb⟩ := wBr_form h91 h
    exact .inl ⟨b, e, nin hb (by decide +kernel) (by decide)⟩
  · refine .inr ⟨h91, ?_⟩
    rw [wP_scan (.inr (.inl rfl)) (fun z => h91 z.2)] at h
    exact nin (scan_all (SI 2) (SI_hex (.inr (.inl rfl))) l.length l 0 (Nat.le_refl _) h) (by decide +kernel) (by decide)
theorem wRows_none : ∀ rs : List R3, (∀ r ∈ rs, wP r.1 r.2.2 = none) → wRows rs = none
  | [], _ => rfl
  | r :: rs, h => by
    rw [wRows_cons, h r (List.mem_cons_self ..)]
    exact wRows_none rs fun x hx => h x (List.mem_cons_of_mem _ hx)
theorem vs_rows {sN uN hN pN qN fN : Bool} {s u h p l q f : T} {k0 k1 k2 k3 k4 k5 k6 : Nat} :
    vsOf (((if sN = true then [] else [(0, k0, s)]) ++ ((if uN = true then [] else [(1, k1, u)]) ++ ((if hN = true then [] else [(2, k2, h)]) ++ ((if pN = true then [] else [(3, k3, p)]) ++ [(4, k4, l)])))) ++ ((if qN = true then [] else [(5, k5, q)]) ++ (if fN = true then [] else [(6, k6, f)]))) =
      [if sN = true then .non else vStr s, if uN = true then .non else vStr u, if hN = true then .non else vStr h, if pN = true then .non else vStr p, vStr l, if qN = true then .non else vStr q, if fN = true then .non else vStr f] := by
  cases sN <;> cases uN <;> cases hN <;> cases pN <;> cases qN <;> cases fN <;> rfl
theorem part_of {i : Nat} {v : V} (h : isP i v = true) : (isNo v = false → wP i (oT v) = none) ∧ (if isNo v = true then .non else vStr (oT v)) = v := by
  unfold isP at h
  split at h
  · exact ⟨fun z => Bool.noConfusion z, rfl⟩
  · rename_i t
    refine ⟨fun _ => Option.isNone_iff_eq_none.mp h, ?_⟩
    have e : isNo (.str t) = false := rfl
    rw [e, if_neg Bool.false_ne_true]
    show V.str ⟨(tl t).toArray⟩ = _
    rw [TL.mk_tl]
  · cases h
theorem ytxt_con {sN uN hN pN : Bool} {s u h p l : T} {c : Nat} (h1 : sN = false → s.contains c = false) (h2 : uN = false → u.contains c = false) (h3 : hN = false → h.contains c = false) (h4 : pN = false → p.contains c = false) (h5 : l.contains c = false)
    (n1 : c ≠ 58) (n2 : c ≠ 47) (n3 : c ≠ 64) : (ytxt sN uN hN pN s u h p l).contains c = false := by
  have d1 : ([58] : T).contains c = false := by rw [con_one, decide_eq_false n1]
  have d2 : ([47, 47] : T).contains c = false := by rw [show ([47, 47] : T) = [47] ++ [47] from rfl, con_app, con_one, decide_eq_false n2]; rfl
  have d3 : ([64] : T).contains c = false := by rw [con_one, decide_eq_false n3]
  unfold ytxt atxt
  simp only [con_app, h5, Bool.or_false]
  have a1 : (if sN = true then [] else s ++ [58] : T).contains c = false := by
    cases sN with
    | true => rfl
    | false => rw [if_neg Bool.false_ne_true, con_app, h1 rfl, d1]; rfl
  have a2 : (if uN = true then [] else u ++ [64] : T).contains c = false := by
    cases uN with
    | true => rfl
    | false => rw [if_neg Bool.false_ne_true, con_app, h2 rfl, d3]; rfl
  have a3 : (if hN = true then [] else [47, 47] : T).contains c = false := by
    cases hN with
    | true => rfl
    | false => exact d2
  have a4 : (if hN = true then [] else h : T).contains c = false := by
    cases hN with
    | true => rfl
    | false => exact h3 rfl
  have a5 : (if pN = true then [] else [58] ++ p : T).contains c = false := by
    cases pN with
    | true => rfl
    | false => rw [if_neg Bool.false_ne_true, con_app, h4 rfl, d1]; rfl
  rw [a1, a2, a3, a4, a5]
  rfl
theorem back {s u h p q f : V} {l : Str} (hd : dueV [s, u, h, p, .str l, q, f] = none) :
    wRows (splT (txtV [s, u, h, p, .str l, q, f])) = none ∧ vsOf (splT (txtV [s, u, h, p, .str l, q, f])) = [s, u, h, p, .str l, q, f] := by
  unfold dueV at hd
  cases hf : dueF 0 [s, u, h, p, .str l, q, f] with
  | some n => rw [hf] at hd; cases hd
  | none =>
    rw [hf] at hd
    have hal := dueF_none [s, u, h, p, .str l, q, f] 0 (by show 0 + 7 ≤ 7; decide) hf
    have p0 := part_of (hal 0 s rfl)
    have p1 := part_of (hal 1 u rfl)
    have p2 := part_of (hal 2 h rfl)
    have p3 := part_of (hal 3 p rfl)
    have p4 := part_of (hal 4 (.str l) rfl)
    have p5 := part_of (hal 5 q rfl)
    have p6 := part_of (hal 6 f rfl)
    simp only [Nat.zero_add] at p0 p1 p2 p3 p4 p5 p6
    have w4 := p4.1 rfl
    have hd2 : (if isNo h = true ∧ isNo u = false then some ("user" : Str) else if isNo h = true ∧ isNo p = false then some ("port" : Str) else if poss (isNo s) (isNo h) (tl l) = false then some ("path" : Str) else none) = none := hd
    have n1 : ¬ (isNo h = true ∧ isNo u = false) := fun z => by rw [if_pos z] at hd2; cases hd2
    rw [if_neg n1] at hd2
    have n2 : ¬ (isNo h = true ∧ isNo p = false) := fun z => by rw [if_pos z] at hd2; cases hd2
    rw [if_neg n2] at hd2
    have n3 : poss (isNo s) (isNo h) (tl l) = true := by
      cases z : poss (isNo s) (isNo h) (tl l) with
      | true => rfl
      | false => rw [z, if_pos rfl] at hd2; cases hd2
    have A : AuthOk (isNo u) (isNo h) (isNo p) (oT u) (oT h) (oT p) :=
      ⟨fun hh => ⟨by cases z : isNo u with
          | true => rfl
          | false => exact absurd ⟨hh, z⟩ n1, by cases z : isNo p with
          | true => rfl
          | false => exact absurd ⟨hh, z⟩ n2⟩,
        fun z => ⟨nC (p1.1 z) (by decide) (by decide +kernel) (by decide), nC (p1.1 z) (by decide) (by decide +kernel) (by decide)⟩,
        fun z => ⟨nC (p2.1 z) (by decide) (by decide +kernel) (by decide), nC (p2.1 z) (by decide) (by decide +kernel) (by decide), host_ok (p2.1 z)⟩,
        fun z => ⟨nC (p3.1 z) (by decide) (by decide +kernel) (by decide), nC (p3.1 z) (by decide) (by decide +kernel) (by decide)⟩⟩
    have hl : PathOk (isNo s) (isNo h) (tl l) := by
      unfold poss at n3
      refine ⟨fun z => ?_, fun z => ?_, fun z z2 => ?_⟩
      · rw [if_pos z, Bool.or_eq_true] at n3
        rcases n3 with n3 | n3
        · exact .inl (List.isEmpty_iff.mp n3)
        · exact .inr (of_decide_eq_true n3)
      · rw [if_neg (by rw [z]; decide)] at n3
        intro e
        rw [if_pos e] at n3
        cases n3
      · rw [if_neg (by rw [z]; decide)] at n3
        split at n3
        · cases n3
        · rw [z2] at n3
          simpa using n3
    have no : ∀ c, (∀ i, i < 5 → (SG i).contains c = false) → c ≠ 58 → c ≠ 47 → c ≠ 64 → c ≠ 94 → (ytxt (isNo s) (isNo u) (isNo h) (isNo p) (oT s) (oT u) (oT h) (oT p) (tl l)).contains c = false := fun c hc a1 a2 a3 a4 =>
      ytxt_con (fun z => nC (p0.1 z) (by decide) (hc 0 (by decide)) a4) (fun z => nC (p1.1 z) (by decide) (hc 1 (by decide)) a4) (fun z => nC (p2.1 z) (by decide) (hc 2 (by decide)) a4) (fun z => nC (p3.1 z) (by decide) (hc 3 (by decide)) a4)
        (nC (l := tl l) w4 (by decide) (hc 4 (by decide)) a4) a1 a2 a3
    have sg63 : ∀ i, i < 5 → (SG i).contains 63 = false := by decide +kernel
    have sg35 : ∀ i, i < 5 → (SG i).contains 35 = false := by decide +kernel
    obtain ⟨k1, k2, k3, k4, k5, k6, e⟩ := splT_txt (qN := isNo q) (fN := isNo f) (q := oT q) (f := oT f) (fun z => ⟨nC (p0.1 z) (by decide) (by decide +kernel) (by decide), nC (p0.1 z) (by decide) (by decide +kernel) (by decide)⟩) A hl
      (no 63 sg63 (by decide) (by decide) (by decide) (by decide)) (no 35 sg35 (by decide) (by decide) (by decide) (by decide)) (fun z => nC (p5.1 z) (by decide) (by decide +kernel) (by decide))
    have et : txtV [s, u, h, p, .str l, q, f] = ytxt (isNo s) (isNo u) (isNo h) (isNo p) (oT s) (oT u) (oT h) (oT p) (tl l) ++ ((if isNo q = true then [] else [63] ++ oT q) ++ (if isNo f = true then [] else [35] ++ oT f)) := by
      unfold ytxt atxt
      simp only [List.append_assoc]
      rfl
    rw [et, e]
    refine ⟨wRows_none _ fun r hr => ?_, ?_⟩
    · simp only [List.mem_append] at hr
      have one : ∀ (b : Bool) (x : R3), r ∈ (if b = true then [] else [x]) → b = false ∧ r = x := fun b x hx => by
        cases b with
        | true => cases hx
        | false => exact ⟨rfl, List.mem_singleton.mp hx⟩
      rcases hr with (hr | hr | hr | hr | hr) | hr | hr
      · obtain ⟨z, rfl⟩ := one _ _ hr; exact p0.1 z
      · obtain ⟨z, rfl⟩ := one _ _ hr; exact p1.1 z
      · obtain ⟨z, rfl⟩ := one _ _ hr; exact p2.1 z
      · obtain ⟨z, rfl⟩ := one _ _ hr; exact p3.1 z
      · rw [List.mem_singleton.mp hr]; exact w4
      · obtain ⟨z, rfl⟩ := one _ _ hr; exact p5.1 z
      · obtain ⟨z, rfl⟩ := one _ _ hr; exact p6.1 z
    · rw [vs_rows, p0.2, p1.2, p2.2, p3.2, p5.2, p6.2]
      have : vStr (tl l) = .str l := p4.2
      rw [this]
end Da
set_option Elab.async false
set_option linter.all false
set_option maxRecDepth 100000
set_option maxHeartbeats 4000000
namespace Da
open PySem PySem.Spec PyProof.Rows L2 Hd Xs Fx Mi ClX Xr
open TL (tl)
theorem hIx_eqL {K : PySem.W.Frag} {H : Hp} {p : Addr} {i : Int} {xs : List V} {v : V} {Q : VK} (h : H p = some (.lst xs)) (e : atI xs i = some v) : hIx K (.ref p) (.int i) H Q = Q v H := by
  show (match seqAt H p i with
    | some v => Q v H
    | none => cIx K (.ref p) (.int i) H Q) = _
  rw [seqAt_lst h, e]
theorem cut_head : ∀ m : T, (cut 47 m).head? = some (bef 47 m)
  | [] => rfl
  | d :: r => by
    have ih := cut_head r
    by_cases hd : d = 47
    · subst hd
      rw [cut_hit, bef_hit]; rfl
    · rw [cut_miss hd, bef_miss hd]
      cases e : cut 47 r with
      | nil => exact absurd e (cut_ne 47 r)
      | cons p ps =>
        rw [e] at ih
        have := Option.some.inj ih
        show some (d :: p) = _
        rw [this]
theorem PV.good {v : V} (h : PV v) : Good v := by
  rcases h with rfl | ⟨t, rfl, h, _⟩
  · exact .inl rfl
  · exact .inr ⟨t, rfl, by omega⟩
theorem PV.len {v : V} (h : PV v) : (oT v).length ≤ 3000 := by
  rcases h with rfl | ⟨t, rfl, h, _⟩
  · exact Nat.zero_le _
  · rw [TL.len_tl] at h; exact h
def toD : V → PyData
  | .str t => .str t
  | _ => .none
theorem PV.dp {K : PySem.W.Frag} {H : Hp} {v : V} (h : PV v) : Dp K H v (toD v) := by
  rcases h with rfl | ⟨t, rfl, h, _⟩
  · exact .non
  · exact .str t
theorem dpAllP {K : PySem.W.Frag} {H : Hp} : ∀ {vs : List V}, (∀ v ∈ vs, PV v) → DpAll K H vs (vs.map toD)
  | [], _ => .nil
  | v :: vs, h => .cons (h v (List.mem_cons_self ..)).dp (dpAllP fun x hx => h x (List.mem_cons_of_mem _ hx))
theorem canP : ∀ {vs : List V}, (∀ v ∈ vs, PV v) → PyData.canLayAll0 (vs.map toD) = true ∧ PyData.depthAll (vs.map toD) ≤ 1
  | [], _ => ⟨rfl, by simp [PyData.depthAll]⟩
  | v :: vs, h => by
    obtain ⟨h1, h2⟩ := canP (vs := vs) fun x hx => h x (List.mem_cons_of_mem _ hx)
    have hv := h v (List.mem_cons_self ..)
    have e1 : PyData.canLay0 (toD v) = true := by
      rcases hv with rfl | ⟨t, rfl, _, hs⟩
      · simp only [toD, PyData.canLay0]
      · simp only [toD, PyData.canLay0]; exact hs.ok
    have e2 : PyData.depth (toD v) ≤ 1 := by
      rcases hv with rfl | ⟨t, rfl, _, hs⟩ <;> simp only [toD, PyData.depth] <;> omega
    refine ⟨?_, ?_⟩
    · rw [List.map_cons]
      show (PyData.canLay0 (toD v) && PyData.canLayAll0 (vs.map toD)) = true
      rw [e1, h1]; rfl
    · simp only [List.map_cons, PyData.depthAll]
      omega
theorem shP {vs : List V} (h : ∀ v ∈ vs, PV v) : SeqAt.shaped (.list (vs.map toD)) = true := by
  obtain ⟨h1, h2⟩ := canP h
  unfold SeqAt.shaped
  rw [Bool.and_eq_true]
  refine ⟨by simp only [PyData.canLay0]; exact h1, decide_eq_true ?_⟩
  simp only [PyData.depth]
  omega
/-- two lists of the same parts are equal -/
theorem cEq_same {K : PySem.W.Frag} {H : Hp} {p q : Addr} {vs : List V} {Q : VK} {neg : Bool} (hp : H p = some (.lst vs)) (hq : H q = some (.lst vs)) (h : ∀ v ∈ vs, PV v) (k : Q (.bl (!neg)) H) : cEq K neg (.ref p) (.ref q) H Q := by
  refine ⟨_, _, .lst (.inl (Rd.of hp)) (dpAllP h), .lst (.inl (Rd.of hq)) (dpAllP h), shP h, shP h, ?_⟩
  have e : PyData.eqv (.list (vs.map toD)) (.list (vs.map toD)) = true := SeqAt.eqv_refl _ (by
    have := shP h
    unfold SeqAt.shaped at this
    rw [Bool.and_eq_true] at this
    exact this.1)
  rw [e]
  cases neg <;> exact k
theorem ite_le {b : Bool} {x : T} {n : Nat} (h : x.length ≤ n) : (if b = true then [] else x : T).length ≤ n := by
  cases b with
  | true => exact Nat.zero_le _
  | false => exact h
theorem txt_len {s u h p l q f : V} (h0 : PV s) (h1 : PV u) (h2 : PV h) (h3 : PV p) (h4 : PV l) (h5 : PV q) (h6 : PV f) : (txtV [s, u, h, p, l, q, f]).length ≤ 30000 := by
  have a0 := h0.len
  have a1 := h1.len
  have a2 := h2.len
  have a3 := h3.len
  have a4 := h4.len
  have a5 := h5.len
  have a6 := h6.len
  have b0 : (if isNo s = true then [] else oT s ++ [58] : T).length ≤ 3001 := ite_le (by simp only [List.length_append, List.length_cons, List.length_nil]; omega)
  have b1 : (if isNo h = true then [] else [47, 47] : T).length ≤ 2 := ite_le (by decide)
  have b2 : (if isNo u = true then [] else oT u ++ [64] : T).length ≤ 3001 := ite_le (by simp only [List.length_append, List.length_cons, List.length_nil]; omega)
  have b3 : (if isNo h = true then [] else oT h : T).length ≤ 3000 := ite_le a2
  have b4 : (if isNo p = true then [] else [58] ++ oT p : T).length ≤ 3001 := ite_le (by simp only [List.length_append, List.length_cons, List.length_nil]; omega)
  have b5 : (if isNo q = true then [] else [63] ++ oT q : T).length ≤ 3001 := ite_le (by simp only [List.length_append, List.length_cons, List.length_nil]; omega)
  have b6 : (if isNo f = true then [] else [35] ++ oT f : T).length ≤ 3001 := ite_le (by simp only [List.length_append, List.length_cons, List.length_nil]; omega)
  show ((if isNo s = true then [] else oT s ++ [58]) ++ _ : T).length ≤ _
  simp only [List.length_append] at b0 b1 b2 b3 b4 b5 b6 ⊢
  omega
theorem PV.av {H : Hp} {v : V} (h : PV v) : AV H v := by
  rcases h with rfl | ⟨t, rfl, h, _⟩
  · trivial
  · show t.length ≤ 100000
    omega
theorem hixK {X : Cx} (K : PySem.W.Frag) {a b : Expr} {ta tb : TE} {pos : Pos} (ha : PE X a ta) (hb : PE X b tb) (hK : X.K = K := by rfl) (hp : PlainIx b := by exact fun _ _ => rfl) : PE X (.Subscript a b pos) (tOp (hIx K) ta tb) := by
  subst hK
  exact hix ha hb hp
theorem ho_eqK {X : Cx} (K : PySem.W.Frag) (hu : X.A.units + 64 < cLine) (hK : X.K = K := by rfl) : OpR X (compareOp .Eq) (hEq K) := by
  subst hK
  exact ho_eq hu
def cMax2 : List V → Hp → VK → Prop := fun xs H Q => match xs with
  | [.int i, .int j] => Q (.int (if j > i then j else i)) H
  | _ => False
theorem cc_max2 {X : Cx} (hc : X.calm = true) : CallR X (.builtin "max") cMax2 := by
  intro pins s σ H xs us Q I rs h
  refine call_max2 hc pins s σ H xs us Q I rs ?_
  match xs, h with
  | [.int i, .int j], h => exact ⟨i, j, rfl, h⟩
def spShown (K : PySem.W.Frag) : Sp := fun vs H Q _ => match vs with
  | [.ref a] => ∃ v0 v1 v2 v3 v4 v5 v6, UrlAt K H a [v0, v1, v2, v3, v4, v5, v6] ∧ ∀ p, H p = none → Q (.ref p) (upd H p (.lst [v0, v1, v2, v3, v4, v5, v6]))
  | _ => False
theorem _root_.L2.Ext.kp {b : Addr} {H H1 H2 : Hp} (e : Ext H H1) (hb : H b = none) (k : Kp b H1 H2) : Ext H H2 := fun p o h => k p o (fun z => by subst z; rw [hb] at h; cases h) (e p o h)
theorem Bg.ext {H H' : Hp} {b : Addr} (h : Bg H b) (e : Ext H H') : Bg H' b := by
  obtain ⟨x, y, h, r⟩ := h
  exact ⟨x, y, e _ _ h, r⟩
theorem cutV_mem {xs : List V} {lo hi : Option Int} {v : V} (h : v ∈ cutV xs lo hi) : v ∈ xs := List.mem_of_mem_drop (List.mem_of_mem_take h)
theorem cutV_hi {xs : List V} {d : Nat} (h : d ≤ xs.length) : (cutV xs none (some (d : Int))).length = d := by
  show ((xs.drop (HT.sIx xs.length 0 none)).take _).length = d
  rw [HT.sIx_nat, HT.sIx_none, List.drop_zero, Nat.sub_zero, List.length_take]
  omega
theorem cutV_lo {xs : List V} {d : Nat} (h : d ≤ xs.length) : (cutV xs (some (d : Int)) none).length = xs.length - d := by
  show ((xs.drop (HT.sIx xs.length 0 (some (d : Int)))).take _).length = _
  rw [HT.sIx_nat, HT.sIx_none, List.length_take, List.length_drop]
  omega
theorem cat_at {H : Hp} {p r : Addr} {xs ys : List V} {Q : VK} (hp : H p = some (.lst xs)) (hq : H r = some (.lst ys)) (hl : xs.length + ys.length ≤ sizeLine) (k : ∀ t, H t = none → Q (.ref t) (upd H t (.lst (xs ++ ys)))) : rCat (.ref p) (.ref r) H Q := ⟨_, _, _, _, rfl, rfl, hp, hq, hl, k⟩
theorem of_str {K : PySem.W.Frag} {v0 v1 v2 v3 v5 v6 : V} {l : Str} {H : Hp} {Q2 : VK} {E : XK} (hA : ∀ v ∈ [v0, v1, v2, v3, .str l, v5, v6], PV v) (hd : dueV [v0, v1, v2, v3, .str l, v5, v6] = none) (k : ∀ z H', Ext H H' → tl z = txtV [v0, v1, v2, v3, .str l, v5, v6] → Q2 (.str z) H') :
    spOf K [.ref (uC K), v0, v1, v2, v3, .str l, v5, v6] H (fun x H1 => SpIns (uC K) (spStr K) isStrV [x] H1 Q2) E := by
  refine ⟨rfl, fun v hv => (hA v hv).av, ?_⟩
  rw [hd]
  intro u H1 he hu hu0
  obtain ⟨dx, Ta, hu1, hT⟩ := id hu
  have hl : l.length ≤ (100000 : Nat) := by
    have := (hA (.str l) (.tail _ (.tail _ (.tail _ (.tail _ (.head _)))))).len
    rw [TL.len_tl]
    have e : oT (.str l) = tl l := rfl
    rw [e] at this
    omega
  exact ⟨u, dx, _, rfl, hu1, v0, v1, v2, v3, l, v5, v6, hu, (hA v0 (.head _)).good, (hA v1 (.tail _ (.head _))).good, (hA v2 (.tail _ (.tail _ (.head _)))).good, (hA v3 (.tail _ (.tail _ (.tail _ (.head _))))).good, hl,
    (hA v5 (.tail _ (.tail _ (.tail _ (.tail _ (.tail _ (.head _))))))).good, (hA v6 (.tail _ (.tail _ (.tail _ (.tail _ (.tail _ (.tail _ (.head _)))))))).good, fun z H2 he2 hz => ⟨⟨z, rfl⟩, k z H2 (he.tr he2) hz⟩⟩
section
variable {P : Program} {w : World} {K : PySem.W.Frag} {mg : Str → Option Value} {base : Heap}
theorem ok__law_shown (c : Ct w K mg) : OkF P w K mg base CX0 3 (He.ga K "_law_shown") ["link"] (spShown K) := by
  obtain ⟨fd, F⟩ := F__law_shown c
  refine ⟨fd, F.ok sc__law_shown (fun vs H Q E h => ?_) (fun cdv A outer s H vs Q E hr h => ⟨_, PSs.nox ((pss_one (ps_ret (pe_lst (pa_cons (pe_prop (cv 0) (cls_Url c) (prop_Url_scheme c) (ok_Url_scheme c).choose_spec.1 (hr.mono (by decide)) (ok_Url_scheme c).choose_spec.2 .nil pass0 (by rfl)) (pa_cons (pe_prop (cv 0) (cls_Url c) (prop_Url_user c) (ok_Url_user c).choose_spec.1 (hr.mono (by decide)) (ok_Url_user c).choose_spec.2 .nil pass0 (by rfl)) (pa_cons (pe_prop (cv 0) (cls_Url c) (prop_Url_host c) (ok_Url_host c).choose_spec.1 (hr.mono (by decide)) (ok_Url_host c).choose_spec.2 .nil pass0 (by rfl)) (pa_cons (pe_prop (cv 0) (cls_Url c) (prop_Url_port c) (ok_Url_port c).choose_spec.1 (hr.mono (by decide)) (ok_Url_port c).choose_spec.2 .nil pass0 (by rfl)) (pa_cons (pe_prop (cv 0) (cls_Url c) (prop_Url_path c) (ok_Url_path c).choose_spec.1 (hr.mono (by decide)) (ok_Url_path c).choose_spec.2 .nil pass0 (by rfl)) (pa_cons (pe_prop (cv 0) (cls_Url c) (prop_Url_query c) (ok_Url_query c).choose_spec.1 (hr.mono (by decide)) (ok_Url_query c).choose_spec.2 .nil pass0 (by rfl)) (pa_cons (pe_prop (cv 0) (cls_Url c) (prop_Url_fragment c) (ok_Url_fragment c).choose_spec.1 (hr.mono (by decide)) (ok_Url_fragment c).choose_spec.2 .nil pass0 (by rfl)) pa_nil))))))))))), ?_⟩), F.bindsN fun _ _ _ _ _ _ us hl => match us, hl with | [_], _ => rfl⟩
  · unfold spShown at h
    split at h
    · rfl
    · exact h.elim
  · unfold spShown at h
    split at h
    case h_2 => exact h.elim
    rename_i a
    obtain ⟨v0, v1, v2, v3, v4, v5, v6, hu, q⟩ := h
    have sl := sl
    (try simp only [tSeq, tNext, tIfS, tFor_eq, cBl, tOp, tC, cI, cIc, cAdd, cVar, hEq, hNe, hIn, hNotIn, hLen, hSl, tM1, tBM, cT1, cT1f, cFind3, cSplit, cPart, rNewStrs, hIsS, hTru, tAsg, gName, gSub, tRet, tRetN, tCons, tNil, tTup, tLst, tCB, tNot, tAnd, tNotV, tAndV, tOrV, tOr, V.bl.injEq, V.int.injEq, V.str.injEq, exists_eq_left', exists_eq_left, exists_eq', true_and, and_true, cIsN, L2.start, gTup, gCons, gNil, nox_K, cx_K, tCallF, tSl, tPart, tNoPart, iEnum, RZ.iZipA, iRng1, iRng2, cAbs, List.map_cons, List.map_nil, List.length_cons, List.length_nil, List.replicate, List.cons_append, List.nil_append, List.getElem?_cons_zero, List.getElem?_cons_succ, List.getElem?_nil, List.set_cons_zero, List.set_cons_succ, Nat.reduceAdd, Nat.reduceSub, Nat.zero_add, if_true, if_false, reduceIte, reduceCtorEq, Bool.false_eq_true, decide_eq_true_eq, tDrop, cMin2, cJoin, iList, tDNewK, tLc_eq, iStr, wipe])
    refine prop_ok rfl hu rfl rfl (prop_ok rfl hu rfl rfl (prop_ok rfl hu rfl rfl (prop_ok rfl hu rfl rfl (prop_ok rfl hu rfl rfl (prop_ok rfl hu rfl rfl (prop_ok rfl hu rfl rfl ?_))))))
    exact ⟨by omega, q⟩
end
end Da
set_option Elab.async false
set_option linter.all false
set_option maxRecDepth 100000
set_option maxHeartbeats 4000000
namespace Da
open PySem PySem.Spec PyProof.Rows L2 Hd Xs Fx Mi ClX Xr
open TL (tl)
/-! drawn parts that are possible -/
def spWord : Sp := fun vs H Q _ => match vs with
  | [.ref a, .str z, .int m] => Bg H a ∧ 1 ≤ z.length ∧ z.length ≤ 1000 ∧ Sg z ∧ (tl z).contains 94 = false ∧ 0 ≤ m ∧ m ≤ 60 ∧ ∀ t : Str, ∀ H', t.length ≤ 200 → Sg t → Va (tl z) (tl t) → Bg H' a → Kp a H H' → Q (.str t) H'
  | _ => False
section
variable {P : Program} {w : World} {K : PySem.W.Frag} {mg : Str → Option Value} {base : Heap}
theorem ok__law_word (c : Ct w K mg) : OkF P w K mg base CX0 2 (He.ga K "_law_word") ["bag", "signs", "most"] (spWord) := by
  obtain ⟨fd, F⟩ := F__law_word c
  refine ⟨fd, F.ok sc__law_word (fun vs H Q E h => ?_) (fun cdv A outer s H vs Q E hr h => ⟨_, PSs.nox ((pss_cons (ps_set (i := 3) (sc__law_word).nd rfl (Or.inl rfl) pe_str) (pss_cons (ps_for PassesOwn.never rfl (pi_range1 rfl (b_range c) (pa_cons (pf (ok__law_take c) (hr.mono (by decide)) (g__law_take c) (k__law_take c) pass0 (pa_cons (cv 0) (pa_cons (pe_op co_add (cv 2) pe_int) pa_nil))) pa_nil)) (pg_name (i := 4) (sc__law_word).nd rfl (Or.inl rfl)) (pss_one (ps_if (ctc (ho_eq (hu64 hr)) (pf (ok__law_take c) (hr.mono (by decide)) (g__law_take c) (k__law_take c) pass0 (pa_cons (cv 0) (pa_cons pe_int pa_nil))) pe_int (by rfl)) (pss_cons (ps_set (i := 5) (sc__law_word).nd rfl (Or.inl rfl) pe_str) (pss_cons (ps_set (i := 6) (sc__law_word).nd rfl (Or.inl rfl) (pe_op co_add (hix (cv 5) (pf (ok__law_take c) (hr.mono (by decide)) (g__law_take c) (k__law_take c) pass0 (pa_cons (cv 0) (pa_cons pe_int pa_nil)))) (hix (cv 5) (pf (ok__law_take c) (hr.mono (by decide)) (g__law_take c) (k__law_take c) pass0 (pa_cons (cv 0) (pa_cons pe_int pa_nil)))))) (pss_one (ps_set (i := 3) (sc__law_word).nd rfl (Or.inl rfl) (pe_op co_add (pe_op co_add (cv 3) pe_str) (hix (pe_lst (pa_cons pe_str (pa_cons (cv 6) (pa_cons (cv 6) pa_nil)))) (pf (ok__law_take c) (hr.mono (by decide)) (g__law_take c) (k__law_take c) pass0 (pa_cons (cv 0) (pa_cons pe_int pa_nil))))))))) (pss_one (ps_set (i := 3) (sc__law_word).nd rfl (Or.inl rfl) (pe_op co_add (cv 3) (hix (cv 1) (pf (ok__law_take c) (hr.mono (by decide)) (g__law_take c) (k__law_take c) pass0 (pa_cons (cv 0) (pa_cons (pe_callB hc_len (by rfl) (b_len c) (by decide +kernel) (pa_cons (cv 1) pa_nil)) pa_nil)))))))))) (pss_one (ps_ret (cv 3)))))), ?_⟩), F.bindsN fun _ _ _ _ _ _ us hl => match us, hl with | [_, _, _], _ => rfl⟩
  · unfold spWord at h
    split at h
    · rfl
    · exact h.elim
  · unfold spWord at h
    split at h
    case h_2 => exact h.elim
    rename_i a z m
    obtain ⟨hb, z0, z1, zs, z94, m0, m1, q⟩ := h
    (try simp only [tSeq, tNext, tIfS, tFor_eq, cBl, tOp, tC, cI, cIc, cAdd, cVar, hEq, hNe, hIn, hNotIn, hLen, hSl, tM1, tBM, cT1, cT1f, cFind3, cSplit, cPart, rNewStrs, hIsS, hTru, tAsg, gName, gSub, tRet, tRetN, tCons, tNil, tTup, tLst, tCB, tNot, tAnd, tNotV, tAndV, tOrV, tOr, V.bl.injEq, V.int.injEq, V.str.injEq, exists_eq_left', exists_eq_left, exists_eq', true_and, and_true, cIsN, L2.start, gTup, gCons, gNil, nox_K, cx_K, tCallF, tSl, tPart, tNoPart, iEnum, RZ.iZipA, iRng1, iRng2, cAbs, List.map_cons, List.map_nil, List.length_cons, List.length_nil, List.replicate, List.cons_append, List.nil_append, List.getElem?_cons_zero, List.getElem?_cons_succ, List.getElem?_nil, List.set_cons_zero, List.set_cons_succ, Nat.reduceAdd, Nat.reduceSub, Nat.zero_add, if_true, if_false, reduceIte, reduceCtorEq, Bool.false_eq_true, decide_eq_true_eq, tDrop, cMin2, cJoin, iList, tDNewK, tLc_eq, iStr, wipe])
    refine take_ok hb (by omega) (by omega) fun d H1 d0 d1 hb hk => ⟨d, rfl, by omega, by omega, ?_⟩
    refine lp_range (fun k σ H' => ∃ t u4 u5 u6, σ = [some (.ref a), some (.str z), some (.int m), some (.str t), u4, u5, u6] ∧ t.length ≤ 3 * k ∧ Sg t ∧ Va (tl z) (tl t) ∧ Bg H' a ∧ Kp a H H') ⟨Str.empty, _, _, _, rfl, by decide, Sg.lit (s := "") (by rfl), Va.nil, hb, hk⟩ ?_ ?_
    · rintro k σ H2 kd ⟨t, u4, u5, u6, rfl, ht, hs, hv, hb, hk⟩
      (try simp only [tSeq, tNext, tIfS, tFor_eq, cBl, tOp, tC, cI, cIc, cAdd, cVar, hEq, hNe, hIn, hNotIn, hLen, hSl, tM1, tBM, cT1, cT1f, cFind3, cSplit, cPart, rNewStrs, hIsS, hTru, tAsg, gName, gSub, tRet, tRetN, tCons, tNil, tTup, tLst, tCB, tNot, tAnd, tNotV, tAndV, tOrV, tOr, V.bl.injEq, V.int.injEq, V.str.injEq, exists_eq_left', exists_eq_left, exists_eq', true_and, and_true, cIsN, L2.start, gTup, gCons, gNil, nox_K, cx_K, tCallF, tSl, tPart, tNoPart, iEnum, RZ.iZipA, iRng1, iRng2, cAbs, List.map_cons, List.map_nil, List.length_cons, List.length_nil, List.replicate, List.cons_append, List.nil_append, List.getElem?_cons_zero, List.getElem?_cons_succ, List.getElem?_nil, List.set_cons_zero, List.set_cons_succ, Nat.reduceAdd, Nat.reduceSub, Nat.zero_add, if_true, if_false, reduceIte, reduceCtorEq, Bool.false_eq_true, decide_eq_true_eq, tDrop, cMin2, cJoin, iList, tDNewK, tLc_eq, iStr, wipe])
      refine take_ok hb (by decide) (by decide) fun d H3 d0 d1 hb hk1 => ?_
      have hk := hk.trans hk1
      (try simp only [tSeq, tNext, tIfS, tFor_eq, cBl, tOp, tC, cI, cIc, cAdd, cVar, hEq, hNe, hIn, hNotIn, hLen, hSl, tM1, tBM, cT1, cT1f, cFind3, cSplit, cPart, rNewStrs, hIsS, hTru, tAsg, gName, gSub, tRet, tRetN, tCons, tNil, tTup, tLst, tCB, tNot, tAnd, tNotV, tAndV, tOrV, tOr, V.bl.injEq, V.int.injEq, V.str.injEq, exists_eq_left', exists_eq_left, exists_eq', true_and, and_true, cIsN, L2.start, gTup, gCons, gNil, nox_K, cx_K, tCallF, tSl, tPart, tNoPart, iEnum, RZ.iZipA, iRng1, iRng2, cAbs, List.map_cons, List.map_nil, List.length_cons, List.length_nil, List.replicate, List.cons_append, List.nil_append, List.getElem?_cons_zero, List.getElem?_cons_succ, List.getElem?_nil, List.set_cons_zero, List.set_cons_succ, Nat.reduceAdd, Nat.reduceSub, Nat.zero_add, if_true, if_false, reduceIte, reduceCtorEq, Bool.false_eq_true, decide_eq_true_eq, tDrop, cMin2, cJoin, iList, tDNewK, tLc_eq, iStr, wipe])
      split
      · refine take_ok hb (by decide) (by decide) fun d H4 d0 d1 hb hk2 => ?_
        have hk := hk.trans hk2
        refine hIx_chr (by decide) d0 d1 fun c1 hc1 => ?_
        (try simp only [tSeq, tNext, tIfS, tFor_eq, cBl, tOp, tC, cI, cIc, cAdd, cVar, hEq, hNe, hIn, hNotIn, hLen, hSl, tM1, tBM, cT1, cT1f, cFind3, cSplit, cPart, rNewStrs, hIsS, hTru, tAsg, gName, gSub, tRet, tRetN, tCons, tNil, tTup, tLst, tCB, tNot, tAnd, tNotV, tAndV, tOrV, tOr, V.bl.injEq, V.int.injEq, V.str.injEq, exists_eq_left', exists_eq_left, exists_eq', true_and, and_true, cIsN, L2.start, gTup, gCons, gNil, nox_K, cx_K, tCallF, tSl, tPart, tNoPart, iEnum, RZ.iZipA, iRng1, iRng2, cAbs, List.map_cons, List.map_nil, List.length_cons, List.length_nil, List.replicate, List.cons_append, List.nil_append, List.getElem?_cons_zero, List.getElem?_cons_succ, List.getElem?_nil, List.set_cons_zero, List.set_cons_succ, Nat.reduceAdd, Nat.reduceSub, Nat.zero_add, if_true, if_false, reduceIte, reduceCtorEq, Bool.false_eq_true, decide_eq_true_eq, tDrop, cMin2, cJoin, iList, tDNewK, tLc_eq, iStr, wipe])
        refine take_ok hb (by decide) (by decide) fun d H5 d0 d1 hb hk3 => ?_
        have hk := hk.trans hk3
        refine hIx_chr (by decide) d0 d1 fun c2 hc2 => ?_
        (try simp only [tSeq, tNext, tIfS, tFor_eq, cBl, tOp, tC, cI, cIc, cAdd, cVar, hEq, hNe, hIn, hNotIn, hLen, hSl, tM1, tBM, cT1, cT1f, cFind3, cSplit, cPart, rNewStrs, hIsS, hTru, tAsg, gName, gSub, tRet, tRetN, tCons, tNil, tTup, tLst, tCB, tNot, tAnd, tNotV, tAndV, tOrV, tOr, V.bl.injEq, V.int.injEq, V.str.injEq, exists_eq_left', exists_eq_left, exists_eq', true_and, and_true, cIsN, L2.start, gTup, gCons, gNil, nox_K, cx_K, tCallF, tSl, tPart, tNoPart, iEnum, RZ.iZipA, iRng1, iRng2, cAbs, List.map_cons, List.map_nil, List.length_cons, List.length_nil, List.replicate, List.cons_append, List.nil_append, List.getElem?_cons_zero, List.getElem?_cons_succ, List.getElem?_nil, List.set_cons_zero, List.set_cons_succ, Nat.reduceAdd, Nat.reduceSub, Nat.zero_add, if_true, if_false, reduceIte, reduceCtorEq, Bool.false_eq_true, decide_eq_true_eq, tDrop, cMin2, cJoin, iList, tDNewK, tLc_eq, iStr, wipe])
        have := sl
        refine ⟨by simp only [l1]; omega, by have : (Str.ofString "^").length = 1 := rfl; omega, by omega, fun p hp => ?_⟩
        refine take_ok (hb.fresh hp) (by decide) (by decide) fun d H6 d0 d1 hb4 hk4 => ?_
        refine hIx_all (hk4 _ _ (hb.ne hp) upd_self) d0 d1 ?_
        have hk := (hk.fresh hp).trans hk4
        have e1 : (Str.ofString "^").length = 1 := rfl
        have e2 : (Str.ofString "2e").length = 2 := rfl
        have s1 : Sg (Str.ofString "^") := Sg.lit (by rfl)
        have s2 : Sg (Str.ofString "2e") := Sg.lit (by rfl)
        have sd : Sg (Str.ofString "0123456789abcdefABCDEF") := Sg.lit (by rfl)
        have sp := (Sg.one (sd c1 hc1)).app (Sg.one (sd c2 hc2))
        have hxd : (tl (Str.ofString "0123456789abcdefABCDEF")).all HEXT.contains = true := by decide +kernel
        have x1 := List.all_eq_true.mp hxd c1 hc1
        have x2 := List.all_eq_true.mp hxd c2 hc2
        have et : tl (Str.ofString "^") = [94] := by decide +kernel
        have e2e : tl (Str.ofString "2e") = [50, 101] := by decide +kernel
        have v1 : Va (tl z) (tl (t ++ Str.ofString "^" ++ Str.ofString "2e")) := by
          rw [TL.tl_append, TL.tl_append, et, e2e, List.append_assoc]
          exact hv.app (Va.esc (a := 50) (b := 101) (by decide +kernel) (by decide +kernel))
        have v2 : Va (tl z) (tl (t ++ Str.ofString "^" ++ ((⟨#[c1]⟩ : Str) ++ ⟨#[c2]⟩))) := by
          rw [TL.tl_append, TL.tl_append, TL.tl_append, et, List.append_assoc]
          exact hv.app (Va.esc x1 x2)
        simp only [List.mem_cons, List.not_mem_nil, or_false, forall_eq_or_imp, forall_eq]
        refine ⟨⟨by rw [la]; omega, _, _, _, _, rfl, by rw [la, la]; omega, (hs.app s1).app s2, v1, hb4, hk⟩, ⟨by rw [la, la]; simp only [l1]; omega, _, _, _, _, rfl, by rw [la, la, la]; simp only [l1]; omega, (hs.app s1).app sp, v2, hb4, hk⟩, ⟨by rw [la, la]; simp only [l1]; omega, _, _, _, _, rfl, by rw [la, la, la]; simp only [l1]; omega, (hs.app s1).app sp, v2, hb4, hk⟩⟩
      · have := sl
        refine ⟨by omega, take_ok hb (by omega) (by omega) fun d H4 d0 d1 hb hk2 => ?_⟩
        refine hIx_chr (by omega) d0 d1 fun c1 hc1 => ?_
        (try simp only [tSeq, tNext, tIfS, tFor_eq, cBl, tOp, tC, cI, cIc, cAdd, cVar, hEq, hNe, hIn, hNotIn, hLen, hSl, tM1, tBM, cT1, cT1f, cFind3, cSplit, cPart, rNewStrs, hIsS, hTru, tAsg, gName, gSub, tRet, tRetN, tCons, tNil, tTup, tLst, tCB, tNot, tAnd, tNotV, tAndV, tOrV, tOr, V.bl.injEq, V.int.injEq, V.str.injEq, exists_eq_left', exists_eq_left, exists_eq', true_and, and_true, cIsN, L2.start, gTup, gCons, gNil, nox_K, cx_K, tCallF, tSl, tPart, tNoPart, iEnum, RZ.iZipA, iRng1, iRng2, cAbs, List.map_cons, List.map_nil, List.length_cons, List.length_nil, List.replicate, List.cons_append, List.nil_append, List.getElem?_cons_zero, List.getElem?_cons_succ, List.getElem?_nil, List.set_cons_zero, List.set_cons_succ, Nat.reduceAdd, Nat.reduceSub, Nat.zero_add, if_true, if_false, reduceIte, reduceCtorEq, Bool.false_eq_true, decide_eq_true_eq, tDrop, cMin2, cJoin, iList, tDNewK, tLc_eq, iStr, wipe])
        have hz : (tl z).contains c1 = true := List.contains_iff_mem.mpr hc1
        have n94 : c1 ≠ 94 := fun e => by rw [e, z94] at hz; cases hz
        refine ⟨by simp only [l1]; omega, _, _, _, _, rfl, by rw [la, l1]; omega, hs.app (Sg.one (zs c1 hc1)), ?_, hb, hk.trans hk2⟩
        rw [TL.tl_append]
        exact hv.app (Va.one n94 hz)
    · rintro σ H2 ⟨t, u4, u5, u6, rfl, ht, hs, hv, hb, hk⟩
      (try simp only [tSeq, tNext, tIfS, tFor_eq, cBl, tOp, tC, cI, cIc, cAdd, cVar, hEq, hNe, hIn, hNotIn, hLen, hSl, tM1, tBM, cT1, cT1f, cFind3, cSplit, cPart, rNewStrs, hIsS, hTru, tAsg, gName, gSub, tRet, tRetN, tCons, tNil, tTup, tLst, tCB, tNot, tAnd, tNotV, tAndV, tOrV, tOr, V.bl.injEq, V.int.injEq, V.str.injEq, exists_eq_left', exists_eq_left, exists_eq', true_and, and_true, cIsN, L2.start, gTup, gCons, gNil, nox_K, cx_K, tCallF, tSl, tPart, tNoPart, iEnum, RZ.iZipA, iRng1, iRng2, cAbs, List.map_cons, List.map_nil, List.length_cons, List.length_nil, List.replicate, List.cons_append, List.nil_append, List.getElem?_cons_zero, List.getElem?_cons_succ, List.getElem?_nil, List.set_cons_zero, List.set_cons_succ, Nat.reduceAdd, Nat.reduceSub, Nat.zero_add, if_true, if_false, reduceIte, reduceCtorEq, Bool.false_eq_true, decide_eq_true_eq, tDrop, cMin2, cJoin, iList, tDNewK, tLc_eq, iStr, wipe])
      exact q _ _ (by omega) hs hv hb hk
end
theorem word_ok {H : Hp} {a : Addr} {z : Str} {m : Int} {Q : VK} {E : XK} (hb : Bg H a) (z0 : 1 ≤ z.length) (z1 : z.length ≤ 1000) (zs : Sg z) (z94 : (tl z).contains 94 = false) (m0 : 0 ≤ m) (m1 : m ≤ 60)
    (q : ∀ t : Str, ∀ H', t.length ≤ 200 → Sg t → Va (tl z) (tl t) → Bg H' a → Kp a H H' → Q (.str t) H') : spWord [.ref a, .str z, .int m] H Q E := ⟨hb, z0, z1, zs, z94, m0, m1, q⟩
/-- None, or a right text of part i -/
def PVi (i : Nat) (v : V) : Prop := v = .non ∨ ∃ t : Str, v = .str t ∧ t.length ≤ 3000 ∧ Sg t ∧ wP i (tl t) = none
theorem PVi.pv {i : Nat} {v : V} (h : PVi i v) : PV v := by
  rcases h with h | ⟨t, e, h1, h2, _⟩
  · exact .inl h
  · exact .inr ⟨t, e, h1, h2⟩
theorem PVi.lit {i : Nat} {s : String} (h1 : (Str.ofString s).length ≤ 3000) (h2 : (tl (Str.ofString s)).all (· < 256) = true) (h3 : (wP i (tl (Str.ofString s))).isNone = true) : PVi i (.str (Str.ofString s)) :=
  .inr ⟨_, rfl, h1, Sg.lit h2, Option.isNone_iff_eq_none.mp h3⟩
/-- a right text of part i, by its signs -/
theorem wP_nw {i : Nat} (h : i = 1 ∨ i = 2 ∨ i = 4 ∨ i = 5 ∨ i = 6) {l : T} (n : Nw (SI i) l) (h91 : l.contains 91 = false) : wP i l = none := by
  rw [wP_scan h]
  · exact n 0
  · rintro ⟨_, e⟩
    rcases l with _ | ⟨c, r⟩
    · cases e
    · have : c = 91 := (List.cons.inj e).1
      subst this
      simp at h91
theorem va_91 {z t : T} (h : Va z t) (h1 : z.contains 91 = false) : t.contains 91 = false := by
  have n : Nw (z ++ HEXT) t := h _ fun c hc => by rw [con_app, hc]; rfl
  have h2 := scan_all (z ++ HEXT) (fun c hc => by rw [con_app, hc, Bool.or_true]) t.length t 0 (Nat.le_refl _) (n 0)
  exact nin h2 (by rw [con_app, h1]; decide +kernel) (by decide)
theorem PVi.word {i : Nat} (h : i = 1 ∨ i = 2 ∨ i = 4 ∨ i = 5 ∨ i = 6) {z t : Str} (hl : t.length ≤ 3000) (hs : Sg t) (hv : Va (tl z) (tl t)) (h1 : (tl z).all (SI i).contains = true) (h2 : (tl z).contains 91 = false) : PVi i (.str t) :=
  .inr ⟨t, rfl, hl, hs, wP_nw h (hv.use h1) (va_91 hv h2)⟩
def spAuth : Sp := fun vs H Q _ => match vs with
  | [.ref a] => Bg H a ∧ ∀ u h g p H', PVi 1 u → PVi 2 h → PVi 3 g → (h = .non → u = .non ∧ g = .non) → Bg H' a → Kp a H H' → p ≠ a → H p = none → H' p = some (.tup [u, h, g]) → Q (.ref p) H'
  | _ => False
section
variable {P : Program} {w : World} {K : PySem.W.Frag} {mg : Str → Option Value} {base : Heap}
theorem ok__law_authority (c : Ct w K mg) : OkF P w K mg base CX0 3 (He.ga K "_law_authority") ["bag"] (spAuth) := by
  obtain ⟨fd, F⟩ := F__law_authority c
  refine ⟨fd, F.ok sc__law_authority (fun vs H Q E h => ?_) (fun cdv A outer s H vs Q E hr h => ⟨_, PSs.nox ((pss_cons (ps_if (ctc (ho_eq (hu64 hr)) (pf (ok__law_take c) (hr.mono (by decide)) (g__law_take c) (k__law_take c) pass0 (pa_cons (cv 0) (pa_cons pe_int pa_nil))) pe_int (by rfl)) (pss_one (ps_ret (pe_tup (pa_cons pe_non (pa_cons pe_non (pa_cons pe_non pa_nil)))))) pss_nil) (pss_cons (ps_set (i := 1) (sc__law_authority).nd rfl (Or.inl rfl) (hix (pe_lst (pa_cons (pf (ok__law_word c) (hr.mono (by decide)) (g__law_word c) (k__law_word c) pass0 (pa_cons (cv 0) (pa_cons pe_str (pa_cons pe_int pa_nil)))) (pa_cons pe_str (pa_cons pe_str (pa_cons (pe_op co_add (pe_op co_add pe_str (pe_slice hs_any pe_str (po_some (pf (ok__law_take c) (hr.mono (by decide)) (g__law_take c) (k__law_take c) pass0 (pa_cons (cv 0) (pa_cons pe_int pa_nil)))) po_none)) pe_str) pa_nil))))) (pf (ok__law_take c) (hr.mono (by decide)) (g__law_take c) (k__law_take c) pass0 (pa_cons (cv 0) (pa_cons pe_int pa_nil))))) (pss_cons (ps_set (i := 2) (sc__law_authority).nd rfl (Or.inl rfl) (hix (pe_lst (pa_cons pe_non (pa_cons pe_str (pa_cons (pf (ok__law_word c) (hr.mono (by decide)) (g__law_word c) (k__law_word c) pass0 (pa_cons (cv 0) (pa_cons pe_str (pa_cons pe_int pa_nil)))) pa_nil)))) (pf (ok__law_take c) (hr.mono (by decide)) (g__law_take c) (k__law_take c) pass0 (pa_cons (cv 0) (pa_cons pe_int pa_nil))))) (pss_cons (ps_set (i := 3) (sc__law_authority).nd rfl (Or.inl rfl) (hix (pe_lst (pa_cons pe_non (pa_cons pe_str (pa_cons pe_str (pa_cons pe_str (pa_cons pe_str (pa_cons pe_str (pa_cons pe_str (pa_cons pe_str (pa_cons pe_str pa_nil)))))))))) (pf (ok__law_take c) (hr.mono (by decide)) (g__law_take c) (k__law_take c) pass0 (pa_cons (cv 0) (pa_cons pe_int pa_nil))))) (pss_one (ps_ret (pe_tup (pa_cons (cv 2) (pa_cons (cv 1) (pa_cons (cv 3) pa_nil))))))))))), ?_⟩), F.bindsN fun _ _ _ _ _ _ us hl => match us, hl with | [_], _ => rfl⟩
  · unfold spAuth at h
    split at h
    · rfl
    · exact h.elim
  · unfold spAuth at h
    split at h
    case h_2 => exact h.elim
    rename_i a
    obtain ⟨hb, q⟩ := h
    (try simp only [tSeq, tNext, tIfS, tFor_eq, cBl, tOp, tC, cI, cIc, cAdd, cVar, hEq, hNe, hIn, hNotIn, hLen, hSl, tM1, tBM, cT1, cT1f, cFind3, cSplit, cPart, rNewStrs, hIsS, hTru, tAsg, gName, gSub, tRet, tRetN, tCons, tNil, tTup, tLst, tCB, tNot, tAnd, tNotV, tAndV, tOrV, tOr, V.bl.injEq, V.int.injEq, V.str.injEq, exists_eq_left', exists_eq_left, exists_eq', true_and, and_true, cIsN, L2.start, gTup, gCons, gNil, nox_K, cx_K, tCallF, tSl, tPart, tNoPart, iEnum, RZ.iZipA, iRng1, iRng2, cAbs, List.map_cons, List.map_nil, List.length_cons, List.length_nil, List.replicate, List.cons_append, List.nil_append, List.getElem?_cons_zero, List.getElem?_cons_succ, List.getElem?_nil, List.set_cons_zero, List.set_cons_succ, Nat.reduceAdd, Nat.reduceSub, Nat.zero_add, if_true, if_false, reduceIte, reduceCtorEq, Bool.false_eq_true, decide_eq_true_eq, tDrop, cMin2, cJoin, iList, tDNewK, tLc_eq, iStr, wipe])
    have := sl
    refine take_ok hb (by decide) (by decide) fun d H1 d0 d1 hb hk1 => ?_
    have hk := hk1
    (try simp only [tSeq, tNext, tIfS, tFor_eq, cBl, tOp, tC, cI, cIc, cAdd, cVar, hEq, hNe, hIn, hNotIn, hLen, hSl, tM1, tBM, cT1, cT1f, cFind3, cSplit, cPart, rNewStrs, hIsS, hTru, tAsg, gName, gSub, tRet, tRetN, tCons, tNil, tTup, tLst, tCB, tNot, tAnd, tNotV, tAndV, tOrV, tOr, V.bl.injEq, V.int.injEq, V.str.injEq, exists_eq_left', exists_eq_left, exists_eq', true_and, and_true, cIsN, L2.start, gTup, gCons, gNil, nox_K, cx_K, tCallF, tSl, tPart, tNoPart, iEnum, RZ.iZipA, iRng1, iRng2, cAbs, List.map_cons, List.map_nil, List.length_cons, List.length_nil, List.replicate, List.cons_append, List.nil_append, List.getElem?_cons_zero, List.getElem?_cons_succ, List.getElem?_nil, List.set_cons_zero, List.set_cons_succ, Nat.reduceAdd, Nat.reduceSub, Nat.zero_add, if_true, if_false, reduceIte, reduceCtorEq, Bool.false_eq_true, decide_eq_true_eq, tDrop, cMin2, cJoin, iList, tDNewK, tLc_eq, iStr, wipe])
    split
    · exact ⟨by decide, fun p hp => q _ _ _ _ _ (.inl rfl) (.inl rfl) (.inl rfl) (fun _ => ⟨rfl, rfl⟩) (hb.fresh hp) (hk.fresh hp) (hb.ne hp) (hk.none (hb.ne hp) hp) upd_self⟩
    · refine word_ok hb (by decide) (by decide) (Sg.lit (by rfl)) (by decide +kernel) (by decide) (by decide) fun t1 H2 ht1 hs1 hva1 hb hk2 => ?_
      have hk := hk.trans hk2
      refine take_ok hb (by decide) (by decide) fun d H3 d0 d1 hb hk3 => ?_
      have hk := hk.trans hk3
      have h1 := cutS_len (Str.ofString "0fF:.") (some d) none
      have e5 : (Str.ofString "0fF:.").length = 5 := rfl
      have e1 : (Str.ofString "[").length = 1 := rfl
      have e2 : (Str.ofString "]").length = 1 := rfl
      have e0 : (Str.ofString "").length = 0 := rfl
      have e3 : (Str.ofString "h").length = 1 := rfl
      have hbr : PVi 2 (.str (Str.ofString "[" ++ cutS (Str.ofString "0fF:.") (some d) none ++ Str.ofString "]")) := by
        refine .inr ⟨_, rfl, by rw [la, la]; omega, ((Sg.lit (by rfl)).app (Sg.cut (Sg.lit (by rfl)))).app (Sg.lit (by rfl)), ?_⟩
        have hd : d = 0 ∨ d = 1 ∨ d = 2 ∨ d = 3 ∨ d = 4 := by omega
        rcases hd with rfl | rfl | rfl | rfl | rfl <;> exact Option.isNone_iff_eq_none.mp (by decide +kernel)
      (try simp only [tSeq, tNext, tIfS, tFor_eq, cBl, tOp, tC, cI, cIc, cAdd, cVar, hEq, hNe, hIn, hNotIn, hLen, hSl, tM1, tBM, cT1, cT1f, cFind3, cSplit, cPart, rNewStrs, hIsS, hTru, tAsg, gName, gSub, tRet, tRetN, tCons, tNil, tTup, tLst, tCB, tNot, tAnd, tNotV, tAndV, tOrV, tOr, V.bl.injEq, V.int.injEq, V.str.injEq, exists_eq_left', exists_eq_left, exists_eq', true_and, and_true, cIsN, L2.start, gTup, gCons, gNil, nox_K, cx_K, tCallF, tSl, tPart, tNoPart, iEnum, RZ.iZipA, iRng1, iRng2, cAbs, List.map_cons, List.map_nil, List.length_cons, List.length_nil, List.replicate, List.cons_append, List.nil_append, List.getElem?_cons_zero, List.getElem?_cons_succ, List.getElem?_nil, List.set_cons_zero, List.set_cons_succ, Nat.reduceAdd, Nat.reduceSub, Nat.zero_add, if_true, if_false, reduceIte, reduceCtorEq, Bool.false_eq_true, decide_eq_true_eq, tDrop, cMin2, cJoin, iList, tDNewK, tLc_eq, iStr, wipe])
      refine ⟨by rw [e5]; omega, by omega, by rw [la]; omega, by decide, fun p hp => ?_⟩
      refine take_ok (hb.fresh hp) (by decide) (by decide) fun d H4 d0 d1 hb4 hk4 => ?_
      refine hIx_all (hk4 _ _ (hb.ne hp) upd_self) d0 d1 fun v hv => ?_
      have hvn : v ≠ .non := by
        simp only [List.mem_cons, List.not_mem_nil, or_false] at hv
        rcases hv with rfl | rfl | rfl | rfl <;> exact fun z => nomatch z
      have hv : PVi 2 v := by
        simp only [List.mem_cons, List.not_mem_nil, or_false] at hv
        rcases hv with rfl | rfl | rfl | rfl
        · exact .word (.inr (.inl rfl)) (by omega) hs1 hva1 (by decide +kernel) (by decide +kernel)
        · exact .lit (by decide) (by rfl) (by decide +kernel)
        · exact .lit (by decide) (by rfl) (by decide +kernel)
        · exact hbr
      have hk := (hk.fresh hp).trans hk4
      have hb := hb4
      (try simp only [tSeq, tNext, tIfS, tFor_eq, cBl, tOp, tC, cI, cIc, cAdd, cVar, hEq, hNe, hIn, hNotIn, hLen, hSl, tM1, tBM, cT1, cT1f, cFind3, cSplit, cPart, rNewStrs, hIsS, hTru, tAsg, gName, gSub, tRet, tRetN, tCons, tNil, tTup, tLst, tCB, tNot, tAnd, tNotV, tAndV, tOrV, tOr, V.bl.injEq, V.int.injEq, V.str.injEq, exists_eq_left', exists_eq_left, exists_eq', true_and, and_true, cIsN, L2.start, gTup, gCons, gNil, nox_K, cx_K, tCallF, tSl, tPart, tNoPart, iEnum, RZ.iZipA, iRng1, iRng2, cAbs, List.map_cons, List.map_nil, List.length_cons, List.length_nil, List.replicate, List.cons_append, List.nil_append, List.getElem?_cons_zero, List.getElem?_cons_succ, List.getElem?_nil, List.set_cons_zero, List.set_cons_succ, Nat.reduceAdd, Nat.reduceSub, Nat.zero_add, if_true, if_false, reduceIte, reduceCtorEq, Bool.false_eq_true, decide_eq_true_eq, tDrop, cMin2, cJoin, iList, tDNewK, tLc_eq, iStr, wipe])
      refine word_ok hb (by decide) (by decide) (Sg.lit (by rfl)) (by decide +kernel) (by decide) (by decide) fun t2 H5 ht2 hs2 hva2 hb hk5 => ?_
      have hk := hk.trans hk5
      refine ⟨by decide, fun p2 hp2 => ?_⟩
      refine take_ok (hb.fresh hp2) (by decide) (by decide) fun d H6 d0 d1 hb6 hk6 => ?_
      refine hIx_all (hk6 _ _ (hb.ne hp2) upd_self) d0 d1 fun v2 hv2 => ?_
      have hv2 : PVi 1 v2 := by
        simp only [List.mem_cons, List.not_mem_nil, or_false] at hv2
        rcases hv2 with rfl | rfl | rfl
        · exact .inl rfl
        · exact .lit (by decide) (by rfl) (by decide +kernel)
        · exact .word (.inl rfl) (by omega) hs2 hva2 (by decide +kernel) (by decide +kernel)
      have hk := (hk.fresh hp2).trans hk6
      have hb := hb6
      (try simp only [tSeq, tNext, tIfS, tFor_eq, cBl, tOp, tC, cI, cIc, cAdd, cVar, hEq, hNe, hIn, hNotIn, hLen, hSl, tM1, tBM, cT1, cT1f, cFind3, cSplit, cPart, rNewStrs, hIsS, hTru, tAsg, gName, gSub, tRet, tRetN, tCons, tNil, tTup, tLst, tCB, tNot, tAnd, tNotV, tAndV, tOrV, tOr, V.bl.injEq, V.int.injEq, V.str.injEq, exists_eq_left', exists_eq_left, exists_eq', true_and, and_true, cIsN, L2.start, gTup, gCons, gNil, nox_K, cx_K, tCallF, tSl, tPart, tNoPart, iEnum, RZ.iZipA, iRng1, iRng2, cAbs, List.map_cons, List.map_nil, List.length_cons, List.length_nil, List.replicate, List.cons_append, List.nil_append, List.getElem?_cons_zero, List.getElem?_cons_succ, List.getElem?_nil, List.set_cons_zero, List.set_cons_succ, Nat.reduceAdd, Nat.reduceSub, Nat.zero_add, if_true, if_false, reduceIte, reduceCtorEq, Bool.false_eq_true, decide_eq_true_eq, tDrop, cMin2, cJoin, iList, tDNewK, tLc_eq, iStr, wipe])
      refine ⟨by decide, fun p3 hp3 => ?_⟩
      refine take_ok (hb.fresh hp3) (by decide) (by decide) fun d H7 d0 d1 hb7 hk7 => ?_
      refine hIx_all (hk7 _ _ (hb.ne hp3) upd_self) d0 d1 fun v3 hv3 => ?_
      have hv3 : PVi 3 v3 := by
        simp only [List.mem_cons, List.not_mem_nil, or_false] at hv3
        rcases hv3 with rfl | rfl | rfl | rfl | rfl | rfl | rfl | rfl | rfl
        · exact .inl rfl
        all_goals exact .lit (by decide) (by rfl) (by decide +kernel)
      have hk := (hk.fresh hp3).trans hk7
      have hb := hb7
      (try simp only [tSeq, tNext, tIfS, tFor_eq, cBl, tOp, tC, cI, cIc, cAdd, cVar, hEq, hNe, hIn, hNotIn, hLen, hSl, tM1, tBM, cT1, cT1f, cFind3, cSplit, cPart, rNewStrs, hIsS, hTru, tAsg, gName, gSub, tRet, tRetN, tCons, tNil, tTup, tLst, tCB, tNot, tAnd, tNotV, tAndV, tOrV, tOr, V.bl.injEq, V.int.injEq, V.str.injEq, exists_eq_left', exists_eq_left, exists_eq', true_and, and_true, cIsN, L2.start, gTup, gCons, gNil, nox_K, cx_K, tCallF, tSl, tPart, tNoPart, iEnum, RZ.iZipA, iRng1, iRng2, cAbs, List.map_cons, List.map_nil, List.length_cons, List.length_nil, List.replicate, List.cons_append, List.nil_append, List.getElem?_cons_zero, List.getElem?_cons_succ, List.getElem?_nil, List.set_cons_zero, List.set_cons_succ, Nat.reduceAdd, Nat.reduceSub, Nat.zero_add, if_true, if_false, reduceIte, reduceCtorEq, Bool.false_eq_true, decide_eq_true_eq, tDrop, cMin2, cJoin, iList, tDNewK, tLc_eq, iStr, wipe])
      refine ⟨by decide, fun p4 hp4 => ?_⟩
      exact q _ _ _ _ _ hv2 hv hv3 (fun z => absurd z hvn) (hb.fresh hp4) (hk.fresh hp4) (hb.ne hp4) (hk.none (hb.ne hp4) hp4) upd_self
end
end Da
set_option Elab.async false
set_option linter.all false
set_option maxRecDepth 100000
set_option maxHeartbeats 4000000
namespace Da
open PySem PySem.Spec PyProof.Rows L2 Hd Xs Fx Mi ClX Xr
open TL (tl)
def S4 (t : Str) : Prop := Sg t ∧ Nw (SI 4) (tl t)
theorem S4.lit {s : String} (h : ((tl (Str.ofString s)).all (· < 256) && (Mi.scan (SI 4) 0 (tl (Str.ofString s))).isNone) = true) : S4 (Str.ofString s) := by
  rw [Bool.and_eq_true] at h
  exact ⟨Sg.lit h.1, Nw.lit h.2⟩
theorem S4.app {a b : Str} (ha : S4 a) (hb : S4 b) : S4 (a ++ b) := ⟨ha.1.app hb.1, by rw [TL.tl_append]; exact ha.2.app hb.2⟩
theorem S4.join {ys : List Str} (h : ∀ y ∈ ys, S4 y) : S4 (Txt.join (Str.ofString "/") ys) := by
  refine ⟨Sg.join (Sg.lit (by rfl)) fun y hy => (h y hy).1, ?_⟩
  rw [TL.join_eq, TL.tl_join, show tl (Str.ofString "/") = [47] by decide +kernel]
  refine nwJ (by decide +kernel) _ fun p hp => ?_
  obtain ⟨y, hy, rfl⟩ := List.mem_map.mp hp
  exact (h y hy).2
theorem S4.cut1 {t : Str} (h : S4 t) (h2 : (tl t).take 2 = [47, 47]) : S4 (cutS t (some 1) none) := by
  refine ⟨h.1.cut, ?_⟩
  rw [show (some (1 : Int)) = some ((1 : Nat) : Int) from rfl, cutN]
  obtain ⟨hs, hn⟩ := h
  rcases e : tl t with _ | ⟨c, r⟩
  · exact .nil
  · rw [e] at h2 hn
    have : c = 47 := (List.cons.inj h2).1
    subst this
    exact hn.tail (by decide)
theorem e47 : tl (Str.ofString "/") = [47] := by decide +kernel
/-- beside what may the path stand -/
def PathFits (b1 b2 : Bool) (l : T) : Prop := (b2 = true → l = [] ∨ l.take 1 = [47]) ∧ (b2 = false → l.take 2 ≠ [47, 47] ∧ (b1 = false → (bef 47 l).contains 58 = false))
def spPath : Sp := fun vs H Q _ => match vs with
  | [.ref a, .bl b1, .bl b2] => Bg H a ∧ ∀ t : Str, ∀ H', t.length ≤ 3000 → S4 t → PathFits b1 b2 (tl t) → Bg H' a → Kp a H H' → Q (.str t) H'
  | _ => False
section
variable {P : Program} {w : World} {K : PySem.W.Frag} {mg : Str → Option Value} {base : Heap}
theorem ok__law_path (c : Ct w K mg) : OkF P w K mg base CX0 3 (He.ga K "_law_path") ["bag", "has_scheme", "has_authority"] (spPath) := by
  obtain ⟨fd, F⟩ := F__law_path c
  refine ⟨fd, F.ok sc__law_path (fun vs H Q E h => ?_) (fun cdv A outer s H vs Q E hr h => ⟨_, PSs.nox ((pss_cons (ps_set (i := 3) (sc__law_path).nd rfl (Or.inl rfl) (pe_lst pa_nil)) (pss_cons (ps_for PassesOwn.never rfl (pi_range1 rfl (b_range c) (pa_cons (pf (ok__law_take c) (hr.mono (by decide)) (g__law_take c) (k__law_take c) pass0 (pa_cons (cv 0) (pa_cons pe_int pa_nil))) pa_nil)) (pg_name (i := 4) (sc__law_path).nd rfl (Or.inl rfl)) (pss_cons (ps_set (i := 5) (sc__law_path).nd rfl (Or.inl rfl) (pe_lst (pa_cons pe_str (pa_cons pe_str (pa_cons pe_str (pa_cons pe_str (pa_cons pe_str (pa_cons pe_str (pa_cons pe_str (pa_cons pe_str (pa_cons pe_str (pa_cons (pf (ok__law_word c) (hr.mono (by decide)) (g__law_word c) (k__law_word c) pass0 (pa_cons (cv 0) (pa_cons pe_str (pa_cons pe_int pa_nil)))) pa_nil)))))))))))) (pss_one (ps_expr (pe_bm PySem.F.plainAttrs_list PySem.F.slot_list_append PySem.F.type_list_append mt_append (cv 3) (pa_cons (hix (cv 5) (pf (ok__law_take c) (hr.mono (by decide)) (g__law_take c) (k__law_take c) pass0 (pa_cons (cv 0) (pa_cons pe_int pa_nil)))) pa_nil)))))) (pss_cons (ps_set (i := 6) (sc__law_path).nd rfl (Or.inl rfl) (pe_m1 PySem.F.slot_str_join PySem.F.type_str_join hm_join pe_str (cv 3))) (pss_cons (ps_if (PW.pt (pw_or (hTr (cv 2)) (pw_or1 (ctc (ho_eq (hu64 hr)) (pf (ok__law_take c) (hr.mono (by decide)) (g__law_take c) (k__law_take c) pass0 (pa_cons (cv 0) (pa_cons pe_int pa_nil))) pe_int (by rfl))))) (pss_one (ps_set (i := 6) (sc__law_path).nd rfl (Or.inl rfl) (pe_ifExp (PW.pt (pw_or (ctc (ho_ne (hu64 hr)) (cv 3) (pe_lst pa_nil) (by rfl)) (pw_or1 (ctc (ho_eq (hu64 hr)) (pf (ok__law_take c) (hr.mono (by decide)) (g__law_take c) (k__law_take c) pass0 (pa_cons (cv 0) (pa_cons pe_int pa_nil))) pe_int (by rfl))))) (pe_op co_add pe_str (cv 6)) pe_str))) pss_nil) (pss_cons (ps_if (pt_not (hTr (cv 2))) (pss_cons (ps_while PassesOwn.never (ctc (ho_eq (hu64 hr)) (pe_slice hs_any (cv 6) po_none (po_some pe_int)) pe_str (by rfl)) (pss_one (ps_set (i := 6) (sc__law_path).nd rfl (Or.inl rfl) (pe_slice hs_any (cv 6) (po_some pe_int) po_none)))) (pss_one (ps_if (PW.pt (pw_and (pt_not (hTr (cv 1))) (pw_and1 (ctc ho_in pe_str (hix (pe_m1 PySem.F.slot_str_split PySem.F.type_str_split cm_split (cv 6) pe_str) pe_int) (by rfl))))) (pss_one (ps_set (i := 6) (sc__law_path).nd rfl (Or.inl rfl) (pe_op co_add pe_str (cv 6)))) pss_nil))) pss_nil) (pss_one (ps_ret (cv 6))))))))), ?_⟩), F.bindsN fun _ _ _ _ _ _ us hl => match us, hl with | [_, _, _], _ => rfl⟩
  · unfold spPath at h
    split at h
    · rfl
    · exact h.elim
  · unfold spPath at h
    split at h
    case h_2 => exact h.elim
    rename_i a b1 b2
    obtain ⟨hb, q⟩ := h
    have sl := sl
    have e47 := e47
    refine seqStep ?_
    (try simp only [tNext, tFor_eq, cBl, tOp, tC, cI, cIc, cAdd, cVar, hEq, hNe, hIn, hNotIn, hLen, hSl, tM1, tBM, cT1, cT1f, cFind3, cSplit, cPart, rNewStrs, hIsS, hTru, tAsg, gName, gSub, tRet, tRetN, tCons, tNil, tTup, tLst, tCB, tNot, tAnd, tNotV, tAndV, tOrV, tOr, V.bl.injEq, V.int.injEq, V.str.injEq, exists_eq_left', exists_eq_left, exists_eq', true_and, and_true, cIsN, L2.start, gTup, gCons, gNil, nox_K, cx_K, tCallF, tSl, tPart, tNoPart, iEnum, RZ.iZipA, iRng1, iRng2, cAbs, List.map_cons, List.map_nil, List.length_cons, List.length_nil, List.replicate, List.cons_append, List.nil_append, List.getElem?_cons_zero, List.getElem?_cons_succ, List.getElem?_nil, List.set_cons_zero, List.set_cons_succ, Nat.reduceAdd, Nat.reduceSub, Nat.zero_add, if_true, if_false, reduceIte, reduceCtorEq, Bool.false_eq_true, decide_eq_true_eq, tDrop, cMin2, cJoin, iList, tDNewK, tLc_eq, iStr, wipe])
    refine ⟨by decide, fun pl hpl => ?_⟩
    have hne : pl ≠ a := hb.ne hpl
    -- the loop
    refine seqCps (fun σ H' => ∃ ys : List Str, ∃ u4 u5, σ = [some (.ref a), some (.bl b1), some (.bl b2), some (.ref pl), u4, u5, none] ∧ H' pl = some (.lst (ys.map V.str)) ∧ (∀ y ∈ ys, y.length ≤ 200) ∧ (∀ y ∈ ys, S4 y) ∧ ys.length ≤ 5 ∧ Bg H' a ∧ Kp a H H') (fun Nx hN => ?_) ?_
    · (try simp only [tNext, tFor_eq, cBl, tOp, tC, cI, cIc, cAdd, cVar, hEq, hNe, hIn, hNotIn, hLen, hSl, tM1, tBM, cT1, cT1f, cFind3, cSplit, cPart, rNewStrs, hIsS, hTru, tAsg, gName, gSub, tRet, tRetN, tCons, tNil, tTup, tLst, tCB, tNot, tAnd, tNotV, tAndV, tOrV, tOr, V.bl.injEq, V.int.injEq, V.str.injEq, exists_eq_left', exists_eq_left, exists_eq', true_and, and_true, cIsN, L2.start, gTup, gCons, gNil, nox_K, cx_K, tCallF, tSl, tPart, tNoPart, iEnum, RZ.iZipA, iRng1, iRng2, cAbs, List.map_cons, List.map_nil, List.length_cons, List.length_nil, List.replicate, List.cons_append, List.nil_append, List.getElem?_cons_zero, List.getElem?_cons_succ, List.getElem?_nil, List.set_cons_zero, List.set_cons_succ, Nat.reduceAdd, Nat.reduceSub, Nat.zero_add, if_true, if_false, reduceIte, reduceCtorEq, Bool.false_eq_true, decide_eq_true_eq, tDrop, cMin2, cJoin, iList, tDNewK, tLc_eq, iStr, wipe])
      refine take_ok (hb.fresh hpl) (by decide) (by decide) fun d H1 d0 d1 hb1 hk1 => ?_
      refine ⟨d, rfl, by omega, by omega, ?_⟩
      refine lp_range (fun k σ H' => ∃ ys : List Str, ∃ u4 u5, σ = [some (.ref a), some (.bl b1), some (.bl b2), some (.ref pl), u4, u5, none] ∧ H' pl = some (.lst (ys.map V.str)) ∧ (∀ y ∈ ys, y.length ≤ 200) ∧ (∀ y ∈ ys, S4 y) ∧ ys.length ≤ k ∧ Bg H' a ∧ Kp a H H') ⟨[], _, _, rfl, hk1 _ _ hne upd_self, fun _ h => (nomatch h), fun _ h => (nomatch h), by decide, hb1, (Kp.refl.fresh hpl).trans hk1⟩ ?_ ?_
      · rintro k σ H2 kd ⟨ys, u4, u5, rfl, hl, hy, hg, hn, hb, hk⟩
        (try simp only [tSeq, tNext, tIfS, tFor_eq, cBl, tOp, tC, cI, cIc, cAdd, cVar, hEq, hNe, hIn, hNotIn, hLen, hSl, tM1, tBM, cT1, cT1f, cFind3, cSplit, cPart, rNewStrs, hIsS, hTru, tAsg, gName, gSub, tRet, tRetN, tCons, tNil, tTup, tLst, tCB, tNot, tAnd, tNotV, tAndV, tOrV, tOr, V.bl.injEq, V.int.injEq, V.str.injEq, exists_eq_left', exists_eq_left, exists_eq', true_and, and_true, cIsN, L2.start, gTup, gCons, gNil, nox_K, cx_K, tCallF, tSl, tPart, tNoPart, iEnum, RZ.iZipA, iRng1, iRng2, cAbs, List.map_cons, List.map_nil, List.length_cons, List.length_nil, List.replicate, List.cons_append, List.nil_append, List.getElem?_cons_zero, List.getElem?_cons_succ, List.getElem?_nil, List.set_cons_zero, List.set_cons_succ, Nat.reduceAdd, Nat.reduceSub, Nat.zero_add, if_true, if_false, reduceIte, reduceCtorEq, Bool.false_eq_true, decide_eq_true_eq, tDrop, cMin2, cJoin, iList, tDNewK, tLc_eq, iStr, wipe])
        refine word_ok hb (by decide) (by decide) (Sg.lit (by rfl)) (by decide +kernel) (by decide) (by decide) fun t1 H3 ht1 hs1 hva1 hb3 hk3 => ?_
        refine ⟨by decide, fun p hp => ⟨?_, ?_⟩⟩
        · exact tyL (upd_old (hk3 _ _ hne hl) hp)
        · refine take_ok (hb3.fresh hp) (by decide) (by decide) fun d H4 d0 d1 hb4 hk4 => ?_
          refine hIx_all (hk4 _ _ (hb3.ne hp) upd_self) d0 d1 fun v hv => ?_
          obtain ⟨z, rfl, hz, hzg⟩ : ∃ z : Str, v = .str z ∧ z.length ≤ 200 ∧ S4 z := by
            simp only [List.mem_cons, List.not_mem_nil, or_false] at hv
            rcases hv with rfl | rfl | rfl | rfl | rfl | rfl | rfl | rfl | rfl | rfl
            all_goals first | exact ⟨_, rfl, ht1, hs1, hva1.use (by decide +kernel)⟩ | exact ⟨_, rfl, by decide, S4.lit (by decide +kernel)⟩
          have hl4 := hk4 _ _ hne (upd_old (hk3 _ _ hne hl) hp)
          refine append_at hl4 (by rw [List.length_map]; omega) ?_
          refine ⟨ys ++ [z], _, _, rfl, by rw [List.map_append]; exact upd_self, fun y hm => ?_, fun y hm => ?_, by rw [List.length_append]; simp only [List.length_cons, List.length_nil]; omega, ?_, ?_⟩
          · rcases List.mem_append.mp hm with hm | hm
            · exact hy y hm
            · rw [List.mem_singleton.mp hm]; exact hz
          · rcases List.mem_append.mp hm with hm | hm
            · exact hg y hm
            · rw [List.mem_singleton.mp hm]; exact hzg
          · obtain ⟨x, y, e, r⟩ := hb4
            exact ⟨x, y, by rw [upd_ne hne.symm]; exact e, r⟩
          · exact (((hk.trans hk3).fresh hp).trans hk4).new hpl
      · rintro σ H2 ⟨ys, u4, u5, rfl, hl, hy, hg, hn, hb, hk⟩
        exact hN _ _ ⟨ys, _, _, rfl, hl, hy, hg, by omega, hb, hk⟩
    · rintro σ H2 ⟨ys, u4, u5, rfl, hl, hy, hg, hn, hb, hk⟩
      refine seqStep ?_
      (try simp only [tNext, tFor_eq, cBl, tOp, tC, cI, cIc, cAdd, cVar, hEq, hNe, hIn, hNotIn, hLen, hSl, tM1, tBM, cT1, cT1f, cFind3, cSplit, cPart, rNewStrs, hIsS, hTru, tAsg, gName, gSub, tRet, tRetN, tCons, tNil, tTup, tLst, tCB, tNot, tAnd, tNotV, tAndV, tOrV, tOr, V.bl.injEq, V.int.injEq, V.str.injEq, exists_eq_left', exists_eq_left, exists_eq', true_and, and_true, cIsN, L2.start, gTup, gCons, gNil, nox_K, cx_K, tCallF, tSl, tPart, tNoPart, iEnum, RZ.iZipA, iRng1, iRng2, cAbs, List.map_cons, List.map_nil, List.length_cons, List.length_nil, List.replicate, List.cons_append, List.nil_append, List.getElem?_cons_zero, List.getElem?_cons_succ, List.getElem?_nil, List.set_cons_zero, List.set_cons_succ, Nat.reduceAdd, Nat.reduceSub, Nat.zero_add, if_true, if_false, reduceIte, reduceCtorEq, Bool.false_eq_true, decide_eq_true_eq, tDrop, cMin2, cJoin, iList, tDNewK, tLc_eq, iStr, wipe])
      have hj := join_len (y := Str.ofString "/") hy
      have e1 : (Str.ofString "/").length = 1 := rfl
      have e0 : (Str.ofString "").length = 0 := rfl
      have e2 : (Str.ofString "./").length = 2 := rfl
      have e3 : (Str.ofString ":").length = 1 := rfl
      have hs := sum_len hy
      have hj2 : (Txt.join (Str.ofString "/") ys).length ≤ 2010 := by
        have : ys.length * (200 + (Str.ofString "/").length) ≤ 5 * (200 + (Str.ofString "/").length) := Nat.mul_le_mul_right _ hn
        omega
      have hs2 : (ys.map (·.length)).sum + ys.length * (Str.ofString "/").length ≤ 16777216 := by
        rw [e1]
        have : ys.length * 200 ≤ 5 * 200 := Nat.mul_le_mul_right _ hn
        omega
      refine ⟨ys, .inl (.inl (Rd.of hl)), hs2, ?_⟩
      have hjg : S4 (Txt.join (Str.ofString "/") ys) := S4.join hg
      generalize Txt.join (Str.ofString "/") ys = tj at *
      -- with an authority the path begins with a slash, or is empty
      refine seqCps (fun σ H' => ∃ t : Str, σ = [some (.ref a), some (.bl b1), some (.bl b2), some (.ref pl), u4, u5, some (.str t)] ∧ t.length ≤ 2100 ∧ S4 t ∧ (b2 = true → tl t = [] ∨ (tl t).take 1 = [47]) ∧ Bg H' a ∧ Kp a H H') (fun Nx hN => ?_) ?_
      · refine cpsT (R := tOr _ _ _ _) (fun b H' => (b2 = true → b = true) ∧ Bg H' a ∧ Kp a H H' ∧ H' pl = some (.lst (ys.map V.str))) (fun b H3 ⟨hbt, hb, hk, hl⟩ => ?_) (fun Q' hQ => ?_)
        · cases b
          · (try simp only [tSeq, tNext, tIfS, tFor_eq, cBl, tOp, tC, cI, cIc, cAdd, cVar, hEq, hNe, hIn, hNotIn, hLen, hSl, tM1, tBM, cT1, cT1f, cFind3, cSplit, cPart, rNewStrs, hIsS, hTru, tAsg, gName, gSub, tRet, tRetN, tCons, tNil, tTup, tLst, tCB, tNot, tAnd, tNotV, tAndV, tOrV, tOr, V.bl.injEq, V.int.injEq, V.str.injEq, exists_eq_left', exists_eq_left, exists_eq', true_and, and_true, cIsN, L2.start, gTup, gCons, gNil, nox_K, cx_K, tCallF, tSl, tPart, tNoPart, iEnum, RZ.iZipA, iRng1, iRng2, cAbs, List.map_cons, List.map_nil, List.length_cons, List.length_nil, List.replicate, List.cons_append, List.nil_append, List.getElem?_cons_zero, List.getElem?_cons_succ, List.getElem?_nil, List.set_cons_zero, List.set_cons_succ, Nat.reduceAdd, Nat.reduceSub, Nat.zero_add, if_true, if_false, reduceIte, reduceCtorEq, Bool.false_eq_true, decide_eq_true_eq, tDrop, cMin2, cJoin, iList, tDNewK, tLc_eq, iStr, wipe])
            exact hN _ _ ⟨tj, rfl, by omega, hjg, fun z => (nomatch (hbt z)), hb, hk⟩
          · rw [if_pos rfl]
            unfold tAsg tIf
            refine cpsT (R := tOr _ _ _ _) (fun _ H' => Bg H' a ∧ Kp a H H') (fun b H3 ⟨hb, hk⟩ => ?_) (fun Q' hQ => ?_)
            · cases b
              · (try simp only [tSeq, tNext, tIfS, tFor_eq, cBl, tOp, tC, cI, cIc, cAdd, cVar, hEq, hNe, hIn, hNotIn, hLen, hSl, tM1, tBM, cT1, cT1f, cFind3, cSplit, cPart, rNewStrs, hIsS, hTru, tAsg, gName, gSub, tRet, tRetN, tCons, tNil, tTup, tLst, tCB, tNot, tAnd, tNotV, tAndV, tOrV, tOr, V.bl.injEq, V.int.injEq, V.str.injEq, exists_eq_left', exists_eq_left, exists_eq', true_and, and_true, cIsN, L2.start, gTup, gCons, gNil, nox_K, cx_K, tCallF, tSl, tPart, tNoPart, iEnum, RZ.iZipA, iRng1, iRng2, cAbs, List.map_cons, List.map_nil, List.length_cons, List.length_nil, List.replicate, List.cons_append, List.nil_append, List.getElem?_cons_zero, List.getElem?_cons_succ, List.getElem?_nil, List.set_cons_zero, List.set_cons_succ, Nat.reduceAdd, Nat.reduceSub, Nat.zero_add, if_true, if_false, reduceIte, reduceCtorEq, Bool.false_eq_true, decide_eq_true_eq, tDrop, cMin2, cJoin, iList, tDNewK, tLc_eq, iStr, wipe])
                exact hN _ _ ⟨_, rfl, by decide, S4.lit (by decide +kernel), fun _ => .inl (by decide +kernel), hb, hk⟩
              · (try simp only [tSeq, tNext, tIfS, tFor_eq, cBl, tOp, tC, cI, cIc, cAdd, cVar, hEq, hNe, hIn, hNotIn, hLen, hSl, tM1, tBM, cT1, cT1f, cFind3, cSplit, cPart, rNewStrs, hIsS, hTru, tAsg, gName, gSub, tRet, tRetN, tCons, tNil, tTup, tLst, tCB, tNot, tAnd, tNotV, tAndV, tOrV, tOr, V.bl.injEq, V.int.injEq, V.str.injEq, exists_eq_left', exists_eq_left, exists_eq', true_and, and_true, cIsN, L2.start, gTup, gCons, gNil, nox_K, cx_K, tCallF, tSl, tPart, tNoPart, iEnum, RZ.iZipA, iRng1, iRng2, cAbs, List.map_cons, List.map_nil, List.length_cons, List.length_nil, List.replicate, List.cons_append, List.nil_append, List.getElem?_cons_zero, List.getElem?_cons_succ, List.getElem?_nil, List.set_cons_zero, List.set_cons_succ, Nat.reduceAdd, Nat.reduceSub, Nat.zero_add, if_true, if_false, reduceIte, reduceCtorEq, Bool.false_eq_true, decide_eq_true_eq, tDrop, cMin2, cJoin, iList, tDNewK, tLc_eq, iStr, wipe])
                exact ⟨by omega, hN _ _ ⟨_, rfl, by rw [la]; omega, (S4.lit (by decide +kernel)).app hjg, fun _ => .inr (by rw [TL.tl_append, e47]; rfl), hb, hk⟩⟩
            · (try simp only [tSeq, tNext, tIfS, tFor_eq, cBl, tOp, tC, cI, cIc, cAdd, cVar, hEq, hNe, hIn, hNotIn, hLen, hSl, tM1, tBM, cT1, cT1f, cFind3, cSplit, cPart, rNewStrs, hIsS, hTru, tAsg, gName, gSub, tRet, tRetN, tCons, tNil, tTup, tLst, tCB, tNot, tAnd, tNotV, tAndV, tOrV, tOr, V.bl.injEq, V.int.injEq, V.str.injEq, exists_eq_left', exists_eq_left, exists_eq', true_and, and_true, cIsN, L2.start, gTup, gCons, gNil, nox_K, cx_K, tCallF, tSl, tPart, tNoPart, iEnum, RZ.iZipA, iRng1, iRng2, cAbs, List.map_cons, List.map_nil, List.length_cons, List.length_nil, List.replicate, List.cons_append, List.nil_append, List.getElem?_cons_zero, List.getElem?_cons_succ, List.getElem?_nil, List.set_cons_zero, List.set_cons_succ, Nat.reduceAdd, Nat.reduceSub, Nat.zero_add, if_true, if_false, reduceIte, reduceCtorEq, Bool.false_eq_true, decide_eq_true_eq, tDrop, cMin2, cJoin, iList, tDNewK, tLc_eq, iStr, wipe])
              refine ⟨by decide, fun p hp => ?_⟩
              refine ⟨_, _, .lst (.inl (Rd.of (upd_old hl hp))) (dpStrs ys), .lst (.inl (Rd.of upd_self)) .nil, shStrs (fun y hy => (hg y hy).1), rfl, ?_⟩
              rw [if_pos rfl]
              dsimp only
              split
              · exact hQ _ _ ⟨hb.fresh hp, hk.fresh hp⟩
              · refine take_ok (hb.fresh hp) (by decide) (by decide) fun d H4 d0 d1 hb4 hk4 => ?_
                exact hQ _ _ ⟨hb4, (hk.fresh hp).trans hk4⟩
        · (try simp only [tSeq, tNext, tIfS, tFor_eq, cBl, tOp, tC, cI, cIc, cAdd, cVar, hEq, hNe, hIn, hNotIn, hLen, hSl, tM1, tBM, cT1, cT1f, cFind3, cSplit, cPart, rNewStrs, hIsS, hTru, tAsg, gName, gSub, tRet, tRetN, tCons, tNil, tTup, tLst, tCB, tNot, tAnd, tNotV, tAndV, tOrV, tOr, V.bl.injEq, V.int.injEq, V.str.injEq, exists_eq_left', exists_eq_left, exists_eq', true_and, and_true, cIsN, L2.start, gTup, gCons, gNil, nox_K, cx_K, tCallF, tSl, tPart, tNoPart, iEnum, RZ.iZipA, iRng1, iRng2, cAbs, List.map_cons, List.map_nil, List.length_cons, List.length_nil, List.replicate, List.cons_append, List.nil_append, List.getElem?_cons_zero, List.getElem?_cons_succ, List.getElem?_nil, List.set_cons_zero, List.set_cons_succ, Nat.reduceAdd, Nat.reduceSub, Nat.zero_add, if_true, if_false, reduceIte, reduceCtorEq, Bool.false_eq_true, decide_eq_true_eq, tDrop, cMin2, cJoin, iList, tDNewK, tLc_eq, iStr, wipe])
          cases b2 with
          | true =>
            rw [if_pos rfl]
            exact hQ _ _ ⟨fun _ => rfl, hb, hk, hl⟩
          | false =>
            rw [if_neg (by decide)]
            refine take_ok hb (by decide) (by decide) fun d H4 d0 d1 hb4 hk4 => ?_
            exact hQ _ _ ⟨fun z => (nomatch z), hb4, hk.trans hk4, hk4 _ _ hne hl⟩
      · rintro σ H3 ⟨t, rfl, ht, hs, hab, hb, hk⟩
        clear hl
        refine seqCps (fun σ H' => ∃ t : Str, σ = [some (.ref a), some (.bl b1), some (.bl b2), some (.ref pl), u4, u5, some (.str t)] ∧ t.length ≤ 2200 ∧ S4 t ∧ PathFits b1 b2 (tl t) ∧ Bg H' a ∧ Kp a H H') (fun Nx hN => ?_) ?_
        · unfold tIfS
          (try simp only [tNext, tFor_eq, cBl, tOp, tC, cI, cIc, cAdd, cVar, hEq, hNe, hIn, hNotIn, hLen, hSl, tM1, tBM, cT1, cT1f, cFind3, cSplit, cPart, rNewStrs, hIsS, hTru, tAsg, gName, gSub, tRet, tRetN, tCons, tNil, tTup, tLst, tCB, tNot, tAnd, tNotV, tAndV, tOrV, tOr, V.bl.injEq, V.int.injEq, V.str.injEq, exists_eq_left', exists_eq_left, exists_eq', true_and, and_true, cIsN, L2.start, gTup, gCons, gNil, nox_K, cx_K, tCallF, tSl, tPart, tNoPart, iEnum, RZ.iZipA, iRng1, iRng2, cAbs, List.map_cons, List.map_nil, List.length_cons, List.length_nil, List.replicate, List.cons_append, List.nil_append, List.getElem?_cons_zero, List.getElem?_cons_succ, List.getElem?_nil, List.set_cons_zero, List.set_cons_succ, Nat.reduceAdd, Nat.reduceSub, Nat.zero_add, if_true, if_false, reduceIte, reduceCtorEq, Bool.false_eq_true, decide_eq_true_eq, tDrop, cMin2, cJoin, iList, tDNewK, tLc_eq, iStr, wipe])
          cases b2
          · simp only [Bool.not_false, if_true]
            refine seqCps (fun σ H' => ∃ t : Str, σ = [some (.ref a), some (.bl b1), some (.bl false), some (.ref pl), u4, u5, some (.str t)] ∧ t.length ≤ 2100 ∧ S4 t ∧ (tl t).take 2 ≠ [47, 47] ∧ Bg H' a ∧ Kp a H H') (fun Nx hN => ?_) ?_
            · refine lp_while (fun σ H' => ∃ t : Str, σ = [some (.ref a), some (.bl b1), some (.bl false), some (.ref pl), u4, u5, some (.str t)] ∧ t.length ≤ 2100 ∧ S4 t ∧ Bg H' a ∧ Kp a H H') (fun σ _ => tlen σ[6]?) ⟨t, rfl, ht, hs, hb, hk⟩ ?_
              rintro σ H4 ⟨t, rfl, ht, hs, hb, hk⟩
              (try simp only [tSeq, tNext, tIfS, tFor_eq, cBl, tOp, tC, cI, cIc, cAdd, cVar, hEq, hNe, hIn, hNotIn, hLen, hSl, tM1, tBM, cT1, cT1f, cFind3, cSplit, cPart, rNewStrs, hIsS, hTru, tAsg, gName, gSub, tRet, tRetN, tCons, tNil, tTup, tLst, tCB, tNot, tAnd, tNotV, tAndV, tOrV, tOr, V.bl.injEq, V.int.injEq, V.str.injEq, exists_eq_left', exists_eq_left, exists_eq', true_and, and_true, cIsN, L2.start, gTup, gCons, gNil, nox_K, cx_K, tCallF, tSl, tPart, tNoPart, iEnum, RZ.iZipA, iRng1, iRng2, cAbs, List.map_cons, List.map_nil, List.length_cons, List.length_nil, List.replicate, List.cons_append, List.nil_append, List.getElem?_cons_zero, List.getElem?_cons_succ, List.getElem?_nil, List.set_cons_zero, List.set_cons_succ, Nat.reduceAdd, Nat.reduceSub, Nat.zero_add, if_true, if_false, reduceIte, reduceCtorEq, Bool.false_eq_true, decide_eq_true_eq, tDrop, cMin2, cJoin, iList, tDNewK, tLc_eq, iStr, wipe])
              refine ⟨by omega, ?_⟩
              have c2 := cut0 t 2
              have e472 : tl (Str.ofString "//") = [47, 47] := by decide +kernel
              split
              · rename_i he
                have hc := cutS_len t (some 1) none
                have h2 : 2 ≤ t.length := by
                  have := cutS_len t none (some 2)
                  rw [he] at this
                  exact this
                have h3 : (cutS t (some 1) none).length < t.length := cutS_lt h2
                have h47 : (tl t).take 2 = [47, 47] := by
                  rw [← c2, show (some ((2 : Nat) : Int)) = some (2 : Int) from rfl, he, e472]
                refine ⟨fun σ' H' => tlen σ'[6]? < t.length ∧ ∃ t : Str, σ' = [some (.ref a), some (.bl b1), some (.bl false), some (.ref pl), u4, u5, some (.str t)] ∧ t.length ≤ 2100 ∧ S4 t ∧ Bg H' a ∧ Kp a H H', fun σ' H' h => ⟨_, h.1, rfl, h.2⟩, by omega, h3, _, rfl, by omega, hs.cut1 h47, hb, hk⟩
              · rename_i he
                refine hN _ _ ⟨t, rfl, ht, hs, fun z => he ?_, hb, hk⟩
                exact TL.ext_tl (by rw [show (some (2 : Int)) = some ((2 : Nat) : Int) from rfl, c2, z, e472])
            · rintro σ H4 ⟨t, rfl, ht, hs, hn2, hb, hk⟩
              (try simp only [tSeq, tNext, tIfS, tFor_eq, cBl, tOp, tC, cI, cIc, cAdd, cVar, hEq, hNe, hIn, hNotIn, hLen, hSl, tM1, tBM, cT1, cT1f, cFind3, cSplit, cPart, rNewStrs, hIsS, hTru, tAsg, gName, gSub, tRet, tRetN, tCons, tNil, tTup, tLst, tCB, tNot, tAnd, tNotV, tAndV, tOrV, tOr, V.bl.injEq, V.int.injEq, V.str.injEq, exists_eq_left', exists_eq_left, exists_eq', true_and, and_true, cIsN, L2.start, gTup, gCons, gNil, nox_K, cx_K, tCallF, tSl, tPart, tNoPart, iEnum, RZ.iZipA, iRng1, iRng2, cAbs, List.map_cons, List.map_nil, List.length_cons, List.length_nil, List.replicate, List.cons_append, List.nil_append, List.getElem?_cons_zero, List.getElem?_cons_succ, List.getElem?_nil, List.set_cons_zero, List.set_cons_succ, Nat.reduceAdd, Nat.reduceSub, Nat.zero_add, if_true, if_false, reduceIte, reduceCtorEq, Bool.false_eq_true, decide_eq_true_eq, tDrop, cMin2, cJoin, iList, tDNewK, tLc_eq, iStr, wipe])
              cases b1
              · (try simp only [tSeq, tNext, tIfS, tFor_eq, cBl, tOp, tC, cI, cIc, cAdd, cVar, hEq, hNe, hIn, hNotIn, hLen, hSl, tM1, tBM, cT1, cT1f, cFind3, cSplit, cPart, rNewStrs, hIsS, hTru, tAsg, gName, gSub, tRet, tRetN, tCons, tNil, tTup, tLst, tCB, tNot, tAnd, tNotV, tAndV, tOrV, tOr, V.bl.injEq, V.int.injEq, V.str.injEq, exists_eq_left', exists_eq_left, exists_eq', true_and, and_true, cIsN, L2.start, gTup, gCons, gNil, nox_K, cx_K, tCallF, tSl, tPart, tNoPart, iEnum, RZ.iZipA, iRng1, iRng2, cAbs, List.map_cons, List.map_nil, List.length_cons, List.length_nil, List.replicate, List.cons_append, List.nil_append, List.getElem?_cons_zero, List.getElem?_cons_succ, List.getElem?_nil, List.set_cons_zero, List.set_cons_succ, Nat.reduceAdd, Nat.reduceSub, Nat.zero_add, if_true, if_false, reduceIte, reduceCtorEq, Bool.false_eq_true, decide_eq_true_eq, tDrop, cMin2, cJoin, iList, tDNewK, tLc_eq, iStr, wipe])
                simp only [Bool.not_false, if_true]
                refine ⟨rfl, by omega, fun p hp => ?_⟩
                have hsp := split_cut t 47 (by decide)
                rw [← slash_one] at hsp
                generalize Txt.split t (Str.ofString "/") = ys at *
                obtain ⟨z, zs, ez, ezt⟩ : ∃ z zs, ys = z :: zs ∧ tl z = bef 47 (tl t) := by
                  have := cut_head (tl t)
                  rw [← hsp] at this
                  cases ys with
                  | nil => cases this
                  | cons z zs => exact ⟨z, zs, rfl, Option.some.inj this⟩
                subst ez
                refine hIx_lit (v := .str z) upd_self (atI_zero _ _) ?_
                (try simp only [tSeq, tNext, tIfS, tFor_eq, cBl, tOp, tC, cI, cIc, cAdd, cVar, hEq, hNe, hIn, hNotIn, hLen, hSl, tM1, tBM, cT1, cT1f, cFind3, cSplit, cPart, rNewStrs, hIsS, hTru, tAsg, gName, gSub, tRet, tRetN, tCons, tNil, tTup, tLst, tCB, tNot, tAnd, tNotV, tAndV, tOrV, tOr, V.bl.injEq, V.int.injEq, V.str.injEq, exists_eq_left', exists_eq_left, exists_eq', true_and, and_true, cIsN, L2.start, gTup, gCons, gNil, nox_K, cx_K, tCallF, tSl, tPart, tNoPart, iEnum, RZ.iZipA, iRng1, iRng2, cAbs, List.map_cons, List.map_nil, List.length_cons, List.length_nil, List.replicate, List.cons_append, List.nil_append, List.getElem?_cons_zero, List.getElem?_cons_succ, List.getElem?_nil, List.set_cons_zero, List.set_cons_succ, Nat.reduceAdd, Nat.reduceSub, Nat.zero_add, if_true, if_false, reduceIte, reduceCtorEq, Bool.false_eq_true, decide_eq_true_eq, tDrop, cMin2, cJoin, iList, tDNewK, tLc_eq, iStr, wipe])
                rw [colon_one, isIn_one, ezt]
                cases hcc : (bef 47 (tl t)).contains 58 with
                | true =>
                  rw [if_pos rfl]
                  refine ⟨by omega, hN _ _ ⟨_, rfl, by rw [la]; omega, (S4.lit (by decide +kernel)).app hs, ⟨fun z => (nomatch z), fun _ => ?_⟩, hb.fresh hp, hk.fresh hp⟩⟩
                  have e : tl (Str.ofString "./" ++ t) = 46 :: 47 :: tl t := by rw [TL.tl_append, show tl (Str.ofString "./") = [46, 47] by decide +kernel]; rfl
                  rw [e]
                  refine ⟨fun z => by have := (List.cons.inj z).1; exact absurd this (by decide), fun _ => ?_⟩
                  rw [bef_miss (by decide), bef_hit]
                  decide
                | false =>
                  rw [if_neg (by decide)]
                  exact hN _ _ ⟨_, rfl, by omega, hs, ⟨fun z => (nomatch z), fun _ => ⟨hn2, fun _ => hcc⟩⟩, hb.fresh hp, hk.fresh hp⟩
              · (try simp only [tSeq, tNext, tIfS, tFor_eq, cBl, tOp, tC, cI, cIc, cAdd, cVar, hEq, hNe, hIn, hNotIn, hLen, hSl, tM1, tBM, cT1, cT1f, cFind3, cSplit, cPart, rNewStrs, hIsS, hTru, tAsg, gName, gSub, tRet, tRetN, tCons, tNil, tTup, tLst, tCB, tNot, tAnd, tNotV, tAndV, tOrV, tOr, V.bl.injEq, V.int.injEq, V.str.injEq, exists_eq_left', exists_eq_left, exists_eq', true_and, and_true, cIsN, L2.start, gTup, gCons, gNil, nox_K, cx_K, tCallF, tSl, tPart, tNoPart, iEnum, RZ.iZipA, iRng1, iRng2, cAbs, List.map_cons, List.map_nil, List.length_cons, List.length_nil, List.replicate, List.cons_append, List.nil_append, List.getElem?_cons_zero, List.getElem?_cons_succ, List.getElem?_nil, List.set_cons_zero, List.set_cons_succ, Nat.reduceAdd, Nat.reduceSub, Nat.zero_add, if_true, if_false, reduceIte, reduceCtorEq, Bool.false_eq_true, decide_eq_true_eq, tDrop, cMin2, cJoin, iList, tDNewK, tLc_eq, iStr, wipe])
                simp only [Bool.not_true, Bool.false_eq_true, if_false]
                exact hN _ _ ⟨_, rfl, by omega, hs, ⟨fun z => (nomatch z), fun _ => ⟨hn2, fun z => (nomatch z)⟩⟩, hb, hk⟩
          · simp only [Bool.not_true, Bool.false_eq_true, if_false]
            exact hN _ _ ⟨t, rfl, by omega, hs, ⟨hab, fun z => (nomatch z)⟩, hb, hk⟩
        · rintro σ H4 ⟨t, rfl, ht, hs, hf, hb, hk⟩
          (try simp only [tSeq, tNext, tIfS, tFor_eq, cBl, tOp, tC, cI, cIc, cAdd, cVar, hEq, hNe, hIn, hNotIn, hLen, hSl, tM1, tBM, cT1, cT1f, cFind3, cSplit, cPart, rNewStrs, hIsS, hTru, tAsg, gName, gSub, tRet, tRetN, tCons, tNil, tTup, tLst, tCB, tNot, tAnd, tNotV, tAndV, tOrV, tOr, V.bl.injEq, V.int.injEq, V.str.injEq, exists_eq_left', exists_eq_left, exists_eq', true_and, and_true, cIsN, L2.start, gTup, gCons, gNil, nox_K, cx_K, tCallF, tSl, tPart, tNoPart, iEnum, RZ.iZipA, iRng1, iRng2, cAbs, List.map_cons, List.map_nil, List.length_cons, List.length_nil, List.replicate, List.cons_append, List.nil_append, List.getElem?_cons_zero, List.getElem?_cons_succ, List.getElem?_nil, List.set_cons_zero, List.set_cons_succ, Nat.reduceAdd, Nat.reduceSub, Nat.zero_add, if_true, if_false, reduceIte, reduceCtorEq, Bool.false_eq_true, decide_eq_true_eq, tDrop, cMin2, cJoin, iList, tDNewK, tLc_eq, iStr, wipe])
          exact q _ _ (by omega) hs hf hb hk
end
/-- the parts of a URL -/
def spParts : Sp := fun vs H Q _ => match vs with
  | [.ref a] => Bg H a ∧ ∀ s u h g (l : Str) x f p H', (∀ v ∈ [s, u, h, g, .str l, x, f], PV v) → (oT x).length ≤ 200 → dueV [s, u, h, g, .str l, x, f] = none → Bg H' a → Kp a H H' → p ≠ a → H p = none → H' p = some (.lst [s, u, h, g, .str l, x, f]) → Q (.ref p) H'
  | _ => False
theorem auth_ok {H : Hp} {a : Addr} {Q : VK} {E : XK} (hb : Bg H a) (q : ∀ u h g p H', PVi 1 u → PVi 2 h → PVi 3 g → (h = .non → u = .non ∧ g = .non) → Bg H' a → Kp a H H' → p ≠ a → H p = none → H' p = some (.tup [u, h, g]) → Q (.ref p) H') : spAuth [.ref a] H Q E := ⟨hb, q⟩
theorem path_ok {H : Hp} {a : Addr} {b1 b2 : Bool} {Q : VK} {E : XK} (hb : Bg H a) (q : ∀ t : Str, ∀ H', t.length ≤ 3000 → S4 t → PathFits b1 b2 (tl t) → Bg H' a → Kp a H H' → Q (.str t) H') : spPath [.ref a, .bl b1, .bl b2] H Q E := ⟨hb, q⟩
theorem PVi.isP {i : Nat} {v : V} (h : PVi i v) (h4 : i ≠ 4) : isP i v = true := by
  rcases h with rfl | ⟨t, rfl, _, _, h⟩
  · exact decide_eq_true h4
  · exact Option.isNone_iff_eq_none.mpr h
theorem path_wP {l : T} (h : Nw (SI 4) l) : wP 4 l = none := by
  rw [wP_scan (.inr (.inr (.inl rfl))) (fun z => by cases z.1)]
  exact h 0
theorem due_none {s u h g x f : V} {l : Str} (h0 : PVi 0 s) (h1 : PVi 1 u) (h2 : PVi 2 h) (h3 : PVi 3 g) (h4 : wP 4 (tl l) = none) (h5 : PVi 5 x) (h6 : PVi 6 f) (hn : h = .non → u = .non ∧ g = .non) (hf : PathFits (!decide (s = .non)) (!decide (h = .non)) (tl l)) :
    dueV [s, u, h, g, .str l, x, f] = none := by
  have e4 : isP 4 (.str l) = true := Option.isNone_iff_eq_none.mpr h4
  unfold dueV
  have ed : dueF 0 [s, u, h, g, .str l, x, f] = none := by
    rw [dueF_cons, if_pos (h0.isP (by decide)), dueF_cons, if_pos (h1.isP (by decide)), dueF_cons, if_pos (h2.isP (by decide)), dueF_cons, if_pos (h3.isP (by decide)), dueF_cons, if_pos e4, dueF_cons, if_pos (h5.isP (by decide)), dueF_cons, if_pos (h6.isP (by decide))]
    rfl
  rw [ed]
  show (if isNo h = true ∧ isNo u = false then some ("user" : Str) else if isNo h = true ∧ isNo g = false then some ("port" : Str) else if poss (isNo s) (isNo h) (tl l) = false then some ("path" : Str) else none) = none
  rw [if_neg, if_neg, if_neg]
  · intro hp
    unfold poss at hp
    by_cases hh : h = .non
    · have i2 : isNo h = true := decide_eq_true hh
      rw [i2, if_neg (by decide)] at hp
      obtain ⟨f1, f2⟩ := hf.2 (by rw [decide_eq_true hh]; rfl)
      rw [if_neg f1] at hp
      by_cases hs : s = .non
      · have i0 : isNo s = true := decide_eq_true hs
        rw [i0, f2 (by rw [decide_eq_true hs]; rfl)] at hp
        cases hp
      · have i0 : isNo s = false := decide_eq_false hs
        rw [i0] at hp
        cases hp
    · have i2 : isNo h = false := decide_eq_false hh
      rw [i2, if_pos rfl] at hp
      rcases hf.1 (by rw [decide_eq_false hh]; rfl) with e | e
      · rw [e] at hp; cases hp
      · rw [decide_eq_true e, Bool.or_true] at hp; cases hp
  · rintro ⟨z1, z2⟩
    have := (hn (of_decide_eq_true z1)).2
    rw [this] at z2; cases z2
  · rintro ⟨z1, z2⟩
    have := (hn (of_decide_eq_true z1)).1
    rw [this] at z2; cases z2
section
variable {P : Program} {w : World} {K : PySem.W.Frag} {mg : Str → Option Value} {base : Heap}
theorem ok__law_parts (c : Ct w K mg) : OkF P w K mg base CX0 4 (He.ga K "_law_parts") ["bag"] (spParts) := by
  obtain ⟨fd, F⟩ := F__law_parts c
  refine ⟨fd, F.ok sc__law_parts (fun vs H Q E h => ?_) (fun cdv A outer s H vs Q E hr h => ⟨_, PSs.nox ((pss_cons (ps_set (i := 1) (sc__law_parts).nd rfl (Or.inl rfl) (hix (pe_lst (pa_cons pe_non (pa_cons pe_str (pa_cons pe_str (pa_cons pe_str (pa_cons pe_str (pa_cons pe_str pa_nil))))))) (pf (ok__law_take c) (hr.mono (by decide)) (g__law_take c) (k__law_take c) pass0 (pa_cons (cv 0) (pa_cons pe_int pa_nil))))) (pss_cons (ps_asg (pf (ok__law_authority c) (hr.mono (by decide)) (g__law_authority c) (k__law_authority c) pass0 (pa_cons (cv 0) pa_nil)) (pg_tup (n := 3) rfl (pgs_cons (pg_name (i := 2) (sc__law_parts).nd rfl (Or.inl rfl)) (pgs_cons (pg_name (i := 3) (sc__law_parts).nd rfl (Or.inl rfl)) (pgs_cons (pg_name (i := 4) (sc__law_parts).nd rfl (Or.inl rfl)) pgs_nil))))) (pss_cons (ps_set (i := 5) (sc__law_parts).nd rfl (Or.inl rfl) (pf (ok__law_path c) (hr.mono (by decide)) (g__law_path c) (k__law_path c) pass0 (pa_cons (cv 0) (pa_cons (pe_cmpR co_notN (cv 1) pe_non (by rfl)) (pa_cons (pe_cmpR co_notN (cv 3) pe_non (by rfl)) pa_nil))))) (pss_cons (ps_set (i := 6) (sc__law_parts).nd rfl (Or.inl rfl) (hix (pe_lst (pa_cons pe_non (pa_cons pe_str (pa_cons (pf (ok__law_word c) (hr.mono (by decide)) (g__law_word c) (k__law_word c) pass0 (pa_cons (cv 0) (pa_cons pe_str (pa_cons pe_int pa_nil)))) pa_nil)))) (pf (ok__law_take c) (hr.mono (by decide)) (g__law_take c) (k__law_take c) pass0 (pa_cons (cv 0) (pa_cons pe_int pa_nil))))) (pss_cons (ps_set (i := 7) (sc__law_parts).nd rfl (Or.inl rfl) (hix (pe_lst (pa_cons pe_non (pa_cons pe_str (pa_cons (pf (ok__law_word c) (hr.mono (by decide)) (g__law_word c) (k__law_word c) pass0 (pa_cons (cv 0) (pa_cons pe_str (pa_cons pe_int pa_nil)))) pa_nil)))) (pf (ok__law_take c) (hr.mono (by decide)) (g__law_take c) (k__law_take c) pass0 (pa_cons (cv 0) (pa_cons pe_int pa_nil))))) (pss_one (ps_ret (pe_lst (pa_cons (cv 1) (pa_cons (cv 2) (pa_cons (cv 3) (pa_cons (cv 4) (pa_cons (cv 5) (pa_cons (cv 6) (pa_cons (cv 7) pa_nil)))))))))))))))), ?_⟩), F.bindsN fun _ _ _ _ _ _ us hl => match us, hl with | [_], _ => rfl⟩
  · unfold spParts at h
    split at h
    · rfl
    · exact h.elim
  · unfold spParts at h
    split at h
    case h_2 => exact h.elim
    rename_i a
    obtain ⟨hb, q⟩ := h
    have sl := sl
    (try simp only [tSeq, tNext, tIfS, tFor_eq, cBl, tOp, tC, cI, cIc, cAdd, cVar, hEq, hNe, hIn, hNotIn, hLen, hSl, tM1, tBM, cT1, cT1f, cFind3, cSplit, cPart, rNewStrs, hIsS, hTru, tAsg, gName, gSub, tRet, tRetN, tCons, tNil, tTup, tLst, tCB, tNot, tAnd, tNotV, tAndV, tOrV, tOr, V.bl.injEq, V.int.injEq, V.str.injEq, exists_eq_left', exists_eq_left, exists_eq', true_and, and_true, cIsN, L2.start, gTup, gCons, gNil, nox_K, cx_K, tCallF, tSl, tPart, tNoPart, iEnum, RZ.iZipA, iRng1, iRng2, cAbs, List.map_cons, List.map_nil, List.length_cons, List.length_nil, List.replicate, List.cons_append, List.nil_append, List.getElem?_cons_zero, List.getElem?_cons_succ, List.getElem?_nil, List.set_cons_zero, List.set_cons_succ, Nat.reduceAdd, Nat.reduceSub, Nat.zero_add, if_true, if_false, reduceIte, reduceCtorEq, Bool.false_eq_true, decide_eq_true_eq, tDrop, cMin2, cJoin, iList, tDNewK, tLc_eq, iStr, wipe])
    refine ⟨by decide, fun p1 hp1 => ?_⟩
    refine take_ok (hb.fresh hp1) (by decide) (by decide) fun d H1 d0 d1 hb1 hk1 => ?_
    refine hIx_all (hk1 _ _ (hb.ne hp1) upd_self) d0 d1 fun v1 hv1 => ?_
    have hv1 : PVi 0 v1 := by
      simp only [List.mem_cons, List.not_mem_nil, or_false] at hv1
      rcases hv1 with rfl | rfl | rfl | rfl | rfl | rfl
      · exact .inl rfl
      all_goals exact .lit (by decide) (by rfl) (by decide +kernel)
    have hk : Kp a H H1 := (Kp.refl.fresh hp1).trans hk1
    (try simp only [tSeq, tNext, tIfS, tFor_eq, cBl, tOp, tC, cI, cIc, cAdd, cVar, hEq, hNe, hIn, hNotIn, hLen, hSl, tM1, tBM, cT1, cT1f, cFind3, cSplit, cPart, rNewStrs, hIsS, hTru, tAsg, gName, gSub, tRet, tRetN, tCons, tNil, tTup, tLst, tCB, tNot, tAnd, tNotV, tAndV, tOrV, tOr, V.bl.injEq, V.int.injEq, V.str.injEq, exists_eq_left', exists_eq_left, exists_eq', true_and, and_true, cIsN, L2.start, gTup, gCons, gNil, nox_K, cx_K, tCallF, tSl, tPart, tNoPart, iEnum, RZ.iZipA, iRng1, iRng2, cAbs, List.map_cons, List.map_nil, List.length_cons, List.length_nil, List.replicate, List.cons_append, List.nil_append, List.getElem?_cons_zero, List.getElem?_cons_succ, List.getElem?_nil, List.set_cons_zero, List.set_cons_succ, Nat.reduceAdd, Nat.reduceSub, Nat.zero_add, if_true, if_false, reduceIte, reduceCtorEq, Bool.false_eq_true, decide_eq_true_eq, tDrop, cMin2, cJoin, iList, tDNewK, tLc_eq, iStr, wipe])
    refine auth_ok hb1 fun u h g p2 H2 hu hh hg hno hb hk2 _ _ hp2 => ?_
    have hk := hk.trans hk2
    refine ⟨_, _, rfl, .inl (Rd.of hp2), rfl, _, _, rfl, _, _, rfl, _, _, rfl, rfl, ?_⟩
    (try simp only [tSeq, tNext, tIfS, tFor_eq, cBl, tOp, tC, cI, cIc, cAdd, cVar, hEq, hNe, hIn, hNotIn, hLen, hSl, tM1, tBM, cT1, cT1f, cFind3, cSplit, cPart, rNewStrs, hIsS, hTru, tAsg, gName, gSub, tRet, tRetN, tCons, tNil, tTup, tLst, tCB, tNot, tAnd, tNotV, tAndV, tOrV, tOr, V.bl.injEq, V.int.injEq, V.str.injEq, exists_eq_left', exists_eq_left, exists_eq', true_and, and_true, cIsN, L2.start, gTup, gCons, gNil, nox_K, cx_K, tCallF, tSl, tPart, tNoPart, iEnum, RZ.iZipA, iRng1, iRng2, cAbs, List.map_cons, List.map_nil, List.length_cons, List.length_nil, List.replicate, List.cons_append, List.nil_append, List.getElem?_cons_zero, List.getElem?_cons_succ, List.getElem?_nil, List.set_cons_zero, List.set_cons_succ, Nat.reduceAdd, Nat.reduceSub, Nat.zero_add, if_true, if_false, reduceIte, reduceCtorEq, Bool.false_eq_true, decide_eq_true_eq, tDrop, cMin2, cJoin, iList, tDNewK, tLc_eq, iStr, wipe])
    refine path_ok hb fun t1 H3 ht1 hs1 hf1 hb hk3 => ?_
    have hk := hk.trans hk3
    (try simp only [tSeq, tNext, tIfS, tFor_eq, cBl, tOp, tC, cI, cIc, cAdd, cVar, hEq, hNe, hIn, hNotIn, hLen, hSl, tM1, tBM, cT1, cT1f, cFind3, cSplit, cPart, rNewStrs, hIsS, hTru, tAsg, gName, gSub, tRet, tRetN, tCons, tNil, tTup, tLst, tCB, tNot, tAnd, tNotV, tAndV, tOrV, tOr, V.bl.injEq, V.int.injEq, V.str.injEq, exists_eq_left', exists_eq_left, exists_eq', true_and, and_true, cIsN, L2.start, gTup, gCons, gNil, nox_K, cx_K, tCallF, tSl, tPart, tNoPart, iEnum, RZ.iZipA, iRng1, iRng2, cAbs, List.map_cons, List.map_nil, List.length_cons, List.length_nil, List.replicate, List.cons_append, List.nil_append, List.getElem?_cons_zero, List.getElem?_cons_succ, List.getElem?_nil, List.set_cons_zero, List.set_cons_succ, Nat.reduceAdd, Nat.reduceSub, Nat.zero_add, if_true, if_false, reduceIte, reduceCtorEq, Bool.false_eq_true, decide_eq_true_eq, tDrop, cMin2, cJoin, iList, tDNewK, tLc_eq, iStr, wipe])
    refine word_ok hb (by decide) (by decide) (Sg.lit (by rfl)) (by decide +kernel) (by decide) (by decide) fun t2 H4 ht2 hs2 hva2 hb hk4 => ?_
    have hk := hk.trans hk4
    refine ⟨by decide, fun p3 hp3 => ?_⟩
    refine take_ok (hb.fresh hp3) (by decide) (by decide) fun d H5 d0 d1 hb5 hk5 => ?_
    refine hIx_all (hk5 _ _ (hb.ne hp3) upd_self) d0 d1 fun v3 hv3 => ?_
    have hq3 : (oT v3).length ≤ 200 := by
      simp only [List.mem_cons, List.not_mem_nil, or_false] at hv3
      rcases hv3 with rfl | rfl | rfl
      · exact Nat.zero_le _
      · decide
      · rw [oT_str, ← TL.len_tl]; exact ht2
    have hv3 : PVi 5 v3 := by
      simp only [List.mem_cons, List.not_mem_nil, or_false] at hv3
      rcases hv3 with rfl | rfl | rfl
      · exact .inl rfl
      · exact .lit (by decide) (by rfl) (by decide +kernel)
      · exact .word (by decide) (by omega) hs2 hva2 (by decide +kernel) (by decide +kernel)
    have hk := (hk.fresh hp3).trans hk5
    (try simp only [tSeq, tNext, tIfS, tFor_eq, cBl, tOp, tC, cI, cIc, cAdd, cVar, hEq, hNe, hIn, hNotIn, hLen, hSl, tM1, tBM, cT1, cT1f, cFind3, cSplit, cPart, rNewStrs, hIsS, hTru, tAsg, gName, gSub, tRet, tRetN, tCons, tNil, tTup, tLst, tCB, tNot, tAnd, tNotV, tAndV, tOrV, tOr, V.bl.injEq, V.int.injEq, V.str.injEq, exists_eq_left', exists_eq_left, exists_eq', true_and, and_true, cIsN, L2.start, gTup, gCons, gNil, nox_K, cx_K, tCallF, tSl, tPart, tNoPart, iEnum, RZ.iZipA, iRng1, iRng2, cAbs, List.map_cons, List.map_nil, List.length_cons, List.length_nil, List.replicate, List.cons_append, List.nil_append, List.getElem?_cons_zero, List.getElem?_cons_succ, List.getElem?_nil, List.set_cons_zero, List.set_cons_succ, Nat.reduceAdd, Nat.reduceSub, Nat.zero_add, if_true, if_false, reduceIte, reduceCtorEq, Bool.false_eq_true, decide_eq_true_eq, tDrop, cMin2, cJoin, iList, tDNewK, tLc_eq, iStr, wipe])
    refine word_ok hb5 (by decide) (by decide) (Sg.lit (by rfl)) (by decide +kernel) (by decide) (by decide) fun t3 H6 ht3 hs3 hva3 hb hk6 => ?_
    have hk := hk.trans hk6
    refine ⟨by decide, fun p4 hp4 => ?_⟩
    refine take_ok (hb.fresh hp4) (by decide) (by decide) fun d H7 d0 d1 hb7 hk7 => ?_
    refine hIx_all (hk7 _ _ (hb.ne hp4) upd_self) d0 d1 fun v4 hv4 => ?_
    have hv4 : PVi 6 v4 := by
      simp only [List.mem_cons, List.not_mem_nil, or_false] at hv4
      rcases hv4 with rfl | rfl | rfl
      · exact .inl rfl
      · exact .lit (by decide) (by rfl) (by decide +kernel)
      · exact .word (by decide) (by omega) hs3 hva3 (by decide +kernel) (by decide +kernel)
    have hk := (hk.fresh hp4).trans hk7
    (try simp only [tSeq, tNext, tIfS, tFor_eq, cBl, tOp, tC, cI, cIc, cAdd, cVar, hEq, hNe, hIn, hNotIn, hLen, hSl, tM1, tBM, cT1, cT1f, cFind3, cSplit, cPart, rNewStrs, hIsS, hTru, tAsg, gName, gSub, tRet, tRetN, tCons, tNil, tTup, tLst, tCB, tNot, tAnd, tNotV, tAndV, tOrV, tOr, V.bl.injEq, V.int.injEq, V.str.injEq, exists_eq_left', exists_eq_left, exists_eq', true_and, and_true, cIsN, L2.start, gTup, gCons, gNil, nox_K, cx_K, tCallF, tSl, tPart, tNoPart, iEnum, RZ.iZipA, iRng1, iRng2, cAbs, List.map_cons, List.map_nil, List.length_cons, List.length_nil, List.replicate, List.cons_append, List.nil_append, List.getElem?_cons_zero, List.getElem?_cons_succ, List.getElem?_nil, List.set_cons_zero, List.set_cons_succ, Nat.reduceAdd, Nat.reduceSub, Nat.zero_add, if_true, if_false, reduceIte, reduceCtorEq, Bool.false_eq_true, decide_eq_true_eq, tDrop, cMin2, cJoin, iList, tDNewK, tLc_eq, iStr, wipe])
    refine ⟨by decide, fun p5 hp5 => ?_⟩
    refine q _ _ _ _ _ _ _ _ _ (fun v hv => ?_) hq3 (due_none hv1 hu hh hg (path_wP hs1.2) hv3 hv4 hno ?_) (hb7.fresh hp5) (hk.fresh hp5) (hb7.ne hp5) (hk.none (hb7.ne hp5) hp5) upd_self
    · simp only [List.mem_cons, List.not_mem_nil, or_false] at hv
      rcases hv with rfl | rfl | rfl | rfl | rfl | rfl | rfl
      · exact hv1.pv
      · exact hu.pv
      · exact hh.pv
      · exact hg.pv
      · exact .inr ⟨_, rfl, ht1, hs1.1⟩
      · exact hv3.pv
      · exact hv4.pv
    · exact hf1
end
end Da
set_option Elab.async false
set_option linter.all false
set_option maxRecDepth 100000
set_option maxHeartbeats 4000000
namespace Da
open PySem PySem.Spec PyProof.Rows L2 Hd Xs Fx Mi ClX Xr
open TL (tl)
/-! ### the law's text of parts -/
def spText (K : PySem.W.Frag) : Sp := fun vs H Q _ => match vs with
  | [.ref a] => ∃ s u h g l x f, H a = some (.lst [s, u, h, g, .str l, x, f]) ∧ (∀ v ∈ [s, u, h, g, .str l, x, f], PV v) ∧ (h = .non → u = .non ∧ g = .non) ∧ ∀ z : Str, tl z = txtV [s, u, h, g, .str l, x, f] → Q (.str z) H
  | _ => False
theorem if_post {K : PySem.W.Frag} {i : Nat} {v : V} {σ : L2.St} {H : Hp} {Q : VK} {lit : Str} (hσ : σ[i]? = some (some v)) (pv : PV v) (hl : lit.length ≤ 2) (q : ∀ z : Str, tl z = (if isNo v = true then [] else oT v ++ tl lit) → z.length ≤ 3002 → Q (.str z) H) :
    tIf (cBl (tOp (cIsN false) (cVar i) (tC .non))) (tC (.str (Str.ofString ""))) (tOp (cAdd K) (cVar i) (tC (.str lit))) σ H Q := by
  have sl := sl
  unfold tIf cBl tOp cVar tC cIsN cAdd
  rw [hσ]
  rcases pv with rfl | ⟨t, rfl, ht, _⟩
  · simp only [decide_true, if_true, Bool.false_eq_true, if_false]
    exact q _ (by rw [if_pos (show isNo V.non = true from rfl)]; decide +kernel) (by decide)
  · have e : decide (V.str t = V.non) = false := rfl
    simp only [e, Bool.false_eq_true, if_false]
    refine ⟨by omega, q _ ?_ (by rw [la]; omega)⟩
    rw [if_neg (show ¬ isNo (V.str t) = true from Bool.false_ne_true), TL.tl_append]
    rfl
theorem if_pre {K : PySem.W.Frag} {i : Nat} {v : V} {σ : L2.St} {H : Hp} {Q : VK} {lit : Str} (hσ : σ[i]? = some (some v)) (pv : PV v) (hl : lit.length ≤ 2) (q : ∀ z : Str, tl z = (if isNo v = true then [] else tl lit ++ oT v) → z.length ≤ 3002 → Q (.str z) H) :
    tIf (cBl (tOp (cIsN false) (cVar i) (tC .non))) (tC (.str (Str.ofString ""))) (tOp (cAdd K) (tC (.str lit)) (cVar i)) σ H Q := by
  have sl := sl
  unfold tIf cBl tOp cVar tC cIsN cAdd
  rw [hσ]
  rcases pv with rfl | ⟨t, rfl, ht, _⟩
  · simp only [decide_true, if_true, Bool.false_eq_true, if_false]
    exact q _ (by rw [if_pos (show isNo V.non = true from rfl)]; decide +kernel) (by decide)
  · have e : decide (V.str t = V.non) = false := rfl
    simp only [e, Bool.false_eq_true, if_false]
    refine ⟨by omega, q _ ?_ (by rw [la]; omega)⟩
    rw [if_neg (show ¬ isNo (V.str t) = true from Bool.false_ne_true), TL.tl_append]
    rfl
section
variable {P : Program} {w : World} {K : PySem.W.Frag} {mg : Str → Option Value} {base : Heap}
theorem ok__law_text (c : Ct w K mg) : OkF P w K mg base CX0 1 (He.ga K "_law_text") ["parts"] (spText K) := by
  obtain ⟨fd, F⟩ := F__law_text c
  refine ⟨fd, F.ok sc__law_text (fun vs H Q E h => ?_) (fun cdv A outer s H vs Q E hr h => ⟨_, PSs.nox ((pss_cons (ps_asg (cv 0) (pg_lst (n := 7) rfl (pgs_cons (pg_name (i := 1) (sc__law_text).nd rfl (Or.inl rfl)) (pgs_cons (pg_name (i := 2) (sc__law_text).nd rfl (Or.inl rfl)) (pgs_cons (pg_name (i := 3) (sc__law_text).nd rfl (Or.inl rfl)) (pgs_cons (pg_name (i := 4) (sc__law_text).nd rfl (Or.inl rfl)) (pgs_cons (pg_name (i := 5) (sc__law_text).nd rfl (Or.inl rfl)) (pgs_cons (pg_name (i := 6) (sc__law_text).nd rfl (Or.inl rfl)) (pgs_cons (pg_name (i := 7) (sc__law_text).nd rfl (Or.inl rfl)) pgs_nil))))))))) (pss_cons (ps_set (i := 8) (sc__law_text).nd rfl (Or.inl rfl) (pe_ifExp (ctc co_isN (cv 1) pe_non (by rfl)) pe_str (pe_op co_add (cv 1) pe_str))) (pss_cons (ps_if (ctc co_notN (cv 3) pe_non (by rfl)) (pss_one (ps_set (i := 8) (sc__law_text).nd rfl (Or.inl rfl) (pe_op co_add (pe_op co_add (pe_op co_add (pe_op co_add (cv 8) pe_str) (pe_ifExp (ctc co_isN (cv 2) pe_non (by rfl)) pe_str (pe_op co_add (cv 2) pe_str))) (cv 3)) (pe_ifExp (ctc co_isN (cv 4) pe_non (by rfl)) pe_str (pe_op co_add pe_str (cv 4)))))) pss_nil) (pss_one (ps_ret (pe_op co_add (pe_op co_add (pe_op co_add (cv 8) (cv 5)) (pe_ifExp (ctc co_isN (cv 6) pe_non (by rfl)) pe_str (pe_op co_add pe_str (cv 6)))) (pe_ifExp (ctc co_isN (cv 7) pe_non (by rfl)) pe_str (pe_op co_add pe_str (cv 7)))))))))), ?_⟩), F.bindsN fun _ _ _ _ _ _ us hl => match us, hl with | [_], _ => rfl⟩
  · unfold spText at h
    split at h
    · rfl
    · exact h.elim
  · unfold spText at h
    split at h
    case h_2 => exact h.elim
    rename_i a
    obtain ⟨s0, u, h, g, l, x, f, ha, hP, hno, q⟩ := h
    have sl := sl
    have ps := hP s0 (.head _)
    have pu := hP u (.tail _ (.head _))
    have ph := hP h (.tail _ (.tail _ (.head _)))
    have pg := hP g (.tail _ (.tail _ (.tail _ (.head _))))
    have pl := hP (.str l) (.tail _ (.tail _ (.tail _ (.tail _ (.head _)))))
    have px := hP x (.tail _ (.tail _ (.tail _ (.tail _ (.tail _ (.head _))))))
    have pf := hP f (.tail _ (.tail _ (.tail _ (.tail _ (.tail _ (.tail _ (.head _)))))))
    have hll : l.length ≤ 3000 := by
      have := pl.len
      rw [TL.len_tl]; exact this
    have e58 : tl (Str.ofString ":") = [58] := by decide +kernel
    have e64 : tl (Str.ofString "@") = [64] := by decide +kernel
    have e63 : tl (Str.ofString "?") = [63] := by decide +kernel
    have e35 : tl (Str.ofString "#") = [35] := by decide +kernel
    have e472 : tl (Str.ofString "//") = [47, 47] := by decide +kernel
    have e0 : tl (Str.ofString "") = [] := by decide +kernel
    have n58 : (Str.ofString ":").length = 1 := rfl
    have n64 : (Str.ofString "@").length = 1 := rfl
    have n63 : (Str.ofString "?").length = 1 := rfl
    have n35 : (Str.ofString "#").length = 1 := rfl
    have n47 : (Str.ofString "//").length = 2 := rfl
    have n0 : (Str.ofString "").length = 0 := rfl
    have ene : ∀ t : Str, ¬ V.str t = V.non := fun t z => nomatch z
    refine seqStep ?_
    (try simp only [tNext, tFor_eq, cBl, tOp, tC, cI, cIc, cAdd, cVar, hEq, hNe, hIn, hNotIn, hLen, hSl, tM1, tBM, cT1, cT1f, cFind3, cSplit, cPart, rNewStrs, hIsS, hTru, tAsg, gName, gSub, tRet, tRetN, tCons, tNil, tTup, tLst, tCB, tNot, tAnd, tNotV, tAndV, tOrV, tOr, V.bl.injEq, V.int.injEq, V.str.injEq, exists_eq_left', exists_eq_left, exists_eq', true_and, and_true, cIsN, L2.start, gTup, gCons, gNil, nox_K, cx_K, tCallF, tSl, tPart, tNoPart, iEnum, RZ.iZipA, iRng1, iRng2, cAbs, List.map_cons, List.map_nil, List.length_cons, List.length_nil, List.replicate, List.cons_append, List.nil_append, List.getElem?_cons_zero, List.getElem?_cons_succ, List.getElem?_nil, List.set_cons_zero, List.set_cons_succ, Nat.reduceAdd, Nat.reduceSub, Nat.zero_add, if_true, if_false, reduceIte, reduceCtorEq, Bool.false_eq_true, decide_eq_true_eq, tDrop, cMin2, cJoin, iList, tDNewK, tLc_eq, iStr, wipe])
    unfold gLst
    (try simp only [tNext, tFor_eq, cBl, tOp, tC, cI, cIc, cAdd, cVar, hEq, hNe, hIn, hNotIn, hLen, hSl, tM1, tBM, cT1, cT1f, cFind3, cSplit, cPart, rNewStrs, hIsS, hTru, tAsg, gName, gSub, tRet, tRetN, tCons, tNil, tTup, tLst, tCB, tNot, tAnd, tNotV, tAndV, tOrV, tOr, V.bl.injEq, V.int.injEq, V.str.injEq, exists_eq_left', exists_eq_left, exists_eq', true_and, and_true, cIsN, L2.start, gTup, gCons, gNil, nox_K, cx_K, tCallF, tSl, tPart, tNoPart, iEnum, RZ.iZipA, iRng1, iRng2, cAbs, List.map_cons, List.map_nil, List.length_cons, List.length_nil, List.replicate, List.cons_append, List.nil_append, List.getElem?_cons_zero, List.getElem?_cons_succ, List.getElem?_nil, List.set_cons_zero, List.set_cons_succ, Nat.reduceAdd, Nat.reduceSub, Nat.zero_add, if_true, if_false, reduceIte, reduceCtorEq, Bool.false_eq_true, decide_eq_true_eq, tDrop, cMin2, cJoin, iList, tDNewK, tLc_eq, iStr, wipe])
    refine ⟨_, _, rfl, .inl (Rd.of ha), rfl, _, _, rfl, _, _, rfl, _, _, rfl, _, _, rfl, _, _, rfl, _, _, rfl, _, _, rfl, rfl, ?_⟩
    refine seqStep ?_
    unfold tAsg gName
    refine if_post rfl ps (by decide) fun z1 hz1 hl1 => ?_
    simp only [List.set_cons_zero, List.set_cons_succ]
    have fin : ∀ z : Str, tl z = (if isNo s0 = true then [] else oT s0 ++ [58]) ++ ((if isNo h = true then [] else [47, 47]) ++ ((if isNo u = true then [] else oT u ++ [64]) ++ ((if isNo h = true then [] else oT h) ++ (if isNo g = true then [] else [58] ++ oT g)))) → z.length ≤ 20000 →
        tRet (tOp (cAdd K) (tOp (cAdd K) (tOp (cAdd K) (cVar 8) (cVar 5)) (tIf (cBl (tOp (cIsN false) (cVar 6) (tC V.non))) (tC (V.str (Str.ofString ""))) (tOp (cAdd K) (tC (V.str (Str.ofString "?"))) (cVar 6)))) (tIf (cBl (tOp (cIsN false) (cVar 7) (tC V.non))) (tC (V.str (Str.ofString ""))) (tOp (cAdd K) (tC (V.str (Str.ofString "#"))) (cVar 7))))
          { nx := fun _ H' => Q V.non H', rt := Q } [some (V.ref a), some s0, some u, some h, some g, some (V.str l), some x, some f, some (.str z)] H := by
      intro z hz hzl
      have h1 : ∀ Q : VK, (∀ y : Str, tl y = (if isNo x = true then [] else tl (Str.ofString "?") ++ oT x) → y.length ≤ 3002 → Q (.str y) H) → tIf (cBl (tOp (cIsN false) (cVar 6) (tC V.non))) (tC (V.str (Str.ofString ""))) (tOp (cAdd K) (tC (V.str (Str.ofString "?"))) (cVar 6)) [some (V.ref a), some s0, some u, some h, some g, some (V.str l), some x, some f, some (.str z)] H Q := fun Q q => if_pre rfl px (by decide) q
      have h2 : ∀ Q : VK, (∀ y : Str, tl y = (if isNo f = true then [] else tl (Str.ofString "#") ++ oT f) → y.length ≤ 3002 → Q (.str y) H) → tIf (cBl (tOp (cIsN false) (cVar 7) (tC V.non))) (tC (V.str (Str.ofString ""))) (tOp (cAdd K) (tC (V.str (Str.ofString "#"))) (cVar 7)) [some (V.ref a), some s0, some u, some h, some g, some (V.str l), some x, some f, some (.str z)] H Q := fun Q q => if_pre rfl pf (by decide) q
      generalize tIf (cBl (tOp (cIsN false) (cVar 6) (tC V.non))) (tC (V.str (Str.ofString ""))) (tOp (cAdd K) (tC (V.str (Str.ofString "?"))) (cVar 6)) = t1 at *
      generalize tIf (cBl (tOp (cIsN false) (cVar 7) (tC V.non))) (tC (V.str (Str.ofString ""))) (tOp (cAdd K) (tC (V.str (Str.ofString "#"))) (cVar 7)) = t2 at *
      (try simp only [tSeq, tNext, tIfS, tFor_eq, cBl, tOp, tC, cI, cIc, cAdd, cVar, hEq, hNe, hIn, hNotIn, hLen, hSl, tM1, tBM, cT1, cT1f, cFind3, cSplit, cPart, rNewStrs, hIsS, hTru, tAsg, gName, gSub, tRet, tRetN, tCons, tNil, tTup, tLst, tCB, tNot, tAnd, tNotV, tAndV, tOrV, tOr, V.bl.injEq, V.int.injEq, V.str.injEq, exists_eq_left', exists_eq_left, exists_eq', true_and, and_true, cIsN, L2.start, gTup, gCons, gNil, nox_K, cx_K, tCallF, tSl, tPart, tNoPart, iEnum, RZ.iZipA, iRng1, iRng2, cAbs, List.map_cons, List.map_nil, List.length_cons, List.length_nil, List.replicate, List.cons_append, List.nil_append, List.getElem?_cons_zero, List.getElem?_cons_succ, List.getElem?_nil, List.set_cons_zero, List.set_cons_succ, Nat.reduceAdd, Nat.reduceSub, Nat.zero_add, if_true, if_false, reduceIte, reduceCtorEq, Bool.false_eq_true, decide_eq_true_eq, tDrop, cMin2, cJoin, iList, tDNewK, tLc_eq, iStr, wipe])
      refine ⟨by omega, h1 _ fun y1 hy1 hy1l => ?_⟩
      dsimp only
      refine ⟨by rw [la]; omega, h2 _ fun y2 hy2 hy2l => ?_⟩
      dsimp only
      refine ⟨by rw [la, la]; omega, q _ ?_⟩
      rw [TL.tl_append, TL.tl_append, TL.tl_append, hz, hy1, hy2, e63, e35]
      simp only [txtV, oT_str, List.append_assoc]
    rw [e58] at hz1
    refine seqCps (fun σ H' => ∃ z : Str, σ = [some (V.ref a), some s0, some u, some h, some g, some (V.str l), some x, some f, some (.str z)] ∧ H' = H ∧ tl z = (if isNo s0 = true then [] else oT s0 ++ [58]) ++ ((if isNo h = true then [] else [47, 47]) ++ ((if isNo u = true then [] else oT u ++ [64]) ++ ((if isNo h = true then [] else oT h) ++ (if isNo g = true then [] else [58] ++ oT g)))) ∧ z.length ≤ 20000) (fun Nx hN => ?_) ?_
    · have h1 : ∀ Q : VK, (∀ y : Str, tl y = (if isNo u = true then [] else oT u ++ tl (Str.ofString "@")) → y.length ≤ 3002 → Q (.str y) H) → tIf (cBl (tOp (cIsN false) (cVar 2) (tC V.non))) (tC (V.str (Str.ofString ""))) (tOp (cAdd K) (cVar 2) (tC (V.str (Str.ofString "@")))) [some (V.ref a), some s0, some u, some h, some g, some (V.str l), some x, some f, some (.str z1)] H Q := fun Q q => if_post rfl pu (by decide) q
      have h2 : ∀ Q : VK, (∀ y : Str, tl y = (if isNo g = true then [] else tl (Str.ofString ":") ++ oT g) → y.length ≤ 3002 → Q (.str y) H) → tIf (cBl (tOp (cIsN false) (cVar 4) (tC V.non))) (tC (V.str (Str.ofString ""))) (tOp (cAdd K) (tC (V.str (Str.ofString ":"))) (cVar 4)) [some (V.ref a), some s0, some u, some h, some g, some (V.str l), some x, some f, some (.str z1)] H Q := fun Q q => if_pre rfl pg (by decide) q
      generalize tIf (cBl (tOp (cIsN false) (cVar 2) (tC V.non))) (tC (V.str (Str.ofString ""))) (tOp (cAdd K) (cVar 2) (tC (V.str (Str.ofString "@")))) = t1 at *
      generalize tIf (cBl (tOp (cIsN false) (cVar 4) (tC V.non))) (tC (V.str (Str.ofString ""))) (tOp (cAdd K) (tC (V.str (Str.ofString ":"))) (cVar 4)) = t2 at *
      unfold tIfS
      (try simp only [tNext, tFor_eq, cBl, tOp, tC, cI, cIc, cAdd, cVar, hEq, hNe, hIn, hNotIn, hLen, hSl, tM1, tBM, cT1, cT1f, cFind3, cSplit, cPart, rNewStrs, hIsS, hTru, tAsg, gName, gSub, tRet, tRetN, tCons, tNil, tTup, tLst, tCB, tNot, tAnd, tNotV, tAndV, tOrV, tOr, V.bl.injEq, V.int.injEq, V.str.injEq, exists_eq_left', exists_eq_left, exists_eq', true_and, and_true, cIsN, L2.start, gTup, gCons, gNil, nox_K, cx_K, tCallF, tSl, tPart, tNoPart, iEnum, RZ.iZipA, iRng1, iRng2, cAbs, List.map_cons, List.map_nil, List.length_cons, List.length_nil, List.replicate, List.cons_append, List.nil_append, List.getElem?_cons_zero, List.getElem?_cons_succ, List.getElem?_nil, List.set_cons_zero, List.set_cons_succ, Nat.reduceAdd, Nat.reduceSub, Nat.zero_add, if_true, if_false, reduceIte, reduceCtorEq, Bool.false_eq_true, decide_eq_true_eq, tDrop, cMin2, cJoin, iList, tDNewK, tLc_eq, iStr, wipe])
      rcases ph with hh | ⟨th, hh, htl, _⟩
      · subst hh
        obtain ⟨rfl, rfl⟩ := hno rfl
        simp only [decide_true, Bool.not_true, Bool.false_eq_true, if_false]
        refine hN _ _ ⟨z1, rfl, rfl, ?_, by omega⟩
        rw [hz1]
        simp only [show isNo V.non = true from rfl, if_true, List.append_nil]
      · subst hh
        simp only [show decide (V.str th = V.non) = false from rfl, Bool.not_false, if_true]
        refine ⟨by omega, h1 _ fun y1 hy1 hy1l => ?_⟩
        dsimp only
        refine ⟨by rw [la]; omega, by rw [la, la]; omega, h2 _ fun y2 hy2 hy2l => ?_⟩
        dsimp only
        refine ⟨by rw [la, la, la]; omega, hN _ _ ⟨_, rfl, rfl, ?_, by rw [la, la, la, la]; omega⟩⟩
        rw [TL.tl_append, TL.tl_append, TL.tl_append, TL.tl_append, hz1, hy1, hy2, e472, e58, e64]
        simp only [show isNo (V.str th) = false from rfl, Bool.false_eq_true, if_false, oT_str, List.append_assoc]
    · rintro σ H' ⟨z, rfl, rfl, hz, hzl⟩
      exact fin z hz hzl
end
end Da
set_option Elab.async false
set_option linter.all false
set_option maxRecDepth 100000
set_option maxHeartbeats 4000000
namespace Da
open PySem PySem.Spec PyProof.Rows L2 Hd Xs Fx Mi ClX Xr
open TL (tl)
/-- the text of an instance, as a promise -/
def spStrI (K : PySem.W.Frag) : Sp := fun vs H Q _ => match vs with
  | [.ref a] => ∃ v0 v1 v2 v3 l v5 v6, UrlAt K H a [v0, v1, v2, v3, .str l, v5, v6] ∧ (∀ v ∈ [v0, v1, v2, v3, .str l, v5, v6], PV v) ∧ ∀ z H', Ext H H' → tl z = txtV [v0, v1, v2, v3, .str l, v5, v6] → Q (.str z) H'
  | _ => False
theorem len_ok {l : Str} (h : PV (.str l)) : l.length ≤ (100000 : Nat) := by
  have := h.len
  rw [TL.len_tl]
  have e : oT (.str l) = tl l := rfl
  rw [e] at this
  omega
theorem str_of {K : PySem.W.Frag} {a : Addr} {v0 v1 v2 v3 v5 v6 : V} {l : Str} {H : Hp} {Q2 : VK} (hu : UrlAt K H a [v0, v1, v2, v3, .str l, v5, v6]) (hA : ∀ v ∈ [v0, v1, v2, v3, .str l, v5, v6], PV v) (k : ∀ z H', Ext H H' → tl z = txtV [v0, v1, v2, v3, .str l, v5, v6] → Q2 (.str z) H') :
    SpIns (uC K) (spStr K) isStrV [.ref a] H Q2 := by
  obtain ⟨dx, Ta, hu1, hT⟩ := id hu
  exact ⟨a, dx, _, rfl, hu1, v0, v1, v2, v3, l, v5, v6, hu, (hA v0 (.head _)).good, (hA v1 (.tail _ (.head _))).good, (hA v2 (.tail _ (.tail _ (.head _)))).good, (hA v3 (.tail _ (.tail _ (.tail _ (.head _))))).good, len_ok (hA (.str l) (.tail _ (.tail _ (.tail _ (.tail _ (.head _)))))),
    (hA v5 (.tail _ (.tail _ (.tail _ (.tail _ (.tail _ (.head _))))))).good, (hA v6 (.tail _ (.tail _ (.tail _ (.tail _ (.tail _ (.tail _ (.head _)))))))).good, fun z H2 he2 hz => ⟨⟨z, rfl⟩, k z H2 he2 hz⟩⟩
def spLen (K : PySem.W.Frag) : Sp := fun vs H Q _ => match vs with
  | [.ref a] => ∃ v0 v1 v2 v3 l v5 v6, UrlAt K H a [v0, v1, v2, v3, .str l, v5, v6] ∧ (∀ v ∈ [v0, v1, v2, v3, .str l, v5, v6], PV v) ∧ ∀ H', Ext H H' → Q (.int ((txtV [v0, v1, v2, v3, .str l, v5, v6]).length : Nat)) H'
  | _ => False
/-- a text of signs below 256, by its codes -/
def SgT (l : T) : Prop := ∀ c ∈ l, c < 256
def spRepr (K : PySem.W.Frag) : Sp := fun vs H Q _ => match vs with
  | [.ref a] => ∃ v0 v1 v2 v3 l v5 v6, UrlAt K H a [v0, v1, v2, v3, .str l, v5, v6] ∧ (∀ v ∈ [v0, v1, v2, v3, .str l, v5, v6], PV v) ∧ ∀ z H', Ext H H' → tl z = txtV [v0, v1, v2, v3, .str l, v5, v6] → Q (.str (Str.ofString "Url(" ++ reprText z ++ Str.ofString ")")) H'
  | _ => False
theorem sg_ite {b : Bool} {x : T} (h : SgT x) : SgT (if b = true then [] else x) := by
  cases b with
  | true => exact fun c hc => nomatch hc
  | false => exact h
theorem sg_app {a b : T} (h : SgT a) (h' : SgT b) : SgT (a ++ b) := fun c hc => (List.mem_append.mp hc).elim (h c) (h' c)
theorem PV.sg {v : V} (h : PV v) : SgT (oT v) := by
  rcases h with rfl | ⟨t, rfl, _, h⟩
  · exact fun c hc => nomatch hc
  · exact h
theorem txt_sg {s u h p l q f : V} (h0 : PV s) (h1 : PV u) (h2 : PV h) (h3 : PV p) (h4 : PV l) (h5 : PV q) (h6 : PV f) : SgT (txtV [s, u, h, p, l, q, f]) := by
  have one : ∀ n, n < 256 → SgT [n] := fun n hn c hc => by rw [List.mem_singleton.mp hc]; exact hn
  have two : SgT [47, 47] := fun c hc => by
    simp only [List.mem_cons, List.not_mem_nil, or_false] at hc
    omega
  exact sg_app (sg_ite (sg_app h0.sg (one 58 (by decide)))) (sg_app (sg_ite two) (sg_app (sg_ite (sg_app h1.sg (one 64 (by decide)))) (sg_app (sg_ite h2.sg) (sg_app (sg_ite (sg_app (one 58 (by decide)) h3.sg)) (sg_app h4.sg (sg_app (sg_ite (sg_app (one 63 (by decide)) h5.sg)) (sg_ite (sg_app (one 35 (by decide)) h6.sg))))))))
/-- the written text: its length, its representation's -/
structure TxtOk (z : Str) : Prop where
  len : z.length ≤ 30000
  sg : Sg z
  rep : (reprText z).length ≤ 300002
theorem txt_ok {v0 v1 v2 v3 v5 v6 : V} {l z : Str} (hA : ∀ v ∈ [v0, v1, v2, v3, .str l, v5, v6], PV v) (hz : tl z = txtV [v0, v1, v2, v3, .str l, v5, v6]) : TxtOk z := by
  have p0 := hA v0 (.head _)
  have p1 := hA v1 (.tail _ (.head _))
  have p2 := hA v2 (.tail _ (.tail _ (.head _)))
  have p3 := hA v3 (.tail _ (.tail _ (.tail _ (.head _))))
  have p4 := hA (.str l) (.tail _ (.tail _ (.tail _ (.tail _ (.head _)))))
  have p5 := hA v5 (.tail _ (.tail _ (.tail _ (.tail _ (.tail _ (.head _))))))
  have p6 := hA v6 (.tail _ (.tail _ (.tail _ (.tail _ (.tail _ (.tail _ (.head _)))))))
  have hl := txt_len p0 p1 p2 p3 p4 p5 p6
  have hs := txt_sg p0 p1 p2 p3 p4 p5 p6
  rw [← hz] at hl hs
  have hzl : z.length ≤ 30000 := by rw [TL.len_tl]; exact hl
  have hr := PySem.StrLaws.reprText_len z fun c hc => Nat.lt_trans (hs c hc) (by decide)
  exact ⟨hzl, hs, by omega⟩
/-! ### two URLs -/
theorem eqv_toD {a b : V} (ha : PV a) (hb : PV b) : PyData.eqv (toD a) (toD b) = decide (a = b) := by
  rcases ha with rfl | ⟨s, rfl, _, _⟩ <;> rcases hb with rfl | ⟨t, rfl, _, _⟩
  · simp only [toD, PyData.eqv]; rfl
  · simp only [toD, PyData.eqv]; rfl
  · simp only [toD, PyData.eqv]; rfl
  · simp only [toD, PyData.eqv]
    have : (V.str s = V.str t) ↔ s = t := ⟨fun z => V.str.inj z, fun z => by rw [z]⟩
    rw [decide_eq_decide.mpr this]
    rfl
theorem eqvAll_toD : ∀ {as bs : List V}, (∀ v ∈ as, PV v) → (∀ v ∈ bs, PV v) → PyData.eqvAll (as.map toD) (bs.map toD) = decide (as = bs)
  | [], [], _, _ => by simp only [List.map_nil, PyData.eqvAll]; rfl
  | [], b :: bs, _, _ => by simp only [List.map_nil, List.map_cons, PyData.eqvAll]; rfl
  | a :: as, [], _, _ => by simp only [List.map_nil, List.map_cons, PyData.eqvAll]; rfl
  | a :: as, b :: bs, ha, hb => by
    have ih := eqvAll_toD (as := as) (bs := bs) (fun v hv => ha v (List.mem_cons_of_mem _ hv)) (fun v hv => hb v (List.mem_cons_of_mem _ hv))
    simp only [List.map_cons, PyData.eqvAll]
    rw [ih, eqv_toD (ha a (List.mem_cons_self ..)) (hb b (List.mem_cons_self ..))]
    rw [Bool.eq_iff_iff]
    simp
theorem shPt {vs : List V} (h : ∀ v ∈ vs, PV v) : SeqAt.shaped (.tuple (vs.map toD)) = true := by
  obtain ⟨h1, h2⟩ := canP h
  unfold SeqAt.shaped
  rw [Bool.and_eq_true]
  refine ⟨by simp only [PyData.canLay0]; exact h1, decide_eq_true ?_⟩
  simp only [PyData.depth]
  omega
theorem cEq_tup {K : PySem.W.Frag} {H : Hp} {p q : Addr} {vs ws : List V} {Q : VK} (hp : H p = some (.tup vs)) (hq : H q = some (.tup ws)) (h : ∀ v ∈ vs, PV v) (h' : ∀ v ∈ ws, PV v) (k : Q (.bl (decide (vs = ws))) H) : cEq K false (.ref p) (.ref q) H Q := by
  refine ⟨_, _, .tup (.inl (Rd.of hp)) (dpAllP h), .tup (.inl (Rd.of hq)) (dpAllP h'), shPt h, shPt h', ?_⟩
  have e : PyData.eqv (.tuple (vs.map toD)) (.tuple (ws.map toD)) = decide (vs = ws) := by
    simp only [PyData.eqv]
    exact eqvAll_toD h h'
  rw [e]
  exact k
def spEqU (K : PySem.W.Frag) : Sp := fun vs H Q _ => match vs with
  | [.ref a, y] => ∃ xs, UrlAt K H a xs ∧ xs.length = 7 ∧ (∀ v ∈ xs, PV v) ∧
      ((∃ b ys, y = .ref b ∧ UrlAt K H b ys ∧ ys.length = 7 ∧ (∀ v ∈ ys, PV v) ∧ Q (.bl (decide (xs = ys))) H) ∨ (((∃ t, y = .str t) ∨ (∃ i, y = .int i) ∨ y = .non) ∧ Q (.bl false) H))
  | _ => False
section
variable {P : Program} {w : World} {K : PySem.W.Frag} {mg : Str → Option Value} {base : Heap}
theorem ok_Url___eq__ (c : Ct w K mg) : OkF P w K mg base CX0 1 (He.ma K (He.ga K "Url") "__eq__") ["self", "other"] (spEqU K) := by
  obtain ⟨fd, F⟩ := F_Url___eq__ c
  refine ⟨fd, F.ok sc_Url___eq__ (fun vs H Q E h => ?_) (fun cdv A outer s H vs Q E hr h => ⟨_, PSs.nox ((pss_one (ps_ret (pe_and (pe_callB (call_isC9 (eqc_Url c) (cls_Url c)) (by rfl) (b_isinstance c) (by decide +kernel) (pa_cons (cv 1) (pa_cons (pe_glob (v := .ref (He.ga K "Url")) rfl (g_Url c) rfl) pa_nil))) (pe_one (pe_cmpR (ho_eq (hu64 hr)) (pe_fld (cv 0) (by rfl)) (pe_fld (cv 1) (by rfl)) (by rfl))))))), ?_⟩), F.bindsN fun _ _ _ _ _ _ us hl => match us, hl with | [_, _], _ => rfl⟩
  · unfold spEqU at h
    split at h
    · rfl
    · exact h.elim
  · unfold spEqU at h
    split at h
    case h_2 => exact h.elim
    rename_i a y
    obtain ⟨xs, ⟨dx, Ta, h1, h2⟩, hxl, hx, h⟩ := h
    rcases h with ⟨b, ys, rfl, ⟨dy, Tb, h3, h4⟩, hyl, hy, q⟩ | ⟨hy, q⟩
    · (try simp only [tSeq, tNext, tIfS, tFor_eq, cBl, tOp, tC, cI, cIc, cAdd, cVar, hEq, hNe, hIn, hNotIn, hLen, hSl, tM1, tBM, cT1, cT1f, cFind3, cSplit, cPart, rNewStrs, hIsS, hTru, tAsg, gName, gSub, tRet, tRetN, tCons, tNil, tTup, tLst, tCB, tNot, tAnd, tNotV, tAndV, tOrV, tOr, V.bl.injEq, V.int.injEq, V.str.injEq, exists_eq_left', exists_eq_left, exists_eq', true_and, and_true, cIsN, L2.start, gTup, gCons, gNil, nox_K, cx_K, tCallF, tSl, tPart, tNoPart, iEnum, RZ.iZipA, iRng1, iRng2, cAbs, List.map_cons, List.map_nil, List.length_cons, List.length_nil, List.replicate, List.cons_append, List.nil_append, List.getElem?_cons_zero, List.getElem?_cons_succ, List.getElem?_nil, List.set_cons_zero, List.set_cons_succ, Nat.reduceAdd, Nat.reduceSub, Nat.zero_add, if_true, if_false, reduceIte, reduceCtorEq, Bool.false_eq_true, decide_eq_true_eq, tDrop, cMin2, cJoin, iList, tDNewK, tLc_eq, iStr, wipe])
      refine ⟨_, rfl, .inl ⟨b, dy, _, rfl, h3, ?_⟩⟩
      unfold tFld
      (try simp only [tSeq, tNext, tIfS, tFor_eq, cBl, tOp, tC, cI, cIc, cAdd, cVar, hEq, hNe, hIn, hNotIn, hLen, hSl, tM1, tBM, cT1, cT1f, cFind3, cSplit, cPart, rNewStrs, hIsS, hTru, tAsg, gName, gSub, tRet, tRetN, tCons, tNil, tTup, tLst, tCB, tNot, tAnd, tNotV, tAndV, tOrV, tOr, V.bl.injEq, V.int.injEq, V.str.injEq, exists_eq_left', exists_eq_left, exists_eq', true_and, and_true, cIsN, L2.start, gTup, gCons, gNil, nox_K, cx_K, tCallF, tSl, tPart, tNoPart, iEnum, RZ.iZipA, iRng1, iRng2, cAbs, List.map_cons, List.map_nil, List.length_cons, List.length_nil, List.replicate, List.cons_append, List.nil_append, List.getElem?_cons_zero, List.getElem?_cons_succ, List.getElem?_nil, List.set_cons_zero, List.set_cons_succ, Nat.reduceAdd, Nat.reduceSub, Nat.zero_add, if_true, if_false, reduceIte, reduceCtorEq, Bool.false_eq_true, decide_eq_true_eq, tDrop, cMin2, cJoin, iList, tDNewK, tLc_eq, iStr, wipe])
      refine ⟨a, _, dx, _, _, rfl, h1, cls_Url c, noat_Url__parts c, rfl, b, _, dy, _, _, rfl, h3, cls_Url c, noat_Url__parts c, rfl, ?_⟩
      exact cEq_tup h2 h4 hx hy q
    · (try simp only [tSeq, tNext, tIfS, tFor_eq, cBl, tOp, tC, cI, cIc, cAdd, cVar, hEq, hNe, hIn, hNotIn, hLen, hSl, tM1, tBM, cT1, cT1f, cFind3, cSplit, cPart, rNewStrs, hIsS, hTru, tAsg, gName, gSub, tRet, tRetN, tCons, tNil, tTup, tLst, tCB, tNot, tAnd, tNotV, tAndV, tOrV, tOr, V.bl.injEq, V.int.injEq, V.str.injEq, exists_eq_left', exists_eq_left, exists_eq', true_and, and_true, cIsN, L2.start, gTup, gCons, gNil, nox_K, cx_K, tCallF, tSl, tPart, tNoPart, iEnum, RZ.iZipA, iRng1, iRng2, cAbs, List.map_cons, List.map_nil, List.length_cons, List.length_nil, List.replicate, List.cons_append, List.nil_append, List.getElem?_cons_zero, List.getElem?_cons_succ, List.getElem?_nil, List.set_cons_zero, List.set_cons_succ, Nat.reduceAdd, Nat.reduceSub, Nat.zero_add, if_true, if_false, reduceIte, reduceCtorEq, Bool.false_eq_true, decide_eq_true_eq, tDrop, cMin2, cJoin, iList, tDNewK, tLc_eq, iStr, wipe])
      refine ⟨_, rfl, .inr ⟨hy, ?_⟩⟩
      refine ⟨false, rfl, ?_⟩
      rw [if_neg (by decide)]
      exact q
end
end Da
set_option Elab.async false
set_option linter.all false
set_option maxRecDepth 100000
set_option maxHeartbeats 4000000
namespace Da
open PySem PySem.Spec PyProof.Rows L2 Hd Xs Fx Mi ClX Xr
open TL (tl)
/-! ### what is parsed is possible -/
/-- the parts of a text, and how they stand together -/
theorem vs_split (l : T) : ∃ s u h p path q f, vsOf (splT l) = [s, u, h, p, vStr path, q, f] ∧ (h = .non → u = .non ∧ p = .non) ∧ (h ≠ .non → path = [] ∨ path.take 1 = [47]) ∧ (h = .non → path.take 2 ≠ [47, 47] ∧ (s = .non → (bef 47 path).contains 58 = false)) := by
  unfold splT splB
  generalize hq : bef 63 (bef 35 l) = x
  have fit : ∀ y : T, y.drop (bef 47 y).length = [] ∨ (y.drop (bef 47 y).length).take 1 = [47] := fun y => by
    cases hc : y.contains 47 with
    | false => rw [bef_none hc, List.drop_length]; exact .inl rfl
    | true =>
      have e := bef_aft hc
      refine .inr ?_
      have e2 : (bef 47 y ++ 47 :: aft 47 y).drop (bef 47 y).length = 47 :: aft 47 y := List.drop_left
      rw [← e] at e2
      rw [e2]; rfl
  have ne : ∀ y : T, vStr y ≠ .non := fun y z => nomatch z
  generalize (bef 35 l).contains 63 = c5
  generalize l.contains 35 = c6
  generalize (bef 35 l).length + 1 = k6
  generalize x.length + 1 = k5
  generalize aft 63 (bef 35 l) = y5
  generalize aft 35 l = y6
  by_cases ca : (x.drop (schAt x)).take 2 = [47, 47]
  · have hp : x.drop (schAt x + 2 + (bef 47 (x.drop (schAt x + 2))).length) = (x.drop (schAt x + 2)).drop (bef 47 (x.drop (schAt x + 2))).length := by rw [List.drop_drop]
    rw [if_pos ca, hp]
    have hf := fit (x.drop (schAt x + 2))
    generalize (x.drop (schAt x + 2)).drop (bef 47 (x.drop (schAt x + 2))).length = pa at *
    generalize bef 47 (x.drop (schAt x + 2)) = y
    generalize schAt x + 2 + y.length = k4
    generalize schAt x + 2 = k2
    generalize x.take (schAt x - 1) = y0
    generalize (bef 47 x).contains 58 = c0
    unfold splA
    by_cases cu : 0 < hostAt y
    · by_cases cp : eoh y (hostAt y) < y.length
      · rw [if_pos cu, if_pos cp]
        exact ⟨if c0 = true then vStr y0 else .non, vStr _, vStr _, vStr _, pa, if c5 = true then vStr y5 else .non, if c6 = true then vStr y6 else .non, by cases c0 <;> cases c5 <;> cases c6 <;> rfl, fun z => absurd z (ne _), fun _ => hf, fun z => absurd z (ne _)⟩
      · rw [if_pos cu, if_neg cp]
        exact ⟨if c0 = true then vStr y0 else .non, vStr _, vStr _, .non, pa, if c5 = true then vStr y5 else .non, if c6 = true then vStr y6 else .non, by cases c0 <;> cases c5 <;> cases c6 <;> rfl, fun z => absurd z (ne _), fun _ => hf, fun z => absurd z (ne _)⟩
    · by_cases cp : eoh y (hostAt y) < y.length
      · rw [if_neg cu, if_pos cp]
        exact ⟨if c0 = true then vStr y0 else .non, .non, vStr _, vStr _, pa, if c5 = true then vStr y5 else .non, if c6 = true then vStr y6 else .non, by cases c0 <;> cases c5 <;> cases c6 <;> rfl, fun z => absurd z (ne _), fun _ => hf, fun z => absurd z (ne _)⟩
      · rw [if_neg cu, if_neg cp]
        exact ⟨if c0 = true then vStr y0 else .non, .non, vStr _, .non, pa, if c5 = true then vStr y5 else .non, if c6 = true then vStr y6 else .non, by cases c0 <;> cases c5 <;> cases c6 <;> rfl, fun z => absurd z (ne _), fun _ => hf, fun z => absurd z (ne _)⟩
  · rw [if_neg ca]
    by_cases c0 : (bef 47 x).contains 58 = true
    · rw [if_pos c0]
      exact ⟨vStr _, .non, .non, .non, x.drop (schAt x), if c5 = true then vStr y5 else .non, if c6 = true then vStr y6 else .non, by cases c5 <;> cases c6 <;> rfl, fun _ => ⟨rfl, rfl⟩, fun z => absurd rfl z, fun _ => ⟨ca, fun z => absurd z (ne _)⟩⟩
    · have e0 : schAt x = 0 := by unfold schAt; rw [if_neg c0]
      rw [if_neg c0]
      refine ⟨.non, .non, .non, .non, x.drop (schAt x), if c5 = true then vStr y5 else .non, if c6 = true then vStr y6 else .non, by cases c5 <;> cases c6 <;> rfl, fun _ => ⟨rfl, rfl⟩, fun z => absurd rfl z, fun _ => ⟨ca, fun _ => ?_⟩⟩
      rw [e0, List.drop_zero]
      exact Bool.eq_false_iff.mpr c0
theorem wRows_all : ∀ {rs : List R3}, wRows rs = none → ∀ r ∈ rs, wP r.1 r.2.2 = none
  | [], _, r, hm => nomatch hm
  | x :: rs, h, r, hm => by
    rw [wRows_cons] at h
    cases e : wP x.1 x.2.2 with
    | some ka => rw [e] at h; cases h
    | none =>
      rw [e] at h
      rcases List.mem_cons.mp hm with z | z
      · rw [z]; exact e
      · exact wRows_all h r z
theorem dueF_free : ∀ (l : List V) (i : Nat), (∀ (j : Nat) (v : V), l[j]? = some v → isP (i + j) v = true) → dueF i l = none
  | [], _, _ => rfl
  | v :: r, i, h => by
    rw [dueF_cons, if_pos (show isP i v = true from h 0 v rfl)]
    refine dueF_free r (i + 1) fun j x hx => ?_
    have := h (j + 1) x (by simpa using hx)
    rw [show i + 1 + j = i + (j + 1) by omega]
    exact this
/-- a text whose rows are right has parts that are possible -/
theorem split_due {l : T} (h : wRows (splT l) = none) : dueV (vsOf (splT l)) = none := by
  obtain ⟨s, u, hh, p, path, q, f, e, h1, h2, h3⟩ := vs_split l
  have hall := wRows_all h
  have right : ∀ (j : Nat) (v : V), (vsOf (splT l))[j]? = some v → isP (0 + j) v = true := fun j v hj => by
    have hj7 : j < 7 := by
      have := (List.getElem?_eq_some_iff.mp hj).1
      unfold vsOf at this
      simpa using this
    unfold vsOf at hj
    rw [List.getElem?_map, List.getElem?_range hj7] at hj
    have hv := Option.some.inj hj
    rw [Nat.zero_add, ← hv]
    show isP j (match (splT l).find? (fun r => r.1 == j) with
      | some r => vStr r.2.2
      | none => dflV j) = true
    cases hf : (splT l).find? fun r => r.1 == j with
    | some r =>
      have hr := List.mem_of_find?_eq_some hf
      have hi : r.1 = j := by
        have := List.find?_some hf
        simpa using this
      have hw := hall r hr
      rw [hi] at hw
      show isP j (vStr r.2.2) = true
      show (wP j r.2.2).isNone = true
      exact Option.isNone_iff_eq_none.mpr hw
    | none =>
      show isP j (dflV j) = true
      have hj' : j = 0 ∨ j = 1 ∨ j = 2 ∨ j = 3 ∨ j = 4 ∨ j = 5 ∨ j = 6 := by omega
      rcases hj' with rfl | rfl | rfl | rfl | rfl | rfl | rfl <;> decide +kernel
  have hF := dueF_free (vsOf (splT l)) 0 right
  rw [e] at hF ⊢
  unfold dueV
  rw [hF]
  show (if isNo hh = true ∧ isNo u = false then some ("user" : Str) else if isNo hh = true ∧ isNo p = false then some ("port" : Str) else if poss (isNo s) (isNo hh) path = false then some ("path" : Str) else none) = none
  by_cases hn : hh = .non
  · obtain ⟨u1, p1⟩ := h1 hn
    obtain ⟨t1, t2⟩ := h3 hn
    have ih : isNo hh = true := decide_eq_true hn
    subst u1 p1
    rw [ih, if_neg (fun z => Bool.noConfusion z.2), if_neg (fun z => Bool.noConfusion z.2), if_neg]
    intro z
    unfold poss at z
    rw [if_neg (show ¬ (true = false) by decide), if_neg t1] at z
    by_cases hs : s = .non
    · rw [t2 hs, show isNo s = true from decide_eq_true hs] at z
      cases z
    · rw [show isNo s = false from decide_eq_false hs] at z
      cases z
  · have ih : isNo hh = false := decide_eq_false hn
    rw [ih, if_neg (fun z => Bool.noConfusion z.1), if_neg (fun z => Bool.noConfusion z.1), if_neg]
    intro z
    unfold poss at z
    rw [if_pos rfl] at z
    rcases h2 hn with t | t
    · rw [t] at z; cases z
    · rw [decide_eq_true t, Bool.or_true] at z; cases z
end Da
set_option Elab.async false
set_option linter.all false
set_option maxRecDepth 100000
set_option maxHeartbeats 4000000
namespace Da
open PySem PySem.Spec PyProof.Rows L2 Hd Xs Fx Mi ClX Xr
open TL (tl)
def spHex : Sp := fun vs H Q _ => match vs with
  | [.str t] => t.length ≤ (100000 : Nat) ∧ Sg t ∧ ∀ H', Ext H H' → Q (.bl (decide ((tl t).length = 2) && (tl t).all HEXT.contains)) H'
  | _ => False
/-- the signs of t that S lacks -/
def lack (t S : T) : List Str := (t.filter fun c => !S.contains c).map fun c => ⟨#[c]⟩
theorem lc_lack {K : PySem.W.Frag} {t S : Str} {i : Nat} {σ : L2.St} {H : Hp} {D : Addr} {Qd : Hp → Prop} (hi : i < σ.length) (hD : H D = none) (ht : t.length ≤ (100000 : Nat))
    (q : ∀ H', Ext H H' → H' D = some (.lst ((lack (tl t) (tl S)).map V.str)) → Qd H') : LcP (Its t) (gName i) (cBl (tOp (hNotIn K) (cVar i) (tC (.str S)))) (cVar i) [i] σ H D Qd := by
  have sl := sl
  have hl := TL.len_tl t
  refine lc_its (fun k H' => Ext H H' ∧ H' D = some (.lst ((lack ((tl t).take k) (tl S)).map V.str))) ⟨Ext.rf.fresh hD, upd_self⟩ (fun k c H' hc ⟨he, hd⟩ => ?_) (fun H' ⟨he, hd⟩ => ?_)
  · have hw : (wipe σ [i]) = σ.set i none := rfl
    have htk : (tl t).take (k + 1) = (tl t).take k ++ [c] := by rw [List.take_succ, hc]; rfl
    have hlk : lack ((tl t).take (k + 1)) (tl S) = lack ((tl t).take k) (tl S) ++ (if (tl S).contains c = true then [] else [⟨#[c]⟩]) := by
      unfold lack
      rw [htk, List.filter_append, List.map_append]
      congr 1
      rw [List.filter_cons]
      cases h : (tl S).contains c <;> rfl
    refine ⟨?_, ?_⟩
    · rw [hw]
      show (((σ.set i none).set i (some (V.str ⟨#[c]⟩))).set i none) = σ.set i none
      simp
    · have hv : ((wipe σ [i]).set i (some (V.str ⟨#[c]⟩)))[i]? = some (some (V.str ⟨#[c]⟩)) := by
        rw [hw]; simp [hi]
      show cBl _ _ _ _
      unfold cBl tOp cVar
      rw [hv]
      dsimp only [tC, hNotIn]
      rw [isIn_one]
      cases h : (tl S).contains c with
      | true =>
        rw [if_neg (by decide)]
        rw [h, if_pos rfl, List.append_nil] at hlk
        rw [hlk]
        exact ⟨he, hd⟩
      | false =>
        rw [if_pos (by decide)]
        rw [h, if_neg (by decide)] at hlk
        rw [hlk]
        refine ⟨_, hd, ?_, he.new hD, ?_⟩
        · rw [List.length_map]
          unfold lack
          rw [List.length_map]
          have := List.length_filter_le (fun c => !(tl S).contains c) ((tl t).take k)
          rw [List.length_take] at this
          omega
        · rw [List.map_append]; exact upd_self
  · refine q H' he ?_
    rw [List.take_length] at hd
    exact hd
theorem lack_sg {t S : T} (h : ∀ c ∈ t, c < 256) : ∀ z ∈ lack t S, Sg z := fun z hz => by
  obtain ⟨c, hc, rfl⟩ := List.mem_map.mp hz
  exact Sg.one (h c (List.mem_filter.mp hc |>.1))
theorem lack_nil {t S : T} : ((lack t S).map PyData.str).isEmpty = t.all S.contains := by
  unfold lack
  induction t with
  | nil => rfl
  | cons c r ih =>
    cases h : S.contains c with
    | true =>
      rw [List.filter_cons, h]
      simp only [Bool.not_true, Bool.false_eq_true, if_false]
      rw [ih, List.all_cons, h, Bool.true_and]
    | false =>
      rw [List.filter_cons, h, List.all_cons, h]
      rfl
section
variable {P : Program} {w : World} {K : PySem.W.Frag} {mg : Str → Option Value} {base : Heap}
theorem ok__law_is_hexadecimal (c : Ct w K mg) : OkF P w K mg base CX0 1 (He.ga K "_law_is_hexadecimal") ["text"] (spHex) := by
  obtain ⟨fd, F⟩ := F__law_is_hexadecimal c
  refine ⟨fd, F.ok sc__law_is_hexadecimal (fun vs H Q E h => ?_) (fun cdv A outer s H vs Q E hr h => ⟨_, PSs.nox ((pss_one (ps_ret (pe_and (pe_cmpR (ho_eq (hu64 hr)) (pe_callB hc_len (by rfl) (b_len c) (by decide +kernel) (pa_cons (cv 0) pa_nil)) pe_int (by rfl)) (pe_one (pe_cmpR (ho_eq (hu64 hr)) (pe_lc rfl (sc__law_is_hexadecimal).nd (pi_str (cv 0)) (blkOk_by (own := [("sign", 1)]) (by rfl)) (fun _ _ _ _ _ => pg_name (i := 1) (sc__law_is_hexadecimal).nd rfl (Or.inl rfl)) (fun _ _ _ _ _ => (pts_one (ctc (r := hNotIn K) ho_notIn (cv 1) pe_str (by rfl)))) (fun _ _ _ _ _ => (cv 1))) (pe_lst pa_nil) (by rfl))))))), ?_⟩), F.bindsN fun _ _ _ _ _ _ us hl => match us, hl with | [_], _ => rfl⟩
  · unfold spHex at h
    split at h
    · rfl
    · exact h.elim
  · unfold spHex at h
    split at h
    case h_2 => exact h.elim
    rename_i t
    obtain ⟨ht, hs, q⟩ := h
    have sl := sl
    have hl := TL.len_tl t
    (try simp only [tSeq, tNext, tIfS, tFor_eq, cBl, tOp, tC, cI, cIc, cAdd, cVar, hEq, hNe, hIn, hNotIn, hLen, hSl, tM1, tBM, cT1, cT1f, cFind3, cSplit, cPart, rNewStrs, hIsS, hTru, tAsg, gName, gSub, tRet, tRetN, tCons, tNil, tTup, tLst, tCB, tNot, tAnd, tNotV, tAndV, tOrV, tOr, V.bl.injEq, V.int.injEq, V.str.injEq, exists_eq_left', exists_eq_left, exists_eq', true_and, and_true, cIsN, L2.start, gTup, gCons, gNil, nox_K, cx_K, tCallF, tSl, tPart, tNoPart, iEnum, RZ.iZipA, iRng1, iRng2, cAbs, List.map_cons, List.map_nil, List.length_cons, List.length_nil, List.replicate, List.cons_append, List.nil_append, List.getElem?_cons_zero, List.getElem?_cons_succ, List.getElem?_nil, List.set_cons_zero, List.set_cons_succ, Nat.reduceAdd, Nat.reduceSub, Nat.zero_add, if_true, if_false, reduceIte, reduceCtorEq, Bool.false_eq_true, decide_eq_true_eq, tDrop, cMin2, cJoin, iList, tDNewK, tLc_eq, iStr, wipe])
    refine ⟨by omega, ?_⟩
    by_cases h2 : (tl t).length = 2
    · rw [if_pos (by omega)]
      intro D hD
      refine lc_lack (by simp) hD ht fun H1 he hd => ⟨by omega, fun p hp => ?_⟩
      refine hEq_nil (upd_old hd hp) upd_self (dpStrs _) (shStrs (lack_sg hs)) ?_
      rw [lack_nil]
      have e : (tl (Str.ofString "0123456789abcdefABCDEF")).contains = HEXT.contains := funext fun c => contains_eq (A := tl (Str.ofString "0123456789abcdefABCDEF")) (B := HEXT) (by decide +kernel) (by decide +kernel) c
      have := q _ (he.fresh (o := .lst []) hp)
      rw [decide_eq_true h2, Bool.true_and] at this
      rw [e]
      exact this
    · rw [if_neg (by omega)]
      have := q _ Ext.rf
      rw [decide_eq_false h2, Bool.false_and] at this
      exact this
/-- a list of none or one (place, kind) -/
def RL (H : Hp) (v : V) (o : KP) : Prop := ∃ p, v = .ref p ∧ (match o with
  | none => H p = some (.lst [])
  | some (k, i) => ∃ q, H p = some (.lst [.ref q]) ∧ H q = some (.tup [.int (i : Nat), .str k]))
def spLSigns : Sp := fun vs H Q _ => match vs with
  | [.str t, .int b, .int e, .str s] => ∃ b' e' : Nat, b = (b' : Nat) ∧ e = (e' : Nat) ∧ b' ≤ e' ∧ e' ≤ t.length ∧ t.length ≤ (100000 : Nat) ∧ Sg t ∧ ∀ v H', Ext H H' → RL H' v (scan (tl s) b' (((tl t).take e').drop b')) → Q v H'
  | _ => False
theorem RL.one {H : Hp} {k : Str} {i : Nat} {p q : Addr} (hq : H q = none) (hp : upd H q (.tup [.int (i : Nat), .str k]) p = none) : RL (upd (upd H q (.tup [.int (i : Nat), .str k])) p (.lst [.ref q])) (.ref p) (some (k, i)) :=
  ⟨p, rfl, q, upd_self, upd_old upd_self hp⟩
theorem ok__law_wrong_signs (c : Ct w K mg) : OkF P w K mg base CX0 2 (He.ga K "_law_wrong_signs") ["text", "begin", "end", "signs"] (spLSigns) := by
  obtain ⟨fd, F⟩ := F__law_wrong_signs c
  refine ⟨fd, F.ok sc__law_wrong_signs (fun vs H Q E h => ?_) (fun cdv A outer s H vs Q E hr h => ⟨_, PSs.nox ((pss_cons (ps_set (i := 4) (sc__law_wrong_signs).nd rfl (Or.inl rfl) (cv 1)) (pss_cons (ps_while PassesOwn.never (ctc co_lt (cv 4) (cv 2) (by rfl)) (pss_one (ps_if (ctc (ho_eq (hu64 hr)) (hix (cv 0) (cv 4)) pe_str (by rfl)) (pss_cons (ps_if (pt_not (ct (pf (ok__law_is_hexadecimal c) (hr.mono (by decide)) (g__law_is_hexadecimal c) (k__law_is_hexadecimal c) pass0 (pa_cons (pe_slice hs_any (cv 0) (po_some (pe_op co_add (cv 4) pe_int)) (po_some (pe_callB (cc_min2 rfl) (by rfl) (b_min c) (by decide +kernel) (pa_cons (cv 2) (pa_cons (pe_op co_add (cv 4) pe_int) pa_nil))))) pa_nil)))) (pss_one (ps_ret (pe_lst (pa_cons (pe_tup (pa_cons (cv 4) (pa_cons pe_str pa_nil))) pa_nil)))) pss_nil) (pss_one (ps_set (i := 4) (sc__law_wrong_signs).nd rfl (Or.inl rfl) (pe_op co_add (cv 4) pe_int)))) (pss_one (ps_if (ctc ho_notIn (hix (cv 0) (cv 4)) (cv 3) (by rfl)) (pss_one (ps_ret (pe_lst (pa_cons (pe_tup (pa_cons (cv 4) (pa_cons pe_str pa_nil))) pa_nil)))) (pss_one (ps_set (i := 4) (sc__law_wrong_signs).nd rfl (Or.inl rfl) (pe_op co_add (cv 4) pe_int)))))))) (pss_one (ps_ret (pe_lst pa_nil)))))), ?_⟩), F.bindsN fun _ _ _ _ _ _ us hl => match us, hl with | [_, _, _, _], _ => rfl⟩
  · unfold spLSigns at h
    split at h
    · rfl
    · exact h.elim
  · unfold spLSigns at h
    split at h
    case h_2 => exact h.elim
    rename_i t b e s0
    obtain ⟨b, e, rfl, rfl, hbe, hel, ht, hs, q⟩ := h
    have sl := sl
    have hl := TL.len_tl t
    refine seqStep ?_
    (try simp only [tNext, tFor_eq, cBl, tOp, tC, cI, cIc, cAdd, cVar, hEq, hNe, hIn, hNotIn, hLen, hSl, tM1, tBM, cT1, cT1f, cFind3, cSplit, cPart, rNewStrs, hIsS, hTru, tAsg, gName, gSub, tRet, tRetN, tCons, tNil, tTup, tLst, tCB, tNot, tAnd, tNotV, tAndV, tOrV, tOr, V.bl.injEq, V.int.injEq, V.str.injEq, exists_eq_left', exists_eq_left, exists_eq', true_and, and_true, cIsN, L2.start, gTup, gCons, gNil, nox_K, cx_K, tCallF, tSl, tPart, tNoPart, iEnum, RZ.iZipA, iRng1, iRng2, cAbs, List.map_cons, List.map_nil, List.length_cons, List.length_nil, List.replicate, List.cons_append, List.nil_append, List.getElem?_cons_zero, List.getElem?_cons_succ, List.getElem?_nil, List.set_cons_zero, List.set_cons_succ, Nat.reduceAdd, Nat.reduceSub, Nat.zero_add, if_true, if_false, reduceIte, reduceCtorEq, Bool.false_eq_true, decide_eq_true_eq, tDrop, cMin2, cJoin, iList, tDNewK, tLc_eq, iStr, wipe])
    refine seqCps (fun σ H' => ∃ a : Nat, σ = [some (.str t), some (.int (b : Nat)), some (.int (e : Nat)), some (.str s0), some (.int (a : Nat))] ∧ Ext H H' ∧ scan (tl s0) b (((tl t).take e).drop b) = none) (fun Nx hN => ?_) ?_
    · refine lp_while (fun σ H' => ∃ a : Nat, σ = [some (.str t), some (.int (b : Nat)), some (.int (e : Nat)), some (.str s0), some (.int (a : Nat))] ∧ a ≤ e ∧ Ext H H' ∧ scan (tl s0) b (((tl t).take e).drop b) = scan (tl s0) a (((tl t).take e).drop a)) (fun σ _ => match σ[4]? with
        | some (some (V.int a)) => (e - a.toNat)
        | _ => 0) ⟨b, rfl, hbe, Ext.rf, rfl⟩ ?_
      rintro σ H1 ⟨a, rfl, hae, he, hsc⟩
      (try simp only [tSeq, tNext, tIfS, tFor_eq, cBl, tOp, tC, cI, cIc, cAdd, cVar, hEq, hNe, hIn, hNotIn, hLen, hSl, tM1, tBM, cT1, cT1f, cFind3, cSplit, cPart, rNewStrs, hIsS, hTru, tAsg, gName, gSub, tRet, tRetN, tCons, tNil, tTup, tLst, tCB, tNot, tAnd, tNotV, tAndV, tOrV, tOr, V.bl.injEq, V.int.injEq, V.str.injEq, exists_eq_left', exists_eq_left, exists_eq', true_and, and_true, cIsN, L2.start, gTup, gCons, gNil, nox_K, cx_K, tCallF, tSl, tPart, tNoPart, iEnum, RZ.iZipA, iRng1, iRng2, cAbs, List.map_cons, List.map_nil, List.length_cons, List.length_nil, List.replicate, List.cons_append, List.nil_append, List.getElem?_cons_zero, List.getElem?_cons_succ, List.getElem?_nil, List.set_cons_zero, List.set_cons_succ, Nat.reduceAdd, Nat.reduceSub, Nat.zero_add, if_true, if_false, reduceIte, reduceCtorEq, Bool.false_eq_true, decide_eq_true_eq, tDrop, cMin2, cJoin, iList, tDNewK, tLc_eq, iStr, wipe])
      by_cases hlt : a < e
      · rw [if_pos (by omega)]
        refine ⟨fun σ' H' => ∃ a' : Nat, a < a' ∧ σ' = [some (.str t), some (.int (b : Nat)), some (.int (e : Nat)), some (.str s0), some (.int (a' : Nat))] ∧ a' ≤ e ∧ Ext H H' ∧ scan (tl s0) b (((tl t).take e).drop b) = scan (tl s0) a' (((tl t).take e).drop a'), ?_, ?_⟩
        · rintro σ' H' ⟨a', h1, rfl, h3⟩
          refine ⟨e - a', ?_, ?_, a', rfl, h3⟩
          · show e - a' < e - (Int.toNat a)
            rw [Int.toNat_natCast]
            omega
          · show e - a' = e - (Int.toNat a')
            rw [Int.toNat_natCast]
        · have hal : a < (tl t).length := by omega
          have hc : (tl t)[a]? = some (tl t)[a] := List.getElem?_eq_getElem hal
          generalize (tl t)[a] = c at hc
          have hdr : ((tl t).take e).drop a = c :: ((tl t).take e).drop (a + 1) := by
            have hk : a < ((tl t).take e).length := by rw [List.length_take]; omega
            rw [List.drop_eq_getElem_cons hk, List.getElem_take]
            congr 1
            exact (List.getElem?_eq_some_iff.mp hc).2
          rw [hdr] at hsc
          refine hIx_str (by omega) (atI_nat hc) ?_
          dsimp only
          by_cases h94 : c = 94
          · rw [if_pos ((eq_hat c).mpr h94)]
            subst h94
            rw [scan_94', List.drop_drop] at hsc
            have em : (if ((a : Nat) : Int) + 3 < ((e : Nat) : Int) then ((a : Nat) : Int) + 3 else ((e : Nat) : Int)) = ((min e (a + 3) : Nat) : Int) := by
              split <;> omega
            (try simp only [tSeq, tNext, tIfS, tFor_eq, cBl, tOp, tC, cI, cIc, cAdd, cVar, hEq, hNe, hIn, hNotIn, hLen, hSl, tM1, tBM, cT1, cT1f, cFind3, cSplit, cPart, rNewStrs, hIsS, hTru, tAsg, gName, gSub, tRet, tRetN, tCons, tNil, tTup, tLst, tCB, tNot, tAnd, tNotV, tAndV, tOrV, tOr, V.bl.injEq, V.int.injEq, V.str.injEq, exists_eq_left', exists_eq_left, exists_eq', true_and, and_true, cIsN, L2.start, gTup, gCons, gNil, nox_K, cx_K, tCallF, tSl, tPart, tNoPart, iEnum, RZ.iZipA, iRng1, iRng2, cAbs, List.map_cons, List.map_nil, List.length_cons, List.length_nil, List.replicate, List.cons_append, List.nil_append, List.getElem?_cons_zero, List.getElem?_cons_succ, List.getElem?_nil, List.set_cons_zero, List.set_cons_succ, Nat.reduceAdd, Nat.reduceSub, Nat.zero_add, if_true, if_false, reduceIte, reduceCtorEq, Bool.false_eq_true, decide_eq_true_eq, tDrop, cMin2, cJoin, iList, tDNewK, tLc_eq, iStr, wipe])
            rw [em]
            refine ⟨by omega, ?_⟩
            have e1 : ((a : Nat) : Int) + 1 = ((a + 1 : Nat) : Int) := by omega
            rw [e1]
            have hcl := cutS_len t (some ((a + 1 : Nat) : Int)) (some ((min e (a + 3) : Nat) : Int))
            refine ⟨by omega, hs.cut, fun H2 he2 => ?_⟩
            rw [cutMN]
            have er : ((tl t).drop (a + 1)).take (min e (a + 3) - (a + 1)) = (((tl t).take e).drop (a + 1)).take 2 := by
              rw [List.drop_take, List.take_take]
              congr 1
              omega
            rw [er]
            have eh : (decide (((((tl t).take e).drop (a + 1)).take 2).length = 2) && ((((tl t).take e).drop (a + 1)).take 2).all HEXT.contains) = hexT (((tl t).take e).drop (a + 1)) := rfl
            rw [eh]
            (try simp only [tSeq, tNext, tIfS, tFor_eq, cBl, tOp, tC, cI, cIc, cAdd, cVar, hEq, hNe, hIn, hNotIn, hLen, hSl, tM1, tBM, cT1, cT1f, cFind3, cSplit, cPart, rNewStrs, hIsS, hTru, tAsg, gName, gSub, tRet, tRetN, tCons, tNil, tTup, tLst, tCB, tNot, tAnd, tNotV, tAndV, tOrV, tOr, V.bl.injEq, V.int.injEq, V.str.injEq, exists_eq_left', exists_eq_left, exists_eq', true_and, and_true, cIsN, L2.start, gTup, gCons, gNil, nox_K, cx_K, tCallF, tSl, tPart, tNoPart, iEnum, RZ.iZipA, iRng1, iRng2, cAbs, List.map_cons, List.map_nil, List.length_cons, List.length_nil, List.replicate, List.cons_append, List.nil_append, List.getElem?_cons_zero, List.getElem?_cons_succ, List.getElem?_nil, List.set_cons_zero, List.set_cons_succ, Nat.reduceAdd, Nat.reduceSub, Nat.zero_add, if_true, if_false, reduceIte, reduceCtorEq, Bool.false_eq_true, decide_eq_true_eq, tDrop, cMin2, cJoin, iList, tDNewK, tLc_eq, iStr, wipe])
            cases hx : hexT (((tl t).take e).drop (a + 1)) with
            | true =>
              have h2 := hexT_len hx
              rw [List.length_drop, List.length_take] at h2
              rw [hx, if_pos rfl] at hsc
              rw [if_neg (by decide)]
              refine ⟨a + 3, by omega, rfl, by omega, he.tr he2, ?_⟩
              rw [hsc]
            | false =>
              rw [hx, if_neg (by decide)] at hsc
              rw [if_pos (show (!false) = true from rfl)]
              refine ⟨by omega, fun p hp => ⟨by omega, fun p2 hp2 => q _ _ (((he.tr he2).fresh hp).fresh hp2) ?_⟩⟩
              rw [hsc]
              exact RL.one hp hp2
          · rw [if_neg (fun z => h94 ((eq_hat c).mp z))]
            refine hIx_str (by omega) (atI_nat hc) ?_
            dsimp only
            rw [isIn_one]
            cases hin : (tl s0).contains c with
            | true =>
              rw [scan_in h94 hin] at hsc
              rw [if_neg (by decide)]
              exact ⟨a + 1, by omega, rfl, by omega, he, hsc⟩
            | false =>
              rw [scan_out h94 hin] at hsc
              rw [if_pos (show (!false) = true from rfl)]
              refine ⟨by omega, fun p hp => ⟨by omega, fun p2 hp2 => q _ _ ((he.fresh hp).fresh hp2) ?_⟩⟩
              rw [hsc]
              exact RL.one hp hp2
      · rw [if_neg (by omega)]
        have : a = e := by omega
        subst this
        refine hN _ _ ⟨a, rfl, he, ?_⟩
        rw [hsc, List.drop_of_length_le (by rw [List.length_take]; omega)]
        rfl
    · rintro σ H1 ⟨a, rfl, he, hsc⟩
      (try simp only [tSeq, tNext, tIfS, tFor_eq, cBl, tOp, tC, cI, cIc, cAdd, cVar, hEq, hNe, hIn, hNotIn, hLen, hSl, tM1, tBM, cT1, cT1f, cFind3, cSplit, cPart, rNewStrs, hIsS, hTru, tAsg, gName, gSub, tRet, tRetN, tCons, tNil, tTup, tLst, tCB, tNot, tAnd, tNotV, tAndV, tOrV, tOr, V.bl.injEq, V.int.injEq, V.str.injEq, exists_eq_left', exists_eq_left, exists_eq', true_and, and_true, cIsN, L2.start, gTup, gCons, gNil, nox_K, cx_K, tCallF, tSl, tPart, tNoPart, iEnum, RZ.iZipA, iRng1, iRng2, cAbs, List.map_cons, List.map_nil, List.length_cons, List.length_nil, List.replicate, List.cons_append, List.nil_append, List.getElem?_cons_zero, List.getElem?_cons_succ, List.getElem?_nil, List.set_cons_zero, List.set_cons_succ, Nat.reduceAdd, Nat.reduceSub, Nat.zero_add, if_true, if_false, reduceIte, reduceCtorEq, Bool.false_eq_true, decide_eq_true_eq, tDrop, cMin2, cJoin, iList, tDNewK, tLc_eq, iStr, wipe])
      refine ⟨by omega, fun p hp => q _ _ (he.fresh hp) ⟨p, rfl, ?_⟩⟩
      rw [hsc]
      exact upd_self
end
end Da
set_option Elab.async false
set_option linter.all false
set_option maxRecDepth 100000
set_option maxHeartbeats 4000000
namespace Da
open PySem PySem.Spec PyProof.Rows L2 Hd Xs Fx Mi ClX Xr
open TL (tl)
def spLScheme : Sp := fun vs H Q _ => match vs with
  | [.str t, .int e] => ∃ e' : Nat, e = (e' : Nat) ∧ e' ≤ t.length ∧ t.length ≤ (100000 : Nat) ∧ ∀ v H', Ext H H' → RL H' v (wSch ((tl t).take e')) → Q v H'
  | _ => False
theorem fo_step {l S : T} {k c : Nat} (h : k ≤ fo l S) (hk : l[k]? = some c) (hc : S.contains c = true) : k + 1 ≤ fo l S := by
  rcases Nat.lt_or_ge k (fo l S) with h1 | h1
  · exact h1
  · have e : fo l S = k := by omega
    have hl := (List.getElem?_eq_some_iff.mp hk).1
    obtain ⟨d, h2, h3⟩ := fo_at (l := l) (S := S) (by omega)
    rw [e, hk] at h2
    rw [Option.some.inj h2, h3] at hc
    cases hc
theorem fo_stop {l S : T} {k c : Nat} (h : k ≤ fo l S) (hk : l[k]? = some c) (hc : S.contains c = false) : fo l S = k := by
  rcases Nat.lt_or_ge k (fo l S) with h1 | h1
  · obtain ⟨d, h2, h3⟩ := fo_before h1
    rw [hk] at h2
    rw [Option.some.inj h2, h3] at hc
    cases hc
  · omega
theorem scht (c : Nat) : SCHT.contains c = (LETT.contains c || (tl (Str.ofString "0123456789+-.")).contains c) := by
  have e : SCHT = LETT ++ tl (Str.ofString "0123456789+-.") := by decide +kernel
  rw [e]
  cases h : LETT.contains c <;> simp [List.contains_eq_mem] at h ⊢ <;> simp [h]
section
variable {P : Program} {w : World} {K : PySem.W.Frag} {mg : Str → Option Value} {base : Heap}
theorem ok__law_wrong_scheme (c : Ct w K mg) : OkF P w K mg base CX0 1 (He.ga K "_law_wrong_scheme") ["text", "end"] (spLScheme) := by
  obtain ⟨fd, F⟩ := F__law_wrong_scheme c
  refine ⟨fd, F.ok sc__law_wrong_scheme (fun vs H Q E h => ?_) (fun cdv A outer s H vs Q E hr h => ⟨_, PSs.nox ((pss_cons (ps_set (i := 2) (sc__law_wrong_scheme).nd rfl (Or.inl rfl) pe_str) (pss_cons (ps_for PassesOwn.never rfl (pi_range1 rfl (b_range c) (pa_cons (cv 1) pa_nil)) (pg_name (i := 3) (sc__law_wrong_scheme).nd rfl (Or.inl rfl)) (pss_one (ps_if (PW.pt (pw_and (ctc ho_notIn (hix (cv 0) (cv 3)) (cv 2) (by rfl)) (pw_and1 (PW.pt (pw_or (ctc (ho_eq (hu64 hr)) (cv 3) pe_int (by rfl)) (pw_or1 (ctc ho_notIn (hix (cv 0) (cv 3)) pe_str (by rfl)))))))) (pss_one (ps_ret (pe_lst (pa_cons (pe_tup (pa_cons (cv 3) (pa_cons pe_str pa_nil))) pa_nil)))) pss_nil))) (pss_one (ps_ret (pe_ifExp (ctc (ho_eq (hu64 hr)) (cv 1) pe_int (by rfl)) (pe_lst (pa_cons (pe_tup (pa_cons pe_int (pa_cons pe_str pa_nil))) pa_nil)) (pe_lst pa_nil))))))), ?_⟩), F.bindsN fun _ _ _ _ _ _ us hl => match us, hl with | [_, _], _ => rfl⟩
  · unfold spLScheme at h
    split at h
    · rfl
    · exact h.elim
  · unfold spLScheme at h
    split at h
    case h_2 => exact h.elim
    rename_i t e
    obtain ⟨e, rfl, he, ht, q⟩ := h
    have sl := sl
    have hl := TL.len_tl t
    have eL : ∀ c, (tl (Str.ofString "abcdefghijklmnopqrstuvwxyzABCDEFGHIJKLMNOPQRSTUVWXYZ")).contains c = LETT.contains c := fun c => contains_eq (by decide +kernel) (by decide +kernel) c
    refine seqStep ?_
    (try simp only [tNext, tFor_eq, cBl, tOp, tC, cI, cIc, cAdd, cVar, hEq, hNe, hIn, hNotIn, hLen, hSl, tM1, tBM, cT1, cT1f, cFind3, cSplit, cPart, rNewStrs, hIsS, hTru, tAsg, gName, gSub, tRet, tRetN, tCons, tNil, tTup, tLst, tCB, tNot, tAnd, tNotV, tAndV, tOrV, tOr, V.bl.injEq, V.int.injEq, V.str.injEq, exists_eq_left', exists_eq_left, exists_eq', true_and, and_true, cIsN, L2.start, gTup, gCons, gNil, nox_K, cx_K, tCallF, tSl, tPart, tNoPart, iEnum, RZ.iZipA, iRng1, iRng2, cAbs, List.map_cons, List.map_nil, List.length_cons, List.length_nil, List.replicate, List.cons_append, List.nil_append, List.getElem?_cons_zero, List.getElem?_cons_succ, List.getElem?_nil, List.set_cons_zero, List.set_cons_succ, Nat.reduceAdd, Nat.reduceSub, Nat.zero_add, if_true, if_false, reduceIte, reduceCtorEq, Bool.false_eq_true, decide_eq_true_eq, tDrop, cMin2, cJoin, iList, tDNewK, tLc_eq, iStr, wipe])
    generalize hm : (tl t).take e = m at *
    have hml : m.length = e := by rw [← hm, List.length_take]; omega
    refine seqCps (fun σ H' => ∃ u2 u3, σ = [some (.str t), some (.int (e : Nat)), u2, u3] ∧ H' = H ∧ (0 < e → wSch m = none)) (fun Nx hN => ?_) ?_
    · (try simp only [tNext, tFor_eq, cBl, tOp, tC, cI, cIc, cAdd, cVar, hEq, hNe, hIn, hNotIn, hLen, hSl, tM1, tBM, cT1, cT1f, cFind3, cSplit, cPart, rNewStrs, hIsS, hTru, tAsg, gName, gSub, tRet, tRetN, tCons, tNil, tTup, tLst, tCB, tNot, tAnd, tNotV, tAndV, tOrV, tOr, V.bl.injEq, V.int.injEq, V.str.injEq, exists_eq_left', exists_eq_left, exists_eq', true_and, and_true, cIsN, L2.start, gTup, gCons, gNil, nox_K, cx_K, tCallF, tSl, tPart, tNoPart, iEnum, RZ.iZipA, iRng1, iRng2, cAbs, List.map_cons, List.map_nil, List.length_cons, List.length_nil, List.replicate, List.cons_append, List.nil_append, List.getElem?_cons_zero, List.getElem?_cons_succ, List.getElem?_nil, List.set_cons_zero, List.set_cons_succ, Nat.reduceAdd, Nat.reduceSub, Nat.zero_add, if_true, if_false, reduceIte, reduceCtorEq, Bool.false_eq_true, decide_eq_true_eq, tDrop, cMin2, cJoin, iList, tDNewK, tLc_eq, iStr, wipe])
      refine ⟨_, rfl, by omega, by omega, ?_⟩
      rw [Int.toNat_natCast]
      refine lp_range (fun k σ H' => ∃ u3, σ = [some (.str t), some (.int (e : Nat)), some (.str "abcdefghijklmnopqrstuvwxyzABCDEFGHIJKLMNOPQRSTUVWXYZ"), u3] ∧ H' = H ∧ (k = 0 ∨ (badHead m = false ∧ k ≤ fo m SCHT))) ⟨_, rfl, rfl, .inl rfl⟩ ?_ ?_
      · rintro k σ H' hk ⟨u3, rfl, rfl, hi⟩
        have hkl : k < (tl t).length := by omega
        have hc : (tl t)[k]? = some (tl t)[k] := List.getElem?_eq_getElem hkl
        generalize (tl t)[k] = c at hc
        have hmc : m[k]? = some c := by rw [← hm, List.getElem?_take_of_lt hk]; exact hc
        (try simp only [tSeq, tNext, tIfS, tFor_eq, cBl, tOp, tC, cI, cIc, cAdd, cVar, hEq, hNe, hIn, hNotIn, hLen, hSl, tM1, tBM, cT1, cT1f, cFind3, cSplit, cPart, rNewStrs, hIsS, hTru, tAsg, gName, gSub, tRet, tRetN, tCons, tNil, tTup, tLst, tCB, tNot, tAnd, tNotV, tAndV, tOrV, tOr, V.bl.injEq, V.int.injEq, V.str.injEq, exists_eq_left', exists_eq_left, exists_eq', true_and, and_true, cIsN, L2.start, gTup, gCons, gNil, nox_K, cx_K, tCallF, tSl, tPart, tNoPart, iEnum, RZ.iZipA, iRng1, iRng2, cAbs, List.map_cons, List.map_nil, List.length_cons, List.length_nil, List.replicate, List.cons_append, List.nil_append, List.getElem?_cons_zero, List.getElem?_cons_succ, List.getElem?_nil, List.set_cons_zero, List.set_cons_succ, Nat.reduceAdd, Nat.reduceSub, Nat.zero_add, if_true, if_false, reduceIte, reduceCtorEq, Bool.false_eq_true, decide_eq_true_eq, tDrop, cMin2, cJoin, iList, tDNewK, tLc_eq, iStr, wipe])
        rw [Int.zero_add]
        refine hIx_str (by omega) (atI_nat hc) ?_
        dsimp only
        rw [isIn_one, eL]
        have hsc := scht c
        have bad : (k = 0 ∧ LETT.contains c = false) → badHead m = true := by
          rintro ⟨rfl, h⟩
          rcases m with _ | ⟨d, r⟩
          · cases hmc
          · cases hmc
            show (!LETT.contains c) = true
            rw [h]; rfl
        have good : (k = 0 ∧ LETT.contains c = true) → badHead m = false := by
          rintro ⟨rfl, h⟩
          rcases m with _ | ⟨d, r⟩
          · cases hmc
          · cases hmc
            show (!LETT.contains c) = false
            rw [h]; rfl
        cases hL : LETT.contains c with
        | true =>
          rw [if_neg (by decide)]
          rw [hL, Bool.true_or] at hsc
          refine ⟨_, rfl, rfl, .inr ?_⟩
          rcases hi with rfl | ⟨h1, h2⟩
          · exact ⟨good ⟨rfl, hL⟩, fo_step (Nat.zero_le _) hmc hsc⟩
          · exact ⟨h1, fo_step h2 hmc hsc⟩
        | false =>
          rw [if_pos (show (!false) = true from rfl)]
          by_cases hk0 : k = 0
          · subst hk0
            rw [if_pos (by rfl)]
            refine ⟨by omega, fun p hp => ⟨by omega, fun p2 hp2 => q _ _ ((Ext.rf.fresh hp).fresh hp2) ?_⟩⟩
            have : wSch m = some (kC, 0) := by unfold wSch; rw [if_pos (bad ⟨rfl, hL⟩)]
            rw [this]
            exact RL.one hp hp2
          · rw [if_neg (by omega)]
            refine hIx_str (by omega) (atI_nat hc) ?_
            dsimp only
            rw [isIn_one]
            rw [hL, Bool.false_or] at hsc
            obtain ⟨h1, h2⟩ := hi.resolve_left hk0
            rw [← hsc]
            cases hS : SCHT.contains c with
            | true =>
              rw [if_neg (by decide)]
              exact ⟨_, rfl, rfl, .inr ⟨h1, fo_step h2 hmc hS⟩⟩
            | false =>
              rw [if_pos (show (!false) = true from rfl)]
              have hst := fo_stop h2 hmc hS
              refine ⟨by omega, fun p hp => ⟨by omega, fun p2 hp2 => q _ _ ((Ext.rf.fresh hp).fresh hp2) ?_⟩⟩
              have : wSch m = some (kC, k) := by
                unfold wSch
                rw [if_neg (by rw [h1]; decide), if_pos (by omega), hst]
              rw [this]
              exact RL.one hp hp2
      · rintro σ H' ⟨u3, rfl, rfl, hi⟩
        refine hN _ _ ⟨_, _, rfl, rfl, fun h0 => ?_⟩
        obtain ⟨h1, h2⟩ := hi.resolve_left (by omega)
        unfold wSch
        rw [if_neg (by rw [h1]; decide), if_neg (by omega)]
    · rintro σ H' ⟨u2, u3, rfl, rfl, hw⟩
      unfold tRet tIf
      (try simp only [tSeq, tNext, tIfS, tFor_eq, cBl, tOp, tC, cI, cIc, cAdd, cVar, hEq, hNe, hIn, hNotIn, hLen, hSl, tM1, tBM, cT1, cT1f, cFind3, cSplit, cPart, rNewStrs, hIsS, hTru, tAsg, gName, gSub, tRet, tRetN, tCons, tNil, tTup, tLst, tCB, tNot, tAnd, tNotV, tAndV, tOrV, tOr, V.bl.injEq, V.int.injEq, V.str.injEq, exists_eq_left', exists_eq_left, exists_eq', true_and, and_true, cIsN, L2.start, gTup, gCons, gNil, nox_K, cx_K, tCallF, tSl, tPart, tNoPart, iEnum, RZ.iZipA, iRng1, iRng2, cAbs, List.map_cons, List.map_nil, List.length_cons, List.length_nil, List.replicate, List.cons_append, List.nil_append, List.getElem?_cons_zero, List.getElem?_cons_succ, List.getElem?_nil, List.set_cons_zero, List.set_cons_succ, Nat.reduceAdd, Nat.reduceSub, Nat.zero_add, if_true, if_false, reduceIte, reduceCtorEq, Bool.false_eq_true, decide_eq_true_eq, tDrop, cMin2, cJoin, iList, tDNewK, tLc_eq, iStr, wipe])
      by_cases h0 : e = 0
      · rw [if_pos (by omega)]
        refine ⟨by omega, fun p hp => ⟨by omega, fun p2 hp2 => q _ _ ((Ext.rf.fresh hp).fresh hp2) ?_⟩⟩
        have : wSch m = some (kC, 0) := by
          have : m = [] := List.length_eq_zero_iff.mp (by omega)
          rw [this]
          rfl
        rw [this]
        exact RL.one hp hp2
      · rw [if_neg (by omega)]
        refine ⟨by omega, fun p hp => q _ _ (Ext.rf.fresh hp) ⟨p, rfl, ?_⟩⟩
        rw [hw (by omega)]
        exact upd_self
theorem cEq_nil {K : PySem.W.Frag} {H : Hp} {p q : Addr} {xs : List V} {ds : List PyData} {Q : VK} (hp : H p = some (.lst xs)) (hq : H q = some (.lst [])) (hd : DpAll K H xs ds) (hs : SeqAt.shaped (.list ds) = true) (h : Q (.bl ds.isEmpty) H) : cEq K false (.ref p) (.ref q) H Q := hEq_nil (K := K) hp hq hd hs h
/-- a place moved on -/
def mv (n : Nat) (o : KP) : KP := o.map fun r => (r.1, n + r.2)
def spLPort : Sp := fun vs H Q _ => match vs with
  | [.str t, .int b, .int e] => ∃ b' e' : Nat, b = (b' : Nat) ∧ e = (e' : Nat) ∧ b' ≤ e' ∧ e' ≤ t.length ∧ t.length ≤ (100000 : Nat) ∧ Sg t ∧ ∀ v H', Ext H H' → RL H' v (mv b' (wPort (((tl t).take e').drop b'))) → Q v H'
  | _ => False
theorem fo_all' {l S : T} : (l.all S.contains = true) ↔ fo l S = l.length := by
  constructor
  · intro h
    have h' := List.all_eq_true.mp h
    rcases Nat.lt_or_ge (fo l S) l.length with h1 | h1
    · obtain ⟨d, h2, h3⟩ := fo_at h1
      rw [h' d (List.mem_of_getElem? h2)] at h3
      cases h3
    · have := fo_le l S; omega
  · intro h
    exact List.all_eq_true.mpr (fo_all h)
theorem ok__law_wrong_port (c : Ct w K mg) : OkF P w K mg base CX0 1 (He.ga K "_law_wrong_port") ["text", "begin", "end"] (spLPort) := by
  obtain ⟨fd, F⟩ := F__law_wrong_port c
  refine ⟨fd, F.ok sc__law_wrong_port (fun vs H Q E h => ?_) (fun cdv A outer s H vs Q E hr h => ⟨_, PSs.nox ((pss_cons (ps_set (i := 3) (sc__law_wrong_port).nd rfl (Or.inl rfl) (pe_slice hs_any (cv 0) (po_some (cv 1)) (po_some (pe_callB (cc_min2 rfl) (by rfl) (b_min c) (by decide +kernel) (pa_cons (cv 2) (pa_cons (pe_op co_add (cv 1) pe_int) pa_nil)))))) (pss_cons (ps_if (PW.pt (pw_and (ctc (ho_eq (hu64 hr)) (pe_callB hc_len (by rfl) (b_len c) (by decide +kernel) (pa_cons (cv 3) pa_nil)) pe_int (by rfl)) (pw_and (ctc (ho_eq (hu64 hr)) (pe_lc rfl (sc__law_wrong_port).nd (pi_str (cv 3)) (blkOk_by (own := [("sign", 4)]) (by rfl)) (fun _ _ _ _ _ => pg_name (i := 4) (sc__law_wrong_port).nd rfl (Or.inl rfl)) (fun _ _ _ _ _ => (pts_one (ctc (r := hNotIn K) ho_notIn (cv 4) pe_str (by rfl)))) (fun _ _ _ _ _ => (cv 4))) (pe_lst pa_nil) (by rfl)) (pw_and1 (ctc co_gt (pe_callTy call_int_str (by rfl) (b_int c) (by decide +kernel) (pa_cons (cv 3) pa_nil)) pe_int (by rfl)))))) (pss_one (ps_ret (pe_lst (pa_cons (pe_tup (pa_cons (cv 1) (pa_cons pe_str pa_nil))) pa_nil)))) pss_nil) (pss_cons (ps_for PassesOwn.never rfl (pi_range2 rfl (b_range c) (pa_cons (cv 1) (pa_cons (cv 2) pa_nil))) (pg_name (i := 5) (sc__law_wrong_port).nd rfl (Or.inl rfl)) (pss_one (ps_if (PW.pt (pw_or (ctc ho_notIn (hix (cv 0) (cv 5)) pe_str (by rfl)) (pw_or1 (ctc (ho_eq (hu64 hr)) (cv 5) (pe_op co_add (cv 1) pe_int) (by rfl))))) (pss_one (ps_ret (pe_lst (pa_cons (pe_tup (pa_cons (cv 5) (pa_cons pe_str pa_nil))) pa_nil)))) pss_nil))) (pss_one (ps_ret (pe_lst pa_nil))))))), ?_⟩), F.bindsN fun _ _ _ _ _ _ us hl => match us, hl with | [_, _, _], _ => rfl⟩
  · unfold spLPort at h
    split at h
    · rfl
    · exact h.elim
  · unfold spLPort at h
    split at h
    case h_2 => exact h.elim
    rename_i t b e
    obtain ⟨b, e, rfl, rfl, hbe, hel, ht, hs, q⟩ := h
    have sl := sl
    have hl := TL.len_tl t
    generalize hm : ((tl t).take e).drop b = m at *
    have hml : m.length = e - b := by rw [← hm, List.length_drop, List.length_take]; omega
    refine seqStep ?_
    (try simp only [tNext, tFor_eq, cBl, tOp, tC, cI, cIc, cAdd, cVar, hEq, hNe, hIn, hNotIn, hLen, hSl, tM1, tBM, cT1, cT1f, cFind3, cSplit, cPart, rNewStrs, hIsS, hTru, tAsg, gName, gSub, tRet, tRetN, tCons, tNil, tTup, tLst, tCB, tNot, tAnd, tNotV, tAndV, tOrV, tOr, V.bl.injEq, V.int.injEq, V.str.injEq, exists_eq_left', exists_eq_left, exists_eq', true_and, and_true, cIsN, L2.start, gTup, gCons, gNil, nox_K, cx_K, tCallF, tSl, tPart, tNoPart, iEnum, RZ.iZipA, iRng1, iRng2, cAbs, List.map_cons, List.map_nil, List.length_cons, List.length_nil, List.replicate, List.cons_append, List.nil_append, List.getElem?_cons_zero, List.getElem?_cons_succ, List.getElem?_nil, List.set_cons_zero, List.set_cons_succ, Nat.reduceAdd, Nat.reduceSub, Nat.zero_add, if_true, if_false, reduceIte, reduceCtorEq, Bool.false_eq_true, decide_eq_true_eq, tDrop, cMin2, cJoin, iList, tDNewK, tLc_eq, iStr, wipe])
    have em : (if ((b : Nat) : Int) + 5 < ((e : Nat) : Int) then ((b : Nat) : Int) + 5 else ((e : Nat) : Int)) = ((min e (b + 5) : Nat) : Int) := by
      split <;> omega
    rw [em]
    refine ⟨by omega, ?_⟩
    have hh := cutMN t b (min e (b + 5))
    have hcl := cutS_len t (some ((b : Nat) : Int)) (some ((min e (b + 5) : Nat) : Int))
    have e5 : ((tl t).drop b).take (min e (b + 5) - b) = m.take 5 := by
      rw [← hm, List.drop_take, List.take_take]
      congr 1
      omega
    rw [e5] at hh
    have hhs : Sg (cutS t (some ((b : Nat) : Int)) (some ((min e (b + 5) : Nat) : Int))) := hs.cut
    generalize cutS t (some ((b : Nat) : Int)) (some ((min e (b + 5) : Nat) : Int)) = hd at *
    have hdl := TL.len_tl hd
    rw [hh] at hdl
    have hf5 := fo_le (m.take 5) DIGT
    have hm5 : (m.take 5).length = min 5 m.length := List.length_take
    refine seqCps (fun σ H' => ∃ u4 u5, σ = [some (.str t), some (.int (b : Nat)), some (.int (e : Nat)), some (.str hd), u4, u5] ∧ Ext H H' ∧ ¬ (fo (m.take 5) DIGT = 5 ∧ 65535 < val5 (m.take 5))) (fun Nx hN => ?_) ?_
    · (try simp only [tSeq, tNext, tIfS, tFor_eq, cBl, tOp, tC, cI, cIc, cAdd, cVar, hEq, hNe, hIn, hNotIn, hLen, hSl, tM1, tBM, cT1, cT1f, cFind3, cSplit, cPart, rNewStrs, hIsS, hTru, tAsg, gName, gSub, tRet, tRetN, tCons, tNil, tTup, tLst, tCB, tNot, tAnd, tNotV, tAndV, tOrV, tOr, V.bl.injEq, V.int.injEq, V.str.injEq, exists_eq_left', exists_eq_left, exists_eq', true_and, and_true, cIsN, L2.start, gTup, gCons, gNil, nox_K, cx_K, tCallF, tSl, tPart, tNoPart, iEnum, RZ.iZipA, iRng1, iRng2, cAbs, List.map_cons, List.map_nil, List.length_cons, List.length_nil, List.replicate, List.cons_append, List.nil_append, List.getElem?_cons_zero, List.getElem?_cons_succ, List.getElem?_nil, List.set_cons_zero, List.set_cons_succ, Nat.reduceAdd, Nat.reduceSub, Nat.zero_add, if_true, if_false, reduceIte, reduceCtorEq, Bool.false_eq_true, decide_eq_true_eq, tDrop, cMin2, cJoin, iList, tDNewK, tLc_eq, iStr, wipe])
      refine ⟨by omega, ?_⟩
      have eD : tl (Str.ofString "0123456789") = DIGT := rfl
      by_cases h5 : hd.length = 5
      · rw [if_pos (by omega)]
        intro D hD
        refine lc_lack (by simp) hD (by omega) fun H1 he hd1 => ⟨by omega, fun p hp => ?_⟩
        refine cEq_nil (upd_old hd1 hp) upd_self (dpStrs _) (shStrs (lack_sg hhs)) ?_
        rw [lack_nil, hh, eD]
        dsimp only
        by_cases ha : (m.take 5).all DIGT.contains = true
        · rw [if_pos ha]
          have hf := fo_all'.mp ha
          have had := fo_all hf
          have hi := PySem.intText_digits (x := hd) (by rw [show hd.cps.toList = m.take 5 from hh]; exact fun d hd => dig_iff (had d hd))
            (by rw [show hd.cps.toList = m.take 5 from hh]; intro z; rw [z] at hdl; rw [hdl] at h5; exact absurd h5 (by decide)) (by omega)
          rw [show hd.cps.toList = m.take 5 from hh] at hi
          refine ⟨hd, _, rfl, hi, by omega, ?_⟩
          have ev : NumText.digitsVal (m.take 5) = val5 (m.take 5) := rfl
          rw [ev]
          by_cases hv : 65535 < val5 (m.take 5)
          · rw [if_pos (by omega)]
            refine ⟨by omega, fun p2 hp2 => ⟨by omega, fun p3 hp3 => q _ _ (((he.fresh hp).fresh hp2).fresh hp3) ?_⟩⟩
            have : mv b (wPort m) = some (kP, b) := by
              unfold wPort
              rw [if_pos ⟨by omega, hv⟩]
              rfl
            rw [this]
            exact RL.one hp2 hp3
          · rw [if_neg (by omega)]
            exact hN _ _ ⟨_, _, rfl, he.fresh hp, fun z => hv z.2⟩
        · rw [if_neg ha]
          exact hN _ _ ⟨_, _, rfl, he.fresh hp, fun z => ha (fo_all'.mpr (by omega))⟩
      · rw [if_neg (by omega)]
        exact hN _ _ ⟨_, _, rfl, Ext.rf, fun z => h5 (by omega)⟩
    · rintro σ H1 ⟨u4, u5, rfl, he, hn⟩
      have ew : wPort m = if fo (m.take 5) DIGT < m.length then some (kP, fo (m.take 5) DIGT) else none := by
        unfold wPort
        rw [if_neg hn]
      (try simp only [tSeq, tNext, tIfS, tFor_eq, cBl, tOp, tC, cI, cIc, cAdd, cVar, hEq, hNe, hIn, hNotIn, hLen, hSl, tM1, tBM, cT1, cT1f, cFind3, cSplit, cPart, rNewStrs, hIsS, hTru, tAsg, gName, gSub, tRet, tRetN, tCons, tNil, tTup, tLst, tCB, tNot, tAnd, tNotV, tAndV, tOrV, tOr, V.bl.injEq, V.int.injEq, V.str.injEq, exists_eq_left', exists_eq_left, exists_eq', true_and, and_true, cIsN, L2.start, gTup, gCons, gNil, nox_K, cx_K, tCallF, tSl, tPart, tNoPart, iEnum, RZ.iZipA, iRng1, iRng2, cAbs, List.map_cons, List.map_nil, List.length_cons, List.length_nil, List.replicate, List.cons_append, List.nil_append, List.getElem?_cons_zero, List.getElem?_cons_succ, List.getElem?_nil, List.set_cons_zero, List.set_cons_succ, Nat.reduceAdd, Nat.reduceSub, Nat.zero_add, if_true, if_false, reduceIte, reduceCtorEq, Bool.false_eq_true, decide_eq_true_eq, tDrop, cMin2, cJoin, iList, tDNewK, tLc_eq, iStr, wipe])
      refine ⟨_, _, rfl, ⟨by omega, by omega, by omega, by omega⟩, ?_⟩
      rw [show (((e : Nat) : Int) - ((b : Nat) : Int)).toNat = e - b by omega]
      refine lp_range (fun k σ H' => ∃ u5, σ = [some (.str t), some (.int (b : Nat)), some (.int (e : Nat)), some (.str hd), u4, u5] ∧ H' = H1 ∧ k ≤ fo (m.take 5) DIGT) ⟨_, rfl, rfl, Nat.zero_le _⟩ ?_ ?_
      · rintro k σ H' hk ⟨u5, rfl, rfl, hi⟩
        have hkl : b + k < (tl t).length := by omega
        have hc : (tl t)[b + k]? = some (tl t)[b + k] := List.getElem?_eq_getElem hkl
        generalize (tl t)[b + k] = c at hc
        have hmc : m[k]? = some c := by rw [← hm, List.getElem?_drop, List.getElem?_take_of_lt (by omega)]; exact hc
        have eD : tl (Str.ofString "0123456789") = DIGT := rfl
        (try simp only [tSeq, tNext, tIfS, tFor_eq, cBl, tOp, tC, cI, cIc, cAdd, cVar, hEq, hNe, hIn, hNotIn, hLen, hSl, tM1, tBM, cT1, cT1f, cFind3, cSplit, cPart, rNewStrs, hIsS, hTru, tAsg, gName, gSub, tRet, tRetN, tCons, tNil, tTup, tLst, tCB, tNot, tAnd, tNotV, tAndV, tOrV, tOr, V.bl.injEq, V.int.injEq, V.str.injEq, exists_eq_left', exists_eq_left, exists_eq', true_and, and_true, cIsN, L2.start, gTup, gCons, gNil, nox_K, cx_K, tCallF, tSl, tPart, tNoPart, iEnum, RZ.iZipA, iRng1, iRng2, cAbs, List.map_cons, List.map_nil, List.length_cons, List.length_nil, List.replicate, List.cons_append, List.nil_append, List.getElem?_cons_zero, List.getElem?_cons_succ, List.getElem?_nil, List.set_cons_zero, List.set_cons_succ, Nat.reduceAdd, Nat.reduceSub, Nat.zero_add, if_true, if_false, reduceIte, reduceCtorEq, Bool.false_eq_true, decide_eq_true_eq, tDrop, cMin2, cJoin, iList, tDNewK, tLc_eq, iStr, wipe])
        rw [show ((b : Nat) : Int) + ((k : Nat) : Int) = ((b + k : Nat) : Int) by omega]
        refine hIx_str (by omega) (atI_nat hc) ?_
        dsimp only
        rw [isIn_one, eD]
        have fin : fo (m.take 5) DIGT = k → ∀ p p2, H' p = none → upd H' p (.tup [.int ((b + k : Nat) : Int), .str "port"]) p2 = none → Q (.ref p2) (upd (upd H' p (.tup [.int ((b + k : Nat) : Int), .str "port"])) p2 (.lst [.ref p])) := by
          intro hf p p2 hp hp2
          refine q _ _ ((he.fresh hp).fresh hp2) ?_
          have : mv b (wPort m) = some (kP, b + k) := by
            rw [ew, hf, if_pos (by omega)]
            rfl
          rw [this]
          exact RL.one hp hp2
        by_cases hk5 : k < 5
        · have hm5c : (m.take 5)[k]? = some c := by rw [List.getElem?_take_of_lt hk5]; exact hmc
          cases hS : DIGT.contains c with
          | false =>
            rw [if_pos (show (!false) = true from rfl)]
            refine ⟨by omega, fun p hp => ⟨by omega, fun p2 hp2 => fin (fo_stop hi hm5c hS) p p2 hp hp2⟩⟩
          | true =>
            rw [if_neg (by decide), if_neg (by omega)]
            exact ⟨_, rfl, rfl, fo_step hi hm5c hS⟩
        · have hf : fo (m.take 5) DIGT = k := by omega
          have hk55 : k = 5 := by omega
          cases hS : DIGT.contains c with
          | false =>
            rw [if_pos (show (!false) = true from rfl)]
            exact ⟨by omega, fun p hp => ⟨by omega, fun p2 hp2 => fin hf p p2 hp hp2⟩⟩
          | true =>
            rw [if_neg (by decide), if_pos (by omega)]
            exact ⟨by omega, fun p hp => ⟨by omega, fun p2 hp2 => fin hf p p2 hp hp2⟩⟩
      · rintro σ H' ⟨u5, rfl, rfl, hi⟩
        (try simp only [tSeq, tNext, tIfS, tFor_eq, cBl, tOp, tC, cI, cIc, cAdd, cVar, hEq, hNe, hIn, hNotIn, hLen, hSl, tM1, tBM, cT1, cT1f, cFind3, cSplit, cPart, rNewStrs, hIsS, hTru, tAsg, gName, gSub, tRet, tRetN, tCons, tNil, tTup, tLst, tCB, tNot, tAnd, tNotV, tAndV, tOrV, tOr, V.bl.injEq, V.int.injEq, V.str.injEq, exists_eq_left', exists_eq_left, exists_eq', true_and, and_true, cIsN, L2.start, gTup, gCons, gNil, nox_K, cx_K, tCallF, tSl, tPart, tNoPart, iEnum, RZ.iZipA, iRng1, iRng2, cAbs, List.map_cons, List.map_nil, List.length_cons, List.length_nil, List.replicate, List.cons_append, List.nil_append, List.getElem?_cons_zero, List.getElem?_cons_succ, List.getElem?_nil, List.set_cons_zero, List.set_cons_succ, Nat.reduceAdd, Nat.reduceSub, Nat.zero_add, if_true, if_false, reduceIte, reduceCtorEq, Bool.false_eq_true, decide_eq_true_eq, tDrop, cMin2, cJoin, iList, tDNewK, tLc_eq, iStr, wipe])
        refine ⟨by omega, fun p hp => q _ _ (he.fresh hp) ⟨p, rfl, ?_⟩⟩
        have : mv b (wPort m) = none := by
          rw [ew, if_neg (by omega)]; rfl
        rw [this]
        exact upd_self
end
end Da
set_option Elab.async false
set_option linter.all false
set_option maxRecDepth 100000
set_option maxHeartbeats 4000000
namespace Da
open PySem PySem.Spec PyProof.Rows L2 Hd Xs Fx Mi ClX Xr
open TL (tl)
/-- the law's reading of brackets: the wrong place, and where the host ends -/
def brR (m : T) : KP × Nat := if fo (m.drop 1) BRKT = 0 ∨ (m.drop (1 + fo (m.drop 1) BRKT)).take 1 ≠ [93] then (some (kH, 1 + fo (m.drop 1) BRKT), match ixf 93 m 0 m.length with
    | some k => k + 1
    | none => m.length)
  else if 1 + fo (m.drop 1) BRKT + 1 < m.length ∧ (m.drop (1 + fo (m.drop 1) BRKT + 1)).take 1 ≠ [58] then (some (kH, 1 + fo (m.drop 1) BRKT + 1), 1 + fo (m.drop 1) BRKT + 1) else (none, 1 + fo (m.drop 1) BRKT + 1)
def spLBr : Sp := fun vs H Q _ => match vs with
  | [.str t, .int b, .int e] => ∃ b' e' : Nat, b = (b' : Nat) ∧ e = (e' : Nat) ∧ b' < e' ∧ e' ≤ t.length ∧ t.length ≤ (100000 : Nat) ∧ ∀ r v H', Ext H H' → H' r = some (.tup [v, .int ((b' + (brR (((tl t).take e').drop b')).2 : Nat) : Int)]) → RL H' v (mv b' (brR (((tl t).take e').drop b')).1) → Q (.ref r) H'
  | _ => False
theorem take1 {m : T} {k c : Nat} : (m.drop k).take 1 = [c] ↔ m[k]? = some c := by
  constructor
  · intro h
    have h2 : ((m.drop k).take 1)[0]? = some c := by rw [h]; rfl
    rw [List.getElem?_take_of_lt (by decide), List.getElem?_drop] at h2
    simpa using h2
  · intro h
    obtain ⟨hk, e⟩ := List.getElem?_eq_some_iff.mp h
    rw [List.drop_eq_getElem_cons hk, e]
    rfl
section
variable {P : Program} {w : World} {K : PySem.W.Frag} {mg : Str → Option Value} {base : Heap}
theorem ok__law_wrong_bracket (c : Ct w K mg) : OkF P w K mg base CX0 1 (He.ga K "_law_wrong_bracket") ["text", "begin", "end"] (spLBr) := by
  obtain ⟨fd, F⟩ := F__law_wrong_bracket c
  refine ⟨fd, F.ok sc__law_wrong_bracket (fun vs H Q E h => ?_) (fun cdv A outer s H vs Q E hr h => ⟨_, PSs.nox ((pss_cons (ps_set (i := 3) (sc__law_wrong_bracket).nd rfl (Or.inl rfl) (pe_op co_add (cv 1) pe_int)) (pss_cons (ps_while PassesOwn.never (PW.pt (pw_and (ctc co_lt (cv 3) (cv 2) (by rfl)) (pw_and1 (ctc ho_in (hix (cv 0) (cv 3)) pe_str (by rfl))))) (pss_one (ps_set (i := 3) (sc__law_wrong_bracket).nd rfl (Or.inl rfl) (pe_op co_add (cv 3) pe_int)))) (pss_cons (ps_if (PW.pt (pw_or (ctc (ho_eq (hu64 hr)) (cv 3) (cv 2) (by rfl)) (pw_or (ctc (ho_ne (hu64 hr)) (hix (cv 0) (cv 3)) pe_str (by rfl)) (pw_or1 (ctc (ho_eq (hu64 hr)) (cv 3) (pe_op co_add (cv 1) pe_int) (by rfl)))))) (pss_cons (ps_set (i := 4) (sc__law_wrong_bracket).nd rfl (Or.inl rfl) (pe_bm PySem.F.plainAttrs_str PySem.F.slot_str_find PySem.F.type_str_find cm_find3 (cv 0) (pa_cons pe_str (pa_cons (cv 1) (pa_cons (cv 2) pa_nil))))) (pss_one (ps_ret (pe_tup (pa_cons (pe_lst (pa_cons (pe_tup (pa_cons (cv 3) (pa_cons pe_str pa_nil))) pa_nil)) (pa_cons (pe_ifExp (ctc co_lt (cv 4) pe_int (by rfl)) (cv 2) (pe_op co_add (cv 4) pe_int)) pa_nil)))))) pss_nil) (pss_cons (ps_if (PW.pt (pw_and (ctc co_lt (pe_op co_add (cv 3) pe_int) (cv 2) (by rfl)) (pw_and1 (ctc (ho_ne (hu64 hr)) (hix (cv 0) (pe_op co_add (cv 3) pe_int)) pe_str (by rfl))))) (pss_one (ps_ret (pe_tup (pa_cons (pe_lst (pa_cons (pe_tup (pa_cons (pe_op co_add (cv 3) pe_int) (pa_cons pe_str pa_nil))) pa_nil)) (pa_cons (pe_op co_add (cv 3) pe_int) pa_nil))))) pss_nil) (pss_one (ps_ret (pe_tup (pa_cons (pe_lst pa_nil) (pa_cons (pe_op co_add (cv 3) pe_int) pa_nil)))))))))), ?_⟩), F.bindsN fun _ _ _ _ _ _ us hl => match us, hl with | [_, _, _], _ => rfl⟩
  · unfold spLBr at h
    split at h
    · rfl
    · exact h.elim
  · unfold spLBr at h
    split at h
    case h_2 => exact h.elim
    rename_i t b e
    obtain ⟨b, e, rfl, rfl, hbe, hel, ht, q⟩ := h
    have sl := sl
    have hl := TL.len_tl t
    have hix : ixf 93 (tl t) b e = (if (((tl t).take e).drop b).contains 93 = true then some (b + (bef 93 (((tl t).take e).drop b)).length) else none) := rfl
    generalize hm : ((tl t).take e).drop b = m at *
    have hml : m.length = e - b := by rw [← hm, List.length_drop, List.length_take]; omega
    have hg : ∀ k, k < m.length → ∃ c, (tl t)[b + k]? = some c ∧ m[k]? = some c := fun k hk => by
      have hkl : b + k < (tl t).length := by omega
      refine ⟨(tl t)[b + k], List.getElem?_eq_getElem hkl, ?_⟩
      rw [← hm, List.getElem?_drop, List.getElem?_take_of_lt (by omega)]
      exact List.getElem?_eq_getElem hkl
    have hd1 : ∀ k, (m.drop 1)[k]? = m[1 + k]? := fun k => List.getElem?_drop
    have hfl := fo_le (m.drop 1) BRKT
    have hdl : (m.drop 1).length = m.length - 1 := List.length_drop
    have eB : ∀ c, (tl (Str.ofString "0123456789abcdefABCDEF:.")).contains c = BRKT.contains c := fun c => contains_eq (by decide +kernel) (by decide +kernel) c
    refine seqStep ?_
    (try simp only [tNext, tFor_eq, cBl, tOp, tC, cI, cIc, cAdd, cVar, hEq, hNe, hIn, hNotIn, hLen, hSl, tM1, tBM, cT1, cT1f, cFind3, cSplit, cPart, rNewStrs, hIsS, hTru, tAsg, gName, gSub, tRet, tRetN, tCons, tNil, tTup, tLst, tCB, tNot, tAnd, tNotV, tAndV, tOrV, tOr, V.bl.injEq, V.int.injEq, V.str.injEq, exists_eq_left', exists_eq_left, exists_eq', true_and, and_true, cIsN, L2.start, gTup, gCons, gNil, nox_K, cx_K, tCallF, tSl, tPart, tNoPart, iEnum, RZ.iZipA, iRng1, iRng2, cAbs, List.map_cons, List.map_nil, List.length_cons, List.length_nil, List.replicate, List.cons_append, List.nil_append, List.getElem?_cons_zero, List.getElem?_cons_succ, List.getElem?_nil, List.set_cons_zero, List.set_cons_succ, Nat.reduceAdd, Nat.reduceSub, Nat.zero_add, if_true, if_false, reduceIte, reduceCtorEq, Bool.false_eq_true, decide_eq_true_eq, tDrop, cMin2, cJoin, iList, tDNewK, tLc_eq, iStr, wipe])
    unfold brR at q
    refine seqCps (fun σ H' => σ = [some (.str t), some (.int (b : Nat)), some (.int (e : Nat)), some (.int ((b + (1 + fo (m.drop 1) BRKT) : Nat) : Int)), none] ∧ H' = H) (fun Nx hN => ?_) ?_
    · refine lp_while (fun σ H' => ∃ k : Nat, σ = [some (.str t), some (.int (b : Nat)), some (.int (e : Nat)), some (.int ((b + (1 + k) : Nat) : Int)), none] ∧ H' = H ∧ k ≤ fo (m.drop 1) BRKT) (fun σ _ => match σ[3]? with
        | some (some (V.int a)) => (e - a.toNat)
        | _ => 0) ⟨0, by rfl, rfl, Nat.zero_le _⟩ ?_
      rintro σ H1 ⟨k, rfl, rfl, hk⟩
      (try simp only [tSeq, tNext, tIfS, tFor_eq, cBl, tOp, tC, cI, cIc, cAdd, cVar, hEq, hNe, hIn, hNotIn, hLen, hSl, tM1, tBM, cT1, cT1f, cFind3, cSplit, cPart, rNewStrs, hIsS, hTru, tAsg, gName, gSub, tRet, tRetN, tCons, tNil, tTup, tLst, tCB, tNot, tAnd, tNotV, tAndV, tOrV, tOr, V.bl.injEq, V.int.injEq, V.str.injEq, exists_eq_left', exists_eq_left, exists_eq', true_and, and_true, cIsN, L2.start, gTup, gCons, gNil, nox_K, cx_K, tCallF, tSl, tPart, tNoPart, iEnum, RZ.iZipA, iRng1, iRng2, cAbs, List.map_cons, List.map_nil, List.length_cons, List.length_nil, List.replicate, List.cons_append, List.nil_append, List.getElem?_cons_zero, List.getElem?_cons_succ, List.getElem?_nil, List.set_cons_zero, List.set_cons_succ, Nat.reduceAdd, Nat.reduceSub, Nat.zero_add, if_true, if_false, reduceIte, reduceCtorEq, Bool.false_eq_true, decide_eq_true_eq, tDrop, cMin2, cJoin, iList, tDNewK, tLc_eq, iStr, wipe])
      by_cases hlt : b + (1 + k) < e
      · rw [if_pos (by omega)]
        obtain ⟨c, hc, hmc⟩ := hg (1 + k) (by omega)
        have hd := (hd1 k).trans hmc
        refine hIx_str (by omega) (atI_nat hc) ?_
        dsimp only
        rw [isIn_one, eB]
        cases hS : BRKT.contains c with
        | true =>
          rw [if_pos rfl]
          refine ⟨fun σ' H' => σ' = [some (.str t), some (.int (b : Nat)), some (.int (e : Nat)), some (.int ((b + (1 + (k + 1)) : Nat) : Int)), none] ∧ H' = H1, ?_, ?_, rfl⟩
          · rintro σ' H' ⟨rfl, rfl⟩
            refine ⟨e - (b + (1 + (k + 1))), ?_, ?_, k + 1, rfl, rfl, fo_step hk hd hS⟩
            · rw [Int.toNat_natCast]; omega
            · show _ = e - Int.toNat _
              rw [Int.toNat_natCast]
          · rw [show ((b + (1 + k) : Nat) : Int) + 1 = ((b + (1 + (k + 1)) : Nat) : Int) by omega]
        | false =>
          rw [if_neg (by decide)]
          have := fo_stop hk hd hS
          rw [this] at hN
          exact hN _ _ ⟨rfl, rfl⟩
      · rw [if_neg (by omega)]
        have : fo (m.drop 1) BRKT = k := by omega
        rw [this] at hN
        exact hN _ _ ⟨rfl, rfl⟩
    · rintro σ H1 ⟨rfl, rfl⟩
      have hn93 : (m.drop (1 + fo (m.drop 1) BRKT)).take 1 = [93] ↔ m[1 + fo (m.drop 1) BRKT]? = some 93 := take1
      generalize fo (m.drop 1) BRKT = n at *
      refine seqCps (fun σ H' => σ = [some (.str t), some (.int (b : Nat)), some (.int (e : Nat)), some (.int ((b + (1 + n) : Nat) : Int)), none] ∧ H' = H1 ∧ ¬ (n = 0 ∨ (m.drop (1 + n)).take 1 ≠ [93])) (fun Nx hN => ?_) ?_
      · have fin : (n = 0 ∨ (m.drop (1 + n)).take 1 ≠ [93]) → tyV K "str" (V.str t) H1 ∧
            2 ≤ sizeLine ∧ ∀ (p : Addr), H1 p = none → 1 ≤ sizeLine ∧ ∀ (p_1 : Addr), upd H1 p (HO.tup [V.int ((b + (1 + n) : Nat) : Int), V.str (Str.ofString "host")]) p_1 = none →
              tIf (cBl (tOp (cI fun i j => V.bl (decide (i < j))) (cVar 4) (tC (V.int 0)))) (cVar 2) (tOp (cAdd K) (cVar 4) (tC (V.int 1)))
                [some (V.str t), some (V.int (b : Nat)), some (V.int (e : Nat)), some (V.int ((b + (1 + n) : Nat) : Int)), some (V.int (Txt.findIn t (Str.ofString "]") ((b : Nat) : Int) ((e : Nat) : Int)))]
                (upd (upd H1 p (HO.tup [V.int ((b + (1 + n) : Nat) : Int), V.str (Str.ofString "host")])) p_1 (HO.lst [V.ref p]))
                fun x H1 => 2 ≤ sizeLine ∧ ∀ (p : Addr), H1 p = none → Q (V.ref p) (upd H1 p (HO.tup [V.ref p_1, x])) := by
          intro hc
          rw [if_pos hc] at q
          refine ⟨rfl, by omega, fun p hp => ⟨by omega, fun p1 hp1 => ?_⟩⟩
          rw [kbr_one, findIn_ix t 93 b e (by omega), hix]
          rw [ixf_all] at q
          have hq : ∀ x, x = ((b + (match (if m.contains 93 = true then some (bef 93 m).length else none) with | some k => k + 1 | none => m.length) : Nat) : Int) → ∀ p2, upd (upd H1 p (HO.tup [V.int ((b + (1 + n) : Nat) : Int), V.str (Str.ofString "host")])) p1 (HO.lst [V.ref p]) p2 = none →
              Q (.ref p2) (upd (upd (upd H1 p (HO.tup [V.int ((b + (1 + n) : Nat) : Int), V.str (Str.ofString "host")])) p1 (HO.lst [V.ref p])) p2 (HO.tup [V.ref p1, V.int x])) := by
            intro x hx p2 hp2
            subst hx
            refine q p2 (.ref p1) _ (((Ext.rf.fresh hp).fresh hp1).fresh hp2) upd_self ?_
            have hr := RL.one (k := kH) (i := b + (1 + n)) hp hp1
            obtain ⟨_, e1, q1, h1, h2⟩ := hr
            cases e1
            exact ⟨p1, rfl, q1, upd_old h1 hp2, upd_old h2 hp2⟩
          unfold tIf
          (try simp only [tSeq, tNext, tIfS, tFor_eq, cBl, tOp, tC, cI, cIc, cAdd, cVar, hEq, hNe, hIn, hNotIn, hLen, hSl, tM1, tBM, cT1, cT1f, cFind3, cSplit, cPart, rNewStrs, hIsS, hTru, tAsg, gName, gSub, tRet, tRetN, tCons, tNil, tTup, tLst, tCB, tNot, tAnd, tNotV, tAndV, tOrV, tOr, V.bl.injEq, V.int.injEq, V.str.injEq, exists_eq_left', exists_eq_left, exists_eq', true_and, and_true, cIsN, L2.start, gTup, gCons, gNil, nox_K, cx_K, tCallF, tSl, tPart, tNoPart, iEnum, RZ.iZipA, iRng1, iRng2, cAbs, List.map_cons, List.map_nil, List.length_cons, List.length_nil, List.replicate, List.cons_append, List.nil_append, List.getElem?_cons_zero, List.getElem?_cons_succ, List.getElem?_nil, List.set_cons_zero, List.set_cons_succ, Nat.reduceAdd, Nat.reduceSub, Nat.zero_add, if_true, if_false, reduceIte, reduceCtorEq, Bool.false_eq_true, decide_eq_true_eq, tDrop, cMin2, cJoin, iList, tDNewK, tLc_eq, iStr, wipe])
          cases hcn : m.contains 93 with
          | true =>
            simp only [hcn, if_true] at hq ⊢
            rw [if_neg (show ¬ ixI (some (b + (bef 93 m).length)) < 0 from fun z => by
              have : (0 : Int) ≤ ixI (some (b + (bef 93 m).length)) := Int.natCast_nonneg _
              omega)]
            exact ⟨by omega, fun p2 hp2 => hq _ (by
              show ((b + (bef 93 m).length : Nat) : Int) + 1 = ((b + ((bef 93 m).length + 1) : Nat) : Int)
              generalize (bef 93 m).length = L
              omega) p2 hp2⟩
          | false =>
            simp only [hcn, Bool.false_eq_true, if_false] at hq ⊢
            rw [if_pos (show ixI none < 0 by decide)]
            exact ⟨by omega, fun p2 hp2 => hq _ (by omega) p2 hp2⟩
        (try simp only [tSeq, tNext, tIfS, tFor_eq, cBl, tOp, tC, cI, cIc, cAdd, cVar, hEq, hNe, hIn, hNotIn, hLen, hSl, tM1, tBM, cT1, cT1f, cFind3, cSplit, cPart, rNewStrs, hIsS, hTru, tAsg, gName, gSub, tRet, tRetN, tCons, tNil, tTup, tLst, tCB, tNot, tAnd, tNotV, tAndV, tOrV, tOr, V.bl.injEq, V.int.injEq, V.str.injEq, exists_eq_left', exists_eq_left, exists_eq', true_and, and_true, cIsN, L2.start, gTup, gCons, gNil, nox_K, cx_K, tCallF, tSl, tPart, tNoPart, iEnum, RZ.iZipA, iRng1, iRng2, cAbs, List.map_cons, List.map_nil, List.length_cons, List.length_nil, List.replicate, List.cons_append, List.nil_append, List.getElem?_cons_zero, List.getElem?_cons_succ, List.getElem?_nil, List.set_cons_zero, List.set_cons_succ, Nat.reduceAdd, Nat.reduceSub, Nat.zero_add, if_true, if_false, reduceIte, reduceCtorEq, Bool.false_eq_true, decide_eq_true_eq, tDrop, cMin2, cJoin, iList, tDNewK, tLc_eq, iStr, wipe])
        by_cases hend : b + (1 + n) = e
        · rw [if_pos (by omega)]
          refine fin (.inr fun z => ?_)
          have := (List.getElem?_eq_some_iff.mp (hn93.mp z)).1
          omega
        · rw [if_neg (by omega)]
          obtain ⟨c, hc, hmc⟩ := hg (1 + n) (by omega)
          refine hIx_str (by omega) (atI_nat hc) ?_
          dsimp only
          by_cases h93 : c = 93
          · subst h93
            rw [if_neg (fun z => z (by rw [kbr_one]))]
            by_cases hn0 : n = 0
            · rw [if_pos (by omega)]
              exact fin (.inl hn0)
            · rw [if_neg (by omega)]
              exact hN _ _ ⟨rfl, rfl, fun z => z.elim hn0 fun z => z (hn93.mpr hmc)⟩
          · rw [if_pos (fun z => h93 (by
              rw [kbr_one] at z
              have := congrArg tl z
              exact (List.cons.inj this).1))]
            refine fin (.inr fun z => h93 ?_)
            have := hn93.mp z
            rw [hmc] at this
            exact Option.some.inj this
      · rintro σ H2 ⟨rfl, rfl, hn⟩
        rw [if_neg hn] at q
        have h93 : (m.drop (1 + n)).take 1 = [93] := Classical.byContradiction fun z => hn (.inr z)
        have hlen93 := (List.getElem?_eq_some_iff.mp (hn93.mp h93)).1
        have e1 : ((b + (1 + n) : Nat) : Int) + 1 = ((b + (1 + n + 1) : Nat) : Int) := by omega
        have fin : ¬ (1 + n + 1 < m.length ∧ (m.drop (1 + n + 1)).take 1 ≠ [58]) → tRet (tTup (tCons (tLst tNil) (tCons (tOp (cAdd K) (cVar 3) (tC (V.int 1))) tNil))) { nx := fun x H' => Q V.non H', rt := Q } [some (.str t), some (.int (b : Nat)), some (.int (e : Nat)), some (.int ((b + (1 + n) : Nat) : Int)), none] H2 := by
          intro hc
          rw [if_neg hc] at q
          (try simp only [tSeq, tNext, tIfS, tFor_eq, cBl, tOp, tC, cI, cIc, cAdd, cVar, hEq, hNe, hIn, hNotIn, hLen, hSl, tM1, tBM, cT1, cT1f, cFind3, cSplit, cPart, rNewStrs, hIsS, hTru, tAsg, gName, gSub, tRet, tRetN, tCons, tNil, tTup, tLst, tCB, tNot, tAnd, tNotV, tAndV, tOrV, tOr, V.bl.injEq, V.int.injEq, V.str.injEq, exists_eq_left', exists_eq_left, exists_eq', true_and, and_true, cIsN, L2.start, gTup, gCons, gNil, nox_K, cx_K, tCallF, tSl, tPart, tNoPart, iEnum, RZ.iZipA, iRng1, iRng2, cAbs, List.map_cons, List.map_nil, List.length_cons, List.length_nil, List.replicate, List.cons_append, List.nil_append, List.getElem?_cons_zero, List.getElem?_cons_succ, List.getElem?_nil, List.set_cons_zero, List.set_cons_succ, Nat.reduceAdd, Nat.reduceSub, Nat.zero_add, if_true, if_false, reduceIte, reduceCtorEq, Bool.false_eq_true, decide_eq_true_eq, tDrop, cMin2, cJoin, iList, tDNewK, tLc_eq, iStr, wipe])
          rw [e1]
          exact ⟨by omega, fun p hp => ⟨by omega, fun p2 hp2 => q p2 (.ref p) _ ((Ext.rf.fresh hp).fresh hp2) upd_self ⟨p, rfl, upd_old upd_self hp2⟩⟩⟩
        refine seqCps (fun σ H' => σ = [some (.str t), some (.int (b : Nat)), some (.int (e : Nat)), some (.int ((b + (1 + n) : Nat) : Int)), none] ∧ H' = H2 ∧ ¬ (1 + n + 1 < m.length ∧ (m.drop (1 + n + 1)).take 1 ≠ [58])) (fun Nx hN => ?_) ?_
        · (try simp only [tSeq, tNext, tIfS, tFor_eq, cBl, tOp, tC, cI, cIc, cAdd, cVar, hEq, hNe, hIn, hNotIn, hLen, hSl, tM1, tBM, cT1, cT1f, cFind3, cSplit, cPart, rNewStrs, hIsS, hTru, tAsg, gName, gSub, tRet, tRetN, tCons, tNil, tTup, tLst, tCB, tNot, tAnd, tNotV, tAndV, tOrV, tOr, V.bl.injEq, V.int.injEq, V.str.injEq, exists_eq_left', exists_eq_left, exists_eq', true_and, and_true, cIsN, L2.start, gTup, gCons, gNil, nox_K, cx_K, tCallF, tSl, tPart, tNoPart, iEnum, RZ.iZipA, iRng1, iRng2, cAbs, List.map_cons, List.map_nil, List.length_cons, List.length_nil, List.replicate, List.cons_append, List.nil_append, List.getElem?_cons_zero, List.getElem?_cons_succ, List.getElem?_nil, List.set_cons_zero, List.set_cons_succ, Nat.reduceAdd, Nat.reduceSub, Nat.zero_add, if_true, if_false, reduceIte, reduceCtorEq, Bool.false_eq_true, decide_eq_true_eq, tDrop, cMin2, cJoin, iList, tDNewK, tLc_eq, iStr, wipe])
          rw [e1]
          by_cases hlt : 1 + n + 1 < m.length
          · rw [if_pos (by omega)]
            obtain ⟨c, hc, hmc⟩ := hg (1 + n + 1) (by omega)
            refine hIx_str (by omega) (atI_nat hc) ?_
            dsimp only
            have hcc : (m.drop (1 + n + 1)).take 1 = [58] ↔ c = 58 := by
              rw [take1, hmc]
              constructor
              · intro z; exact Option.some.inj z
              · intro z; rw [z]
            by_cases h58 : c = 58
            · rw [if_neg (fun z => z (by rw [colon_one, h58]))]
              exact hN _ _ ⟨rfl, rfl, fun z => z.2 (hcc.mpr h58)⟩
            · rw [if_pos (fun z => h58 (by
                rw [colon_one] at z
                have := congrArg tl z
                exact (List.cons.inj this).1))]
              rw [if_pos ⟨hlt, fun z => h58 (hcc.mp z)⟩] at q
              refine ⟨by omega, fun p hp => ⟨by omega, fun p1 hp1 => ⟨by omega, fun p2 hp2 => ?_⟩⟩⟩
              refine q p2 (.ref p1) _ (((Ext.rf.fresh hp).fresh hp1).fresh hp2) upd_self ?_
              have hr := RL.one (k := kH) (i := b + (1 + n + 1)) hp hp1
              obtain ⟨_, e1, q1, h1, h2⟩ := hr
              cases e1
              exact ⟨p1, rfl, q1, upd_old h1 hp2, upd_old h2 hp2⟩
          · rw [if_neg (by omega)]
            exact hN _ _ ⟨rfl, rfl, fun z => hlt z.1⟩
        · rintro σ H3 ⟨rfl, rfl, hc⟩
          exact fin hc
end
end Da
set_option Elab.async false
set_option linter.all false
set_option maxRecDepth 100000
set_option maxHeartbeats 4000000
namespace Da
open PySem PySem.Spec PyProof.Rows L2 Hd Xs Fx Mi ClX Xr
open TL (tl)
theorem RL.ext {H H' : Hp} {v : V} {o : KP} (h : RL H v o) (e : Ext H H') : RL H' v o := by
  obtain ⟨r, rfl, h⟩ := h
  cases o with
  | none => exact ⟨r, rfl, e _ _ h⟩
  | some ki =>
    obtain ⟨k, i⟩ := ki
    obtain ⟨t, h1, h2⟩ := h
    exact ⟨r, rfl, t, e _ _ h1, e _ _ h2⟩
theorem RL.eqNil {K : PySem.W.Frag} {H : Hp} {v : V} {o : KP} {p : Addr} {Q : VK} (h : RL H v o) (hk : ∀ k i, o = some (k, i) → Sg k) (hp : H p = some (.lst [])) (q : Q (.bl o.isNone) H) : cEq K false v (.ref p) H Q := by
  obtain ⟨r, rfl, h⟩ := h
  cases o with
  | none => exact cEq_nil h hp .nil rfl q
  | some ki =>
    obtain ⟨k, i⟩ := ki
    obtain ⟨t, h1, h2⟩ := h
    refine cEq_nil h1 hp (.cons (.tup (.inl (Rd.of h2)) (.cons (.int _) (.cons (.str _) .nil))) .nil) ?_ q
    have hs := (hk k i rfl).ok
    unfold SeqAt.shaped
    rw [Bool.and_eq_true]
    refine ⟨by simp only [PyData.canLay0, PyData.canLayAll0, hs, Bool.and_true, Bool.true_and], decide_eq_true ?_⟩
    simp only [PyData.depth, PyData.depthAll]
    omega
theorem sgE : Sg kE := Sg.lit (s := "escape") (by rfl)
theorem sgS : Sg kS := Sg.lit (s := "sign") (by rfl)
theorem sgC : Sg kC := Sg.lit (s := "scheme") (by rfl)
theorem sgP : Sg kP := Sg.lit (s := "port") (by rfl)
theorem sgH : Sg kH := Sg.lit (s := "host") (by rfl)
def kOk (o : KP) : Prop := ∀ k i, o = some (k, i) → Sg k
theorem kOk.none : kOk none := fun _ _ h => nomatch h
theorem kOk.some {k : Str} {i : Nat} (h : Sg k) : kOk (some (k, i)) := fun k' i' e => by cases e; exact h
theorem kOk.mv {n : Nat} {o : KP} (h : kOk o) : kOk (mv n o) := fun k i e => by
  cases o with
  | none => cases e
  | some r => obtain ⟨k', i'⟩ := r; cases e; exact h k' i' rfl
theorem kOk_sch (l : T) : kOk (wSch l) := by
  unfold wSch
  split
  · exact .some sgC
  · split
    · exact .some sgC
    · exact .none
theorem kOk_port (l : T) : kOk (wPort l) := by
  unfold wPort
  split
  · exact .some sgP
  · split
    · exact .some sgP
    · exact .none
theorem kOk_br (l : T) : kOk (brR l).1 := by
  unfold brR
  split
  · exact .some sgH
  · split
    · exact .some sgH
    · exact .none
theorem kOk_scan (S : T) : ∀ (n : Nat) (l : T) (i : Nat), l.length ≤ n → kOk (Mi.scan S i l)
  | _, [], _, _ => .none
  | 0, c :: r, _, h => absurd h (by simp)
  | n + 1, c :: r, i, h => by
    have hr : r.length ≤ n := by simpa using h
    by_cases hc : c = 94
    · subst hc
      rw [scan_94']
      split
      · exact kOk_scan S n _ _ (by rw [List.length_drop]; omega)
      · exact .some sgE
    · cases hs : S.contains c with
      | true => rw [scan_in hc hs]; exact kOk_scan S n r _ hr
      | false => rw [scan_out hc hs]; exact .some sgS
/-- brackets that end with the text -/
theorem br_none (l : T) (h0 : l.take 1 = [91]) : ((brR l).1.isNone && decide ((brR l).2 = l.length)) = (wBr l).isNone := by
  have h1 : 1 ≤ l.length := by
    rcases l with _ | ⟨c, r⟩
    · cases h0
    · simp
  unfold brR wBr
  by_cases hc : fo (l.drop 1) BRKT = 0 ∨ (l.drop (1 + fo (l.drop 1) BRKT)).take 1 ≠ [93]
  · rw [if_pos hc, if_pos hc]; rfl
  · rw [if_neg hc, if_neg hc]
    have h93 : (l.drop (1 + fo (l.drop 1) BRKT)).take 1 = [93] := Classical.byContradiction fun z => hc (.inr z)
    have hlt := (List.getElem?_eq_some_iff.mp (take1.mp h93)).1
    by_cases hl : 1 + fo (l.drop 1) BRKT + 1 < l.length
    · rw [if_pos hl]
      by_cases h58 : (l.drop (1 + fo (l.drop 1) BRKT + 1)).take 1 ≠ [58]
      · rw [if_pos ⟨hl, h58⟩]; rfl
      · rw [if_neg (fun z => h58 z.2)]
        have : ¬ 1 + fo (l.drop 1) BRKT + 1 = l.length := by omega
        show (true && decide (1 + fo (l.drop 1) BRKT + 1 = l.length)) = false
        rw [decide_eq_false this]; rfl
    · rw [if_neg hl, if_neg (fun z => hl z.1)]
      have : 1 + fo (l.drop 1) BRKT + 1 = l.length := by omega
      show (true && decide (1 + fo (l.drop 1) BRKT + 1 = l.length)) = true
      rw [decide_eq_true this]; rfl
def PLs : Str := "-.0123456789ABCDEFGHIJKLMNOPQRSTUVWXYZ_abcdefghijklmnopqrstuvwxyz~"
def spPlain : Sp := fun vs H Q _ => match vs with
  | [] => Q (.str PLs) H
  | _ => False
section
variable {P : Program} {w : World} {K : PySem.W.Frag} {mg : Str → Option Value} {base : Heap}
theorem ok__law_plain_signs (c : Ct w K mg) : OkF P w K mg base CX0 1 (He.ga K "_law_plain_signs") [] spPlain := by
  obtain ⟨fd, F⟩ := F__law_plain_signs c
  refine ⟨fd, F.ok sc__law_plain_signs (fun vs H Q E h => ?_) (fun cdv A outer s H vs Q E hr h => ⟨_, PSs.nox ((pss_one (ps_ret pe_str))), ?_⟩), F.bindsN fun _ _ _ _ _ _ us hl => match us, hl with | [], _ => rfl⟩
  · unfold spPlain at h
    split at h
    · rfl
    · exact h.elim
  · unfold spPlain at h
    split at h
    case h_2 => exact h.elim
    (try simp only [tSeq, tNext, tIfS, tFor_eq, cBl, tOp, tC, cI, cIc, cAdd, cVar, hEq, hNe, hIn, hNotIn, hLen, hSl, tM1, tBM, cT1, cT1f, cFind3, cSplit, cPart, rNewStrs, hIsS, hTru, tAsg, gName, gSub, tRet, tRetN, tCons, tNil, tTup, tLst, tCB, tNot, tAnd, tNotV, tAndV, tOrV, tOr, V.bl.injEq, V.int.injEq, V.str.injEq, exists_eq_left', exists_eq_left, exists_eq', true_and, and_true, cIsN, L2.start, gTup, gCons, gNil, nox_K, cx_K, tCallF, tSl, tPart, tNoPart, iEnum, RZ.iZipA, iRng1, iRng2, cAbs, List.map_cons, List.map_nil, List.length_cons, List.length_nil, List.replicate, List.cons_append, List.nil_append, List.getElem?_cons_zero, List.getElem?_cons_succ, List.getElem?_nil, List.set_cons_zero, List.set_cons_succ, Nat.reduceAdd, Nat.reduceSub, Nat.zero_add, if_true, if_false, reduceIte, reduceCtorEq, Bool.false_eq_true, decide_eq_true_eq, tDrop, cMin2, cJoin, iList, tDNewK, tLc_eq, iStr, wipe])
    exact h
end
end Da
set_option Elab.async false
set_option linter.all false
set_option maxRecDepth 100000
set_option maxHeartbeats 4000000
namespace Da
open PySem PySem.Spec PyProof.Rows L2 Hd Xs Fx Mi ClX Xr
open TL (tl)
/-- what is not reached needs no reading -/
theorem pss_none {X : Cx} {body : List Stmt} : PSs X body (fun _ _ _ => False) := ⟨fun _ _ _ _ _ _ h => h.elim⟩
theorem exm_two {K : PySem.W.Frag} {cls a b : Value} {x y : Bool} (h1 : PySem.W.exmOne K cls a = some x) (h2 : PySem.W.exmOne K cls b = some y) : PySem.W.exmAny K cls [a, b] = some (x || (y || false)) := by
  simp only [PySem.W.exmAny, h1, h2]
def spIsUrl : Sp := fun vs H Q _ => match vs with
  | [.str t] => t.length ≤ (100000 : Nat) ∧ ∀ H', Ext H H' → Q (.bl (wRows (splT (tl t))).isNone) H'
  | _ => False
/-- what the law tells of a text -/
def spTold : Sp := fun vs H Q _ => match vs with
  | [.str t] => t.length ≤ (100000 : Nat) ∧ (match wRows (splT (tl t)) with
    | some (k, i) => ∀ p H', Ext H H' → H' p = some (.tup [.str "wrong", .str k, .int (i : Nat)]) → Q (.ref p) H'
    | none => ∀ p q H', Ext H H' → H' p = some (.tup [.str "parts", .ref q]) → H' q = some (.lst (vsOf (splT (tl t)))) → Q (.ref p) H')
  | _ => False
section
variable {P : Program} {w : World} {K : PySem.W.Frag} {mg : Str → Option Value} {base : Heap}
theorem ok_is_url (c : Ct w K mg) : OkF P w K mg base CX0 10 (He.ga K "is_url") ["value"] (spIsUrl) := by
  obtain ⟨fd, F⟩ := F_is_url c
  refine ⟨fd, F.ok sc_is_url (fun vs H Q E h => ?_) (fun cdv A outer s H vs Q E hr h => ⟨_, PSs.nox ((pss_cons (ps_try_c rfl rfl (fun W pn xe tk _ => pss_one (ps_expr (pfS (E := WE W) (ok_parse c) (hr.mono (by decide)) (g_parse c) (k_parse c) (fun σ => passAt tk σ) (pa_cons (cv 0) pa_nil)))) (catch_cl rfl (test_two rfl ⟨rfl, by decide, .inl (g_NoText c)⟩ ⟨rfl, by decide, .inl (g_BadUrl c)⟩) (fun a oe cls d pn hz hf => pss_one (ps_ret pe_bl)) (catch_nil rfl rfl takes0))) (pss_one (ps_ret pe_bl)))), ?_⟩), F.bindsN fun _ _ _ _ _ _ us hl => match us, hl with | [_], _ => rfl⟩
  · unfold spIsUrl at h
    split at h
    · rfl
    · exact h.elim
  · unfold spIsUrl at h
    split at h
    case h_2 => exact h.elim
    rename_i t
    obtain ⟨ht, q⟩ := h
    refine seqStep ?_
    unfold tDrop
    (try simp only [tNext, tFor_eq, cBl, tOp, tC, cI, cIc, cAdd, cVar, hEq, hNe, hIn, hNotIn, hLen, hSl, tM1, tBM, cT1, cT1f, cFind3, cSplit, cPart, rNewStrs, hIsS, hTru, tAsg, gName, gSub, tRet, tRetN, tCons, tNil, tTup, tLst, tCB, tNot, tAnd, tNotV, tAndV, tOrV, tOr, V.bl.injEq, V.int.injEq, V.str.injEq, exists_eq_left', exists_eq_left, exists_eq', true_and, and_true, cIsN, L2.start, gTup, gCons, gNil, nox_K, cx_K, tCallF, tSl, tPart, tNoPart, iEnum, RZ.iZipA, iRng1, iRng2, cAbs, List.map_cons, List.map_nil, List.length_cons, List.length_nil, List.replicate, List.cons_append, List.nil_append, List.getElem?_cons_zero, List.getElem?_cons_succ, List.getElem?_nil, List.set_cons_zero, List.set_cons_succ, Nat.reduceAdd, Nat.reduceSub, Nat.zero_add, if_true, if_false, reduceIte, reduceCtorEq, Bool.false_eq_true, decide_eq_true_eq, tDrop, cMin2, cJoin, iList, tDNewK, tLc_eq, iStr, wipe])
    unfold tCallFS
    (try simp only [tNext, tFor_eq, cBl, tOp, tC, cI, cIc, cAdd, cVar, hEq, hNe, hIn, hNotIn, hLen, hSl, tM1, tBM, cT1, cT1f, cFind3, cSplit, cPart, rNewStrs, hIsS, hTru, tAsg, gName, gSub, tRet, tRetN, tCons, tNil, tTup, tLst, tCB, tNot, tAnd, tNotV, tAndV, tOrV, tOr, V.bl.injEq, V.int.injEq, V.str.injEq, exists_eq_left', exists_eq_left, exists_eq', true_and, and_true, cIsN, L2.start, gTup, gCons, gNil, nox_K, cx_K, tCallF, tSl, tPart, tNoPart, iEnum, RZ.iZipA, iRng1, iRng2, cAbs, List.map_cons, List.map_nil, List.length_cons, List.length_nil, List.replicate, List.cons_append, List.nil_append, List.getElem?_cons_zero, List.getElem?_cons_succ, List.getElem?_nil, List.set_cons_zero, List.set_cons_succ, Nat.reduceAdd, Nat.reduceSub, Nat.zero_add, if_true, if_false, reduceIte, reduceCtorEq, Bool.false_eq_true, decide_eq_true_eq, tDrop, cMin2, cJoin, iList, tDNewK, tLc_eq, iStr, wipe])
    refine ⟨ht, ?_⟩
    cases hw : wRows (splT (tl t)) with
    | some ka =>
      obtain ⟨k, i⟩ := ka
      rw [hw] at q
      dsimp only
      intro d H' he hx
      refine ⟨true, exm_two (exm_BadUrl_NoText c) (exm_BadUrl_BadUrl c), fun _ a ha => ?_, fun z => nomatch z⟩
      (try simp only [tNext, tFor_eq, cBl, tOp, tC, cI, cIc, cAdd, cVar, hEq, hNe, hIn, hNotIn, hLen, hSl, tM1, tBM, cT1, cT1f, cFind3, cSplit, cPart, rNewStrs, hIsS, hTru, tAsg, gName, gSub, tRet, tRetN, tCons, tNil, tTup, tLst, tCB, tNot, tAnd, tNotV, tAndV, tOrV, tOr, V.bl.injEq, V.int.injEq, V.str.injEq, exists_eq_left', exists_eq_left, exists_eq', true_and, and_true, cIsN, L2.start, gTup, gCons, gNil, nox_K, cx_K, tCallF, tSl, tPart, tNoPart, iEnum, RZ.iZipA, iRng1, iRng2, cAbs, List.map_cons, List.map_nil, List.length_cons, List.length_nil, List.replicate, List.cons_append, List.nil_append, List.getElem?_cons_zero, List.getElem?_cons_succ, List.getElem?_nil, List.set_cons_zero, List.set_cons_succ, Nat.reduceAdd, Nat.reduceSub, Nat.zero_add, if_true, if_false, reduceIte, reduceCtorEq, Bool.false_eq_true, decide_eq_true_eq, tDrop, cMin2, cJoin, iList, tDNewK, tLc_eq, iStr, wipe])
      exact q H' he
    | none =>
      rw [hw] at q
      dsimp only
      exact ⟨split_due hw, fun a H' he _ _ => q H' he⟩
theorem ok__law_told (c : Ct w K mg) : OkF P w K mg base CX0 10 (He.ga K "_law_told") ["text"] (spTold) := by
  obtain ⟨fd, F⟩ := F__law_told c
  refine ⟨fd, F.ok sc__law_told (fun vs H Q E h => ?_) (fun cdv A outer s H vs Q E hr h => ⟨_, PSs.nox ((pss_one (ps_try_c rfl rfl (fun W pn xe tk _ => pss_one (ps_ret (pe_tup (pa_cons pe_str (pa_cons (pf (ok__law_shown c) (hr.mono (by decide)) (g__law_shown c) (k__law_shown c) pass0 (pa_cons (pfS (E := WE W) (ok_parse c) (hr.mono (by decide)) (g_parse c) (k_parse c) (fun σ => passAt tk σ) (pa_cons (cv 0) pa_nil)) pa_nil)) pa_nil))))) (catch_as (i := 1) rfl (sc__law_told).nd rfl rfl (test_one rfl ⟨rfl, by decide, .inl (g_BadUrl c)⟩) (fun a oe cls d pn hz hf => pss_one (ps_ret (pe_tup (pa_cons pe_str (pa_cons (pe_xf (xf_BadUrl c) (noat_BadUrl_kind c) hz hf (cv 1)) (pa_cons (pe_xf (xf_BadUrl c) (noat_BadUrl_place c) hz hf (cv 1)) pa_nil)))))) (catch_as (i := 1) rfl (sc__law_told).nd rfl rfl (test_one rfl ⟨rfl, by decide, .inl (g_NoText c)⟩) (fun a oe cls d pn hz hf => pss_none) (catch_nil rfl rfl takes0)))))), ?_⟩), F.bindsN fun _ _ _ _ _ _ us hl => match us, hl with | [_], _ => rfl⟩
  · unfold spTold at h
    split at h
    · rfl
    · exact h.elim
  · unfold spTold at h
    split at h
    case h_2 => exact h.elim
    rename_i t
    obtain ⟨ht, q⟩ := h
    have sl := sl
    unfold tCallFS tCallF
    (try simp only [tNext, tFor_eq, cBl, tOp, tC, cI, cIc, cAdd, cVar, hEq, hNe, hIn, hNotIn, hLen, hSl, tM1, tBM, cT1, cT1f, cFind3, cSplit, cPart, rNewStrs, hIsS, hTru, tAsg, gName, gSub, tRet, tRetN, tCons, tNil, tTup, tLst, tCB, tNot, tAnd, tNotV, tAndV, tOrV, tOr, V.bl.injEq, V.int.injEq, V.str.injEq, exists_eq_left', exists_eq_left, exists_eq', true_and, and_true, cIsN, L2.start, gTup, gCons, gNil, nox_K, cx_K, tCallF, tSl, tPart, tNoPart, iEnum, RZ.iZipA, iRng1, iRng2, cAbs, List.map_cons, List.map_nil, List.length_cons, List.length_nil, List.replicate, List.cons_append, List.nil_append, List.getElem?_cons_zero, List.getElem?_cons_succ, List.getElem?_nil, List.set_cons_zero, List.set_cons_succ, Nat.reduceAdd, Nat.reduceSub, Nat.zero_add, if_true, if_false, reduceIte, reduceCtorEq, Bool.false_eq_true, decide_eq_true_eq, tDrop, cMin2, cJoin, iList, tDNewK, tLc_eq, iStr, wipe])
    refine ⟨ht, ?_⟩
    cases hw : wRows (splT (tl t)) with
    | some ka =>
      obtain ⟨k, i⟩ := ka
      rw [hw] at q
      dsimp only at q ⊢
      intro d H' he hx
      refine ⟨true, exm_BadUrl_BadUrl c, fun _ a ha => ?_, fun z => nomatch z⟩
      unfold tXf
      (try simp only [tNext, tFor_eq, cBl, tOp, tC, cI, cIc, cAdd, cVar, hEq, hNe, hIn, hNotIn, hLen, hSl, tM1, tBM, cT1, cT1f, cFind3, cSplit, cPart, rNewStrs, hIsS, hTru, tAsg, gName, gSub, tRet, tRetN, tCons, tNil, tTup, tLst, tCB, tNot, tAnd, tNotV, tAndV, tOrV, tOr, V.bl.injEq, V.int.injEq, V.str.injEq, exists_eq_left', exists_eq_left, exists_eq', true_and, and_true, cIsN, L2.start, gTup, gCons, gNil, nox_K, cx_K, tCallF, tSl, tPart, tNoPart, iEnum, RZ.iZipA, iRng1, iRng2, cAbs, List.map_cons, List.map_nil, List.length_cons, List.length_nil, List.replicate, List.cons_append, List.nil_append, List.getElem?_cons_zero, List.getElem?_cons_succ, List.getElem?_nil, List.set_cons_zero, List.set_cons_succ, Nat.reduceAdd, Nat.reduceSub, Nat.zero_add, if_true, if_false, reduceIte, reduceCtorEq, Bool.false_eq_true, decide_eq_true_eq, tDrop, cMin2, cJoin, iList, tDNewK, tLc_eq, iStr, wipe])
      refine ⟨d, _, _, rfl, hx, rfl, d, _, _, rfl, hx, rfl, by omega, fun p hp => ?_⟩
      exact q p _ (he.fresh hp) upd_self
    | none =>
      rw [hw] at q
      dsimp only at q ⊢
      refine ⟨split_due hw, fun a H' he hu _ => ?_⟩
      obtain ⟨s0, u0, h0, p0, l0, q0, f0, e0, -⟩ := vs_split (tl t)
      rw [e0] at hu q
      refine ⟨_, _, _, _, _, _, _, hu, fun p1 hp1 => ⟨by omega, fun p2 hp2 => ?_⟩⟩
      exact q p2 p1 _ ((he.fresh hp1).fresh hp2) upd_self (upd_old upd_self hp2)
end
end Da
set_option Elab.async false
set_option linter.all false
set_option maxRecDepth 100000
set_option maxHeartbeats 4000000
namespace Da
open PySem PySem.Spec PyProof.Rows L2 Hd Xs Fx Mi ClX Xr
open TL (tl)
/-- a list of wrong places: pairs (place, kind) -/
def WL (H : Hp) (v : V) (os : List KP) : Prop := ∃ r ps, v = .ref r ∧ H r = some (.lst (ps.map V.ref)) ∧ Paired (fun (p : Addr) (k : Str × Nat) => H p = some (.tup [.int (k.2 : Nat), .str k.1])) ps (os.filterMap id)
theorem paired_ext {H H' : Hp} (e : Ext H H') : ∀ {ps : List Addr} {ks : List (Str × Nat)}, Paired (fun (p : Addr) (k : Str × Nat) => H p = some (.tup [.int (k.2 : Nat), .str k.1])) ps ks → Paired (fun (p : Addr) (k : Str × Nat) => H' p = some (.tup [.int (k.2 : Nat), .str k.1])) ps ks
  | _, _, .nil => .nil
  | _, _, .cons h t => .cons (e _ _ h) (paired_ext e t)
theorem paired_app2 {R : Addr → (Str × Nat) → Prop} : ∀ {ps qs : List Addr} {ks ls : List (Str × Nat)}, Paired R ps ks → Paired R qs ls → Paired R (ps ++ qs) (ks ++ ls)
  | _, _, _, _, .nil, q => q
  | _, _, _, _, .cons h t, q => .cons h (paired_app2 t q)
theorem WL.ext {H H' : Hp} {v : V} {os : List KP} (h : WL H v os) (e : Ext H H') : WL H' v os := by
  obtain ⟨r, ps, rfl, hr, hp⟩ := h
  exact ⟨r, ps, rfl, e _ _ hr, paired_ext e hp⟩
theorem WL.nil {H : Hp} {p : Addr} (h : H p = some (.lst [])) : WL H (.ref p) [] := ⟨p, [], rfl, h, .nil⟩
theorem RL.wl {H : Hp} {v : V} {o : KP} (h : RL H v o) : WL H v [o] := by
  obtain ⟨r, rfl, h⟩ := h
  cases o with
  | none => exact ⟨r, [], rfl, h, .nil⟩
  | some ki =>
    obtain ⟨k, i⟩ := ki
    obtain ⟨t, h1, h2⟩ := h
    exact ⟨r, [t], rfl, h1, .cons h2 .nil⟩
theorem fm_len (os : List KP) : (os.filterMap id).length ≤ os.length := List.length_filterMap_le _ _
/-- one list behind another -/
theorem WL.cat {H : Hp} {v v' : V} {os os' : List KP} {Q : VK} (h : WL H v os) (h' : WL H v' os') (hl : os.length + os'.length ≤ 100) (k : ∀ t H', Ext H H' → WL H' (.ref t) (os ++ os') → Q (.ref t) H') : rCat v v' H Q := by
  obtain ⟨r, ps, rfl, hr, hp⟩ := h
  obtain ⟨r', ps', rfl, hr', hp'⟩ := h'
  have sl := sl
  have l1 := fm_len os
  have l2 := fm_len os'
  have e1 := hp.length
  have e2 := hp'.length
  refine cat_at hr hr' (by rw [List.length_map, List.length_map]; omega) fun t ht => ?_
  have x := Ext.rf.fresh (o := .lst (ps.map V.ref ++ ps'.map V.ref)) ht
  refine k t _ x ⟨t, ps ++ ps', rfl, by rw [List.map_append]; exact upd_self, ?_⟩
  rw [List.filterMap_append]
  exact paired_app2 (paired_ext x hp) (paired_ext x hp')
/-- the host's reading: the wrong place in it, and where it ends -/
def hoR (z : T) (k : Nat) : KP × Nat := if z.take 1 = [91] then (mv k (brR z).1, (brR z).2) else (Mi.scan (SI 2) k (bef 58 z), (bef 58 z).length)
/-- the law's reading of an authority that stands at b -/
def auO (y : T) (b : Nat) : List KP := [if 0 < hostAt y then Mi.scan (SI 1) b (y.take (hostAt y - 1)) else none, (hoR (y.drop (hostAt y)) (b + hostAt y)).1,
  if (hoR (y.drop (hostAt y)) (b + hostAt y)).2 < (y.drop (hostAt y)).length then mv (b + hostAt y + (hoR (y.drop (hostAt y)) (b + hostAt y)).2 + 1) (wPort ((y.drop (hostAt y)).drop ((hoR (y.drop (hostAt y)) (b + hostAt y)).2 + 1))) else none]
def auV (y : T) (b : Nat) : List V := [if 0 < hostAt y then vStr (y.take (hostAt y - 1)) else .non, vStr ((y.drop (hostAt y)).take (hoR (y.drop (hostAt y)) (b + hostAt y)).2),
  if (hoR (y.drop (hostAt y)) (b + hostAt y)).2 < (y.drop (hostAt y)).length then vStr ((y.drop (hostAt y)).drop ((hoR (y.drop (hostAt y)) (b + hostAt y)).2 + 1)) else .non]
theorem ixf_le {c : Nat} {m : T} : (match ixf c m 0 m.length with
    | some k => k + 1
    | none => m.length) ≤ m.length := by
  cases e : ixf c m 0 m.length with
  | none => exact Nat.le_refl _
  | some k => exact (ixf_lt e).2.1
theorem brR_le (m : T) : (brR m).2 ≤ m.length := by
  unfold brR
  split
  · exact ixf_le
  · rename_i hc
    split
    · rename_i h2
      exact Nat.le_of_lt h2.1
    · have h93 : (m.drop (1 + fo (m.drop 1) BRKT)).take 1 = [93] := Classical.byContradiction fun z => hc (.inr z)
      exact (List.getElem?_eq_some_iff.mp (take1.mp h93)).1
theorem hoR_le (z : T) (k : Nat) : (hoR z k).2 ≤ z.length := by
  unfold hoR
  split
  · exact brR_le z
  · exact (List.takeWhile_sublist _).length_le
def spAu : Sp := fun vs H Q _ => match vs with
  | [.str t, .int b, .int e] => ∃ b' e' : Nat, b = (b' : Nat) ∧ e = (e' : Nat) ∧ b' ≤ e' ∧ e' ≤ t.length ∧ t.length ≤ (100000 : Nat) ∧ Sg t ∧ ∀ p v H', Ext H H' → H' p = some (.tup (auV (((tl t).take e').drop b') b' ++ [v])) → WL H' v (auO (((tl t).take e').drop b') b') → Q (.ref p) H'
  | _ => False
theorem hostAt_eq (y : T) : hostAt y = if y.contains 64 = true then (bef 64 y).length + 1 else 0 := by
  unfold hostAt
  rw [ixf_all]
  cases y.contains 64 <;> rfl
theorem vStr_eq {z : Str} {y : T} (h : tl z = y) : V.str z = vStr y := by
  subst h
  rfl
theorem cutNM (z : Str) (i j : Nat) : tl (cutS z (some (i : Int)) (some (j : Int))) = ((tl z).take j).drop i := by
  rw [cutMN, List.drop_take]
section
variable {P : Program} {w : World} {K : PySem.W.Frag} {mg : Str → Option Value} {base : Heap}
theorem ok__law_read_authority (c : Ct w K mg) : OkF P w K mg base CX0 4 (He.ga K "_law_read_authority") ["text", "begin", "end"] (spAu) := by
  obtain ⟨fd, F⟩ := F__law_read_authority c
  refine ⟨fd, F.ok sc__law_read_authority (fun vs H Q E h => ?_) (fun cdv A outer s H vs Q E hr h => ⟨_, PSs.nox ((pss_cons (ps_par3 (i := 3) (j := 4) (l := 5) (by rfl) (sc__law_read_authority).nd rfl rfl rfl (by decide) (by decide) (by decide) rfl rfl rfl (pa_cons (pe_op co_add (pf0 (ok__law_plain_signs c) (hr.mono (by decide)) (g__law_plain_signs c) (k__law_plain_signs c) pass0) pe_str) (pa_cons (pe_lst pa_nil) (pa_cons pe_non pa_nil))) (by rfl)) (pss_cons (ps_set (i := 6) (sc__law_read_authority).nd rfl (Or.inl rfl) (pe_bm PySem.F.plainAttrs_str PySem.F.slot_str_find PySem.F.type_str_find cm_find3 (cv 0) (pa_cons pe_str (pa_cons (cv 1) (pa_cons (cv 2) pa_nil))))) (pss_cons (ps_if (ctc co_ge (cv 6) pe_int (by rfl)) (pss_one (ps_par3 (i := 5) (j := 4) (l := 1) (by rfl) (sc__law_read_authority).nd rfl rfl rfl (by decide) (by decide) (by decide) rfl rfl rfl (pa_cons (pe_slice hs_any (cv 0) (po_some (cv 1)) (po_some (cv 6))) (pa_cons (pf (ok__law_wrong_signs c) (hr.mono (by decide)) (g__law_wrong_signs c) (k__law_wrong_signs c) pass0 (pa_cons (cv 0) (pa_cons (cv 1) (pa_cons (cv 6) (pa_cons (pe_op co_add (cv 3) pe_str) pa_nil))))) (pa_cons (pe_op co_add (cv 6) pe_int) pa_nil))) (by rfl))) pss_nil) (pss_cons (ps_if (ctc (ho_eq (hu64 hr)) (pe_slice hs_any (cv 0) (po_some (cv 1)) (po_some (pe_callB (cc_min2 rfl) (by rfl) (b_min c) (by decide +kernel) (pa_cons (cv 2) (pa_cons (pe_op co_add (cv 1) pe_int) pa_nil))))) pe_str (by rfl)) (pss_one (ps_asg (pf (ok__law_wrong_bracket c) (hr.mono (by decide)) (g__law_wrong_bracket c) (k__law_wrong_bracket c) pass0 (pa_cons (cv 0) (pa_cons (cv 1) (pa_cons (cv 2) pa_nil)))) (pg_tup (n := 2) rfl (pgs_cons (pg_name (i := 7) (sc__law_read_authority).nd rfl (Or.inl rfl)) (pgs_cons (pg_name (i := 8) (sc__law_read_authority).nd rfl (Or.inl rfl)) pgs_nil))))) (pss_cons (ps_set (i := 8) (sc__law_read_authority).nd rfl (Or.inl rfl) (pe_bm PySem.F.plainAttrs_str PySem.F.slot_str_find PySem.F.type_str_find cm_find3 (cv 0) (pa_cons pe_str (pa_cons (cv 1) (pa_cons (cv 2) pa_nil))))) (pss_cons (ps_set (i := 8) (sc__law_read_authority).nd rfl (Or.inl rfl) (pe_ifExp (ctc co_lt (cv 8) pe_int (by rfl)) (cv 2) (cv 8))) (pss_one (ps_set (i := 7) (sc__law_read_authority).nd rfl (Or.inl rfl) (pf (ok__law_wrong_signs c) (hr.mono (by decide)) (g__law_wrong_signs c) (k__law_wrong_signs c) pass0 (pa_cons (cv 0) (pa_cons (cv 1) (pa_cons (cv 8) (pa_cons (cv 3) pa_nil)))))))))) (pss_cons (ps_set (i := 4) (sc__law_read_authority).nd rfl (Or.inl rfl) (pe_op co_add (pe_op co_add (cv 4) (cv 7)) (pe_ifExp (ctc co_lt (cv 8) (cv 2) (by rfl)) (pf (ok__law_wrong_port c) (hr.mono (by decide)) (g__law_wrong_port c) (k__law_wrong_port c) pass0 (pa_cons (cv 0) (pa_cons (pe_op co_add (cv 8) pe_int) (pa_cons (cv 2) pa_nil)))) (pe_lst pa_nil)))) (pss_one (ps_ret (pe_tup (pa_cons (cv 5) (pa_cons (pe_slice hs_any (cv 0) (po_some (cv 1)) (po_some (cv 8))) (pa_cons (pe_ifExp (ctc co_lt (cv 8) (cv 2) (by rfl)) (pe_slice hs_any (cv 0) (po_some (pe_op co_add (cv 8) pe_int)) (po_some (cv 2))) pe_non) (pa_cons (cv 4) pa_nil))))))))))))), ?_⟩), F.bindsN fun _ _ _ _ _ _ us hl => match us, hl with | [_, _, _], _ => rfl⟩
  · unfold spAu at h
    split at h
    · rfl
    · exact h.elim
  · unfold spAu at h
    split at h
    case h_2 => exact h.elim
    rename_i t b e
    obtain ⟨b, e, rfl, rfl, hbe, het, ht, hs, q⟩ := h
    have sl := sl
    have hl := TL.len_tl t
    have hyl : (((tl t).take e).drop b).length = e - b := by rw [List.length_drop, List.length_take]; omega
    have hfi : ixf 64 (tl t) b e = (if (((tl t).take e).drop b).contains 64 = true then some (b + (bef 64 (((tl t).take e).drop b)).length) else none) := rfl
    refine seqCps (fun σ H' => ∃ wr, σ = [some (.str t), some (.int (b : Nat)), some (.int (e : Nat)), some (.str (PLs ++ Str.ofString "!$&'()*+,;=")), some (.ref wr), some .non, none, none, none] ∧ Ext H H' ∧ H' wr = some (.lst [])) (fun Nx hN => ?_) ?_
    · unfold tPar3
      (try simp only [tNext, tFor_eq, cBl, tOp, tC, cI, cIc, cAdd, cVar, hEq, hNe, hIn, hNotIn, hLen, hSl, tM1, tBM, cT1, cT1f, cFind3, cSplit, cPart, rNewStrs, hIsS, hTru, tAsg, gName, gSub, tRet, tRetN, tCons, tNil, tTup, tLst, tCB, tNot, tAnd, tNotV, tAndV, tOrV, tOr, V.bl.injEq, V.int.injEq, V.str.injEq, exists_eq_left', exists_eq_left, exists_eq', true_and, and_true, cIsN, L2.start, gTup, gCons, gNil, nox_K, cx_K, tCallF, tSl, tPart, tNoPart, iEnum, RZ.iZipA, iRng1, iRng2, cAbs, List.map_cons, List.map_nil, List.length_cons, List.length_nil, List.replicate, List.cons_append, List.nil_append, List.getElem?_cons_zero, List.getElem?_cons_succ, List.getElem?_nil, List.set_cons_zero, List.set_cons_succ, Nat.reduceAdd, Nat.reduceSub, Nat.zero_add, if_true, if_false, reduceIte, reduceCtorEq, Bool.false_eq_true, decide_eq_true_eq, tDrop, cMin2, cJoin, iList, tDNewK, tLc_eq, iStr, wipe])
      show PLs.length + (Str.ofString "!$&'()*+,;=").length ≤ sizeLine ∧ _
      refine ⟨Nat.le_trans (by decide) sl, by omega, fun p hp => ⟨_, _, _, rfl, ?_⟩⟩
      exact hN _ _ ⟨p, rfl, Ext.rf.fresh hp, upd_self⟩
    rintro σ H1 ⟨wr, rfl, he1, hwr⟩
    refine seqStep ?_
    (try simp only [tNext, tFor_eq, cBl, tOp, tC, cI, cIc, cAdd, cVar, hEq, hNe, hIn, hNotIn, hLen, hSl, tM1, tBM, cT1, cT1f, cFind3, cSplit, cPart, rNewStrs, hIsS, hTru, tAsg, gName, gSub, tRet, tRetN, tCons, tNil, tTup, tLst, tCB, tNot, tAnd, tNotV, tAndV, tOrV, tOr, V.bl.injEq, V.int.injEq, V.str.injEq, exists_eq_left', exists_eq_left, exists_eq', true_and, and_true, cIsN, L2.start, gTup, gCons, gNil, nox_K, cx_K, tCallF, tSl, tPart, tNoPart, iEnum, RZ.iZipA, iRng1, iRng2, cAbs, List.map_cons, List.map_nil, List.length_cons, List.length_nil, List.replicate, List.cons_append, List.nil_append, List.getElem?_cons_zero, List.getElem?_cons_succ, List.getElem?_nil, List.set_cons_zero, List.set_cons_succ, Nat.reduceAdd, Nat.reduceSub, Nat.zero_add, if_true, if_false, reduceIte, reduceCtorEq, Bool.false_eq_true, decide_eq_true_eq, tDrop, cMin2, cJoin, iList, tDNewK, tLc_eq, iStr, wipe])
    refine ⟨rfl, ?_⟩
    have e64 : Str.ofString "@" = ⟨#[64]⟩ := TL.ext_tl (by decide +kernel)
    have e58 : Str.ofString ":" = ⟨#[58]⟩ := TL.ext_tl (by decide +kernel)
    rw [e64, findIn_ix t 64 b e (by omega), hfi]
    have hat := hostAt_eq (((tl t).take e).drop b)
    have htl : ∀ k, b + k ≤ e → ((tl t).take (b + k)).drop b = (((tl t).take e).drop b).take k := fun k hk => by
      rw [List.drop_take, List.drop_take, List.take_take, Nat.add_sub_cancel_left, Nat.min_eq_left (by omega)]
    -- the user
    refine seqCps (fun σ H' => ∃ v4 v6, σ = [some (.str t), some (.int ((b + hostAt (((tl t).take e).drop b) : Nat) : Int)), some (.int (e : Nat)), some (.str (PLs ++ Str.ofString "!$&'()*+,;=")), some v4, some (if 0 < hostAt (((tl t).take e).drop b) then vStr ((((tl t).take e).drop b).take (hostAt (((tl t).take e).drop b) - 1)) else .non), some v6, none, none] ∧ Ext H H' ∧
      WL H' v4 [if 0 < hostAt (((tl t).take e).drop b) then Mi.scan (SI 1) b ((((tl t).take e).drop b).take (hostAt (((tl t).take e).drop b) - 1)) else none]) (fun Nx hN => ?_) ?_
    · unfold tIfS
      (try simp only [tNext, tFor_eq, cBl, tOp, tC, cI, cIc, cAdd, cVar, hEq, hNe, hIn, hNotIn, hLen, hSl, tM1, tBM, cT1, cT1f, cFind3, cSplit, cPart, rNewStrs, hIsS, hTru, tAsg, gName, gSub, tRet, tRetN, tCons, tNil, tTup, tLst, tCB, tNot, tAnd, tNotV, tAndV, tOrV, tOr, V.bl.injEq, V.int.injEq, V.str.injEq, exists_eq_left', exists_eq_left, exists_eq', true_and, and_true, cIsN, L2.start, gTup, gCons, gNil, nox_K, cx_K, tCallF, tSl, tPart, tNoPart, iEnum, RZ.iZipA, iRng1, iRng2, cAbs, List.map_cons, List.map_nil, List.length_cons, List.length_nil, List.replicate, List.cons_append, List.nil_append, List.getElem?_cons_zero, List.getElem?_cons_succ, List.getElem?_nil, List.set_cons_zero, List.set_cons_succ, Nat.reduceAdd, Nat.reduceSub, Nat.zero_add, if_true, if_false, reduceIte, reduceCtorEq, Bool.false_eq_true, decide_eq_true_eq, tDrop, cMin2, cJoin, iList, tDNewK, tLc_eq, iStr, wipe])
      cases hc : (((tl t).take e).drop b).contains 64 with
      | false =>
        rw [hc, if_neg (by decide)] at hat
        rw [if_neg (show ¬ false = true by decide)]
        rw [if_neg (show ¬ (0 : Int) ≤ ixI none by decide)]
        refine hN _ _ ⟨_, _, by rw [hat]; rfl, he1, ?_⟩
        rw [hat]
        exact ⟨wr, [], rfl, hwr, .nil⟩
      | true =>
        rw [hc, if_pos rfl] at hat
        rw [if_pos rfl]
        rw [if_pos (show (0 : Int) ≤ ixI (some (b + (bef 64 (((tl t).take e).drop b)).length)) from Int.natCast_nonneg _)]
        have hbl : (bef 64 (((tl t).take e).drop b)).length < e - b := by
          have := congrArg List.length (bef_aft hc)
          rw [List.length_append, List.length_cons, hyl] at this
          omega
        unfold tPar3
        (try simp only [tNext, tFor_eq, cBl, tOp, tC, cI, cIc, cAdd, cVar, hEq, hNe, hIn, hNotIn, hLen, hSl, tM1, tBM, cT1, cT1f, cFind3, cSplit, cPart, rNewStrs, hIsS, hTru, tAsg, gName, gSub, tRet, tRetN, tCons, tNil, tTup, tLst, tCB, tNot, tAnd, tNotV, tAndV, tOrV, tOr, V.bl.injEq, V.int.injEq, V.str.injEq, exists_eq_left', exists_eq_left, exists_eq', true_and, and_true, cIsN, L2.start, gTup, gCons, gNil, nox_K, cx_K, tCallF, tSl, tPart, tNoPart, iEnum, RZ.iZipA, iRng1, iRng2, cAbs, List.map_cons, List.map_nil, List.length_cons, List.length_nil, List.replicate, List.cons_append, List.nil_append, List.getElem?_cons_zero, List.getElem?_cons_succ, List.getElem?_nil, List.set_cons_zero, List.set_cons_succ, Nat.reduceAdd, Nat.reduceSub, Nat.zero_add, if_true, if_false, reduceIte, reduceCtorEq, Bool.false_eq_true, decide_eq_true_eq, tDrop, cMin2, cJoin, iList, tDNewK, tLc_eq, iStr, wipe])
        have elen : (PLs ++ Str.ofString "!$&'()*+,;=").length + (Str.ofString ":").length ≤ 1000 := by decide
        refine ⟨by omega, by omega, b, b + (bef 64 (((tl t).take e).drop b)).length, rfl, rfl, by omega, by omega, ht, hs, fun v H2 he2 hv => ⟨_, _, _, rfl, ?_⟩⟩
        rw [htl _ (by omega)] at hv
        have eS : tl (PLs ++ Str.ofString "!$&'()*+,;=" ++ Str.ofString ":") = SI 1 := by rw [TL.tl_append, TL.tl_append]; rfl
        rw [eS] at hv
        have h1 : 0 < hostAt (((tl t).take e).drop b) := by rw [hat]; exact Nat.succ_pos _
        have h2 : hostAt (((tl t).take e).drop b) - 1 = (bef 64 (((tl t).take e).drop b)).length := by rw [hat]; rfl
        refine hN _ _ ⟨v, .int (ixI (some (b + (bef 64 (((tl t).take e).drop b)).length))), ?_, he1.tr he2, ?_⟩
        · rw [if_pos h1, h2]
          have e1 : V.str (cutS t (some ((b : Nat) : Int)) (some (ixI (some (b + (bef 64 (((tl t).take e).drop b)).length))))) = vStr ((((tl t).take e).drop b).take (bef 64 (((tl t).take e).drop b)).length) := by
            refine vStr_eq ?_
            rw [show (ixI (some (b + (bef 64 (((tl t).take e).drop b)).length))) = ((b + (bef 64 (((tl t).take e).drop b)).length : Nat) : Int) from rfl, cutNM, htl _ (by omega)]
          have e2 : V.int (ixI (some (b + (bef 64 (((tl t).take e).drop b)).length)) + 1) = V.int ((b + hostAt (((tl t).take e).drop b) : Nat) : Int) := by
            rw [hat]
            show V.int ((((b + (bef 64 (((tl t).take e).drop b)).length : Nat)) : Int) + 1) = _
            congr 1
          rw [e1, e2]
        · rw [if_pos h1, h2]
          exact hv.wl
    rintro σ H2 ⟨v4, v6, rfl, he2, hw4⟩
    have hhl : hostAt (((tl t).take e).drop b) ≤ e - b := by
      rw [hat]
      split
      · rename_i hc
        have := congrArg List.length (bef_aft hc)
        rw [List.length_append, List.length_cons, hyl] at this
        omega
      · exact Nat.zero_le _
    clear hat hfi he1 hwr
    have hz : ((tl t).take e).drop (b + hostAt (((tl t).take e).drop b)) = (((tl t).take e).drop b).drop (hostAt (((tl t).take e).drop b)) := by rw [List.drop_drop]
    have hzl : ((((tl t).take e).drop b).drop (hostAt (((tl t).take e).drop b))).length = e - (b + hostAt (((tl t).take e).drop b)) := by rw [List.length_drop, hyl]; omega
    unfold auO auV at q
    generalize hy : ((tl t).take e).drop b = y at *
    generalize hh : hostAt y = hn at *
    generalize hzz : y.drop hn = z at *
    have hzt : ∀ n, b + hn + n ≤ e → ((tl t).take (b + hn + n)).drop (b + hn) = z.take n := fun n hle => by
      rw [← hz, List.drop_take, List.drop_take, List.take_take, Nat.add_sub_cancel_left, Nat.min_eq_left (by omega)]
    -- the host
    refine seqCps (fun σ H' => ∃ v7, σ = [some (.str t), some (.int ((b + hn : Nat) : Int)), some (.int (e : Nat)), some (.str (PLs ++ Str.ofString "!$&'()*+,;=")), some v4, some (if 0 < hn then vStr (y.take (hn - 1)) else .non), some v6, some v7, some (.int ((b + hn + (hoR z (b + hn)).2 : Nat) : Int))] ∧ Ext H H' ∧
      WL H' v4 [if 0 < hn then Mi.scan (SI 1) b (y.take (hn - 1)) else none] ∧ RL H' v7 (hoR z (b + hn)).1) (fun Nx hN => ?_) ?_
    · unfold tIfS
      (try simp only [tNext, tFor_eq, cBl, tOp, tC, cI, cIc, cAdd, cVar, hEq, hNe, hIn, hNotIn, hLen, hSl, tM1, tBM, cT1, cT1f, cFind3, cSplit, cPart, rNewStrs, hIsS, hTru, tAsg, gName, gSub, tRet, tRetN, tCons, tNil, tTup, tLst, tCB, tNot, tAnd, tNotV, tAndV, tOrV, tOr, V.bl.injEq, V.int.injEq, V.str.injEq, exists_eq_left', exists_eq_left, exists_eq', true_and, and_true, cIsN, L2.start, gTup, gCons, gNil, nox_K, cx_K, tCallF, tSl, tPart, tNoPart, iEnum, RZ.iZipA, iRng1, iRng2, cAbs, List.map_cons, List.map_nil, List.length_cons, List.length_nil, List.replicate, List.cons_append, List.nil_append, List.getElem?_cons_zero, List.getElem?_cons_succ, List.getElem?_nil, List.set_cons_zero, List.set_cons_succ, Nat.reduceAdd, Nat.reduceSub, Nat.zero_add, if_true, if_false, reduceIte, reduceCtorEq, Bool.false_eq_true, decide_eq_true_eq, tDrop, cMin2, cJoin, iList, tDNewK, tLc_eq, iStr, wipe])
      have hb91 : Str.ofString "[" = ⟨#[91]⟩ := TL.ext_tl (by decide +kernel)
      have hm : (if ((b + hn : Nat) : Int) + 1 < ((e : Nat) : Int) then ((b + hn : Nat) : Int) + 1 else ((e : Nat) : Int)) = (((if b + hn + 1 < e then b + hn + 1 else e) : Nat) : Int) := by
        by_cases hlt : b + hn + 1 < e
        · rw [if_pos (by omega), if_pos hlt]; omega
        · rw [if_neg (by omega), if_neg hlt]
      rw [hm]
      have hcut : tl (cutS t (some ((b + hn : Nat) : Int)) (some (((if b + hn + 1 < e then b + hn + 1 else e) : Nat) : Int))) = z.take 1 := by
        rw [cutNM, ← hz]
        by_cases hlt : b + hn + 1 < e
        · rw [if_pos hlt, List.drop_take, List.drop_take, List.take_take]
          congr 1
          omega
        · rw [if_neg hlt, hz, List.take_of_length_le (by omega)]
      have hbr : cutS t (some ((b + hn : Nat) : Int)) (some (((if b + hn + 1 < e then b + hn + 1 else e) : Nat) : Int)) = Str.ofString "[" ↔ z.take 1 = [91] := by
        rw [hb91, ← hcut]
        exact ⟨fun z => congrArg tl z, fun z => TL.ext_tl z⟩
      refine ⟨by omega, ?_⟩
      by_cases hc : z.take 1 = [91]
      · rw [if_pos (hbr.mpr hc)]
        have hz0 : 0 < z.length := by
          cases z with
          | nil => cases hc
          | cons c r => simp
        refine ⟨b + hn, e, rfl, rfl, by omega, het, ht, fun r v H3 he3 hr hv => ?_⟩
        rw [hz] at hr hv
        refine ⟨r, _, rfl, .inl (Rd.of hr), rfl, _, _, rfl, _, _, rfl, rfl, ?_⟩
        refine hN _ _ ⟨v, ?_, he2.tr he3, hw4.ext he3, ?_⟩
        · unfold hoR
          rw [if_pos hc]
        · unfold hoR
          rw [if_pos hc]
          exact hv
      · rw [if_neg (fun z => hc (hbr.mp z))]
        have hf58 : ixf 58 (tl t) (b + hn) e = (if z.contains 58 = true then some (b + hn + (bef 58 z).length) else none) := by
          unfold ixf
          rw [hz]
        have e2 : hoR z (b + hn) = (Mi.scan (SI 2) (b + hn) (bef 58 z), (bef 58 z).length) := by unfold hoR; rw [if_neg hc]
        have eS2 : tl (PLs ++ Str.ofString "!$&'()*+,;=") = SI 2 := by rw [TL.tl_append]; rfl
        refine seqStep ?_
        (try simp only [tNext, tFor_eq, cBl, tOp, tC, cI, cIc, cAdd, cVar, hEq, hNe, hIn, hNotIn, hLen, hSl, tM1, tBM, cT1, cT1f, cFind3, cSplit, cPart, rNewStrs, hIsS, hTru, tAsg, gName, gSub, tRet, tRetN, tCons, tNil, tTup, tLst, tCB, tNot, tAnd, tNotV, tAndV, tOrV, tOr, V.bl.injEq, V.int.injEq, V.str.injEq, exists_eq_left', exists_eq_left, exists_eq', true_and, and_true, cIsN, L2.start, gTup, gCons, gNil, nox_K, cx_K, tCallF, tSl, tPart, tNoPart, iEnum, RZ.iZipA, iRng1, iRng2, cAbs, List.map_cons, List.map_nil, List.length_cons, List.length_nil, List.replicate, List.cons_append, List.nil_append, List.getElem?_cons_zero, List.getElem?_cons_succ, List.getElem?_nil, List.set_cons_zero, List.set_cons_succ, Nat.reduceAdd, Nat.reduceSub, Nat.zero_add, if_true, if_false, reduceIte, reduceCtorEq, Bool.false_eq_true, decide_eq_true_eq, tDrop, cMin2, cJoin, iList, tDNewK, tLc_eq, iStr, wipe])
        refine ⟨rfl, ?_⟩
        rw [e58, findIn_ix t 58 (b + hn) e (by omega), hf58]
        have fin : ∀ st : Nat, st = b + hn + (bef 58 z).length → st ≤ e → ((tl t).take st).drop (b + hn) = bef 58 z → spLSigns [.str t, .int ((b + hn : Nat) : Int), .int ((st : Nat) : Int), .str (PLs ++ Str.ofString "!$&'()*+,;=")] H2 (fun x H1 => Nx [some (.str t), some (.int ((b + hn : Nat) : Int)), some (.int (e : Nat)), some (.str (PLs ++ Str.ofString "!$&'()*+,;=")), some v4, some (if 0 < hn then vStr (y.take (hn - 1)) else .non), some v6, some x, some (.int ((st : Nat) : Int))] H1) E0 := fun st hst hse hsl => by
          refine ⟨b + hn, st, rfl, rfl, by omega, by omega, ht, hs, fun v H3 he3 hv => ?_⟩
          rw [hsl, eS2] at hv
          refine hN _ _ ⟨v, ?_, he2.tr he3, hw4.ext he3, ?_⟩
          · rw [e2, hst]
          · rw [e2]; exact hv
        cases h58 : z.contains 58 with
        | true =>
          rw [if_pos rfl]
          have hbl : (bef 58 z).length < z.length := by
            have := congrArg List.length (bef_aft h58)
            rw [List.length_append, List.length_cons] at this
            omega
          refine seqStep ?_
          unfold tIf
          (try simp only [tNext, tFor_eq, cBl, tOp, tC, cI, cIc, cAdd, cVar, hEq, hNe, hIn, hNotIn, hLen, hSl, tM1, tBM, cT1, cT1f, cFind3, cSplit, cPart, rNewStrs, hIsS, hTru, tAsg, gName, gSub, tRet, tRetN, tCons, tNil, tTup, tLst, tCB, tNot, tAnd, tNotV, tAndV, tOrV, tOr, V.bl.injEq, V.int.injEq, V.str.injEq, exists_eq_left', exists_eq_left, exists_eq', true_and, and_true, cIsN, L2.start, gTup, gCons, gNil, nox_K, cx_K, tCallF, tSl, tPart, tNoPart, iEnum, RZ.iZipA, iRng1, iRng2, cAbs, List.map_cons, List.map_nil, List.length_cons, List.length_nil, List.replicate, List.cons_append, List.nil_append, List.getElem?_cons_zero, List.getElem?_cons_succ, List.getElem?_nil, List.set_cons_zero, List.set_cons_succ, Nat.reduceAdd, Nat.reduceSub, Nat.zero_add, if_true, if_false, reduceIte, reduceCtorEq, Bool.false_eq_true, decide_eq_true_eq, tDrop, cMin2, cJoin, iList, tDNewK, tLc_eq, iStr, wipe])
          rw [if_neg (show ¬ ixI (some (b + hn + (bef 58 z).length)) < 0 from Int.not_lt.mpr (Int.natCast_nonneg _))]
          refine fin _ rfl (by omega) ?_
          have e3 := hzt (bef 58 z).length (by omega)
          rw [e3]
          have e4 := bef_aft h58
          have e5 : (bef 58 z ++ 58 :: aft 58 z).take (bef 58 z).length = bef 58 z := List.take_left
          rw [← e4] at e5
          exact e5
        | false =>
          rw [if_neg (show ¬ false = true by decide)]
          have hbz : bef 58 z = z := bef_none h58
          refine seqStep ?_
          unfold tIf
          (try simp only [tNext, tFor_eq, cBl, tOp, tC, cI, cIc, cAdd, cVar, hEq, hNe, hIn, hNotIn, hLen, hSl, tM1, tBM, cT1, cT1f, cFind3, cSplit, cPart, rNewStrs, hIsS, hTru, tAsg, gName, gSub, tRet, tRetN, tCons, tNil, tTup, tLst, tCB, tNot, tAnd, tNotV, tAndV, tOrV, tOr, V.bl.injEq, V.int.injEq, V.str.injEq, exists_eq_left', exists_eq_left, exists_eq', true_and, and_true, cIsN, L2.start, gTup, gCons, gNil, nox_K, cx_K, tCallF, tSl, tPart, tNoPart, iEnum, RZ.iZipA, iRng1, iRng2, cAbs, List.map_cons, List.map_nil, List.length_cons, List.length_nil, List.replicate, List.cons_append, List.nil_append, List.getElem?_cons_zero, List.getElem?_cons_succ, List.getElem?_nil, List.set_cons_zero, List.set_cons_succ, Nat.reduceAdd, Nat.reduceSub, Nat.zero_add, if_true, if_false, reduceIte, reduceCtorEq, Bool.false_eq_true, decide_eq_true_eq, tDrop, cMin2, cJoin, iList, tDNewK, tLc_eq, iStr, wipe])
          rw [if_pos (show ixI none < 0 by decide)]
          refine fin e (by rw [hbz]; omega) (Nat.le_refl _) ?_
          rw [hbz]; exact hz
    rintro σ H3 ⟨v7, rfl, he3, hw4, hv7⟩
    have hsp := hoR_le z (b + hn)
    generalize hR : hoR z (b + hn) = hr2 at *
    obtain ⟨o2, sp⟩ := hr2
    dsimp only at hsp hv7 q ⊢
    obtain ⟨r4, ps4, rfl, -⟩ := id hw4
    obtain ⟨r7, rfl, -⟩ := id hv7
    refine seqStep ?_
    (try simp only [tNext, tFor_eq, cBl, tOp, tC, cI, cIc, cAdd, cVar, hEq, hNe, hIn, hNotIn, hLen, hSl, tM1, tBM, cT1, cT1f, cFind3, cSplit, cPart, rNewStrs, hIsS, hTru, tAsg, gName, gSub, tRet, tRetN, tCons, tNil, tTup, tLst, tCB, tNot, tAnd, tNotV, tAndV, tOrV, tOr, V.bl.injEq, V.int.injEq, V.str.injEq, exists_eq_left', exists_eq_left, exists_eq', true_and, and_true, cIsN, L2.start, gTup, gCons, gNil, nox_K, cx_K, tCallF, tSl, tPart, tNoPart, iEnum, RZ.iZipA, iRng1, iRng2, cAbs, List.map_cons, List.map_nil, List.length_cons, List.length_nil, List.replicate, List.cons_append, List.nil_append, List.getElem?_cons_zero, List.getElem?_cons_succ, List.getElem?_nil, List.set_cons_zero, List.set_cons_succ, Nat.reduceAdd, Nat.reduceSub, Nat.zero_add, if_true, if_false, reduceIte, reduceCtorEq, Bool.false_eq_true, decide_eq_true_eq, tDrop, cMin2, cJoin, iList, tDNewK, tLc_eq, iStr, wipe])
    refine .inl (WL.cat hw4 hv7.wl (by simp) fun r1 H4 he4 hw5 => ?_)
    unfold tIf
    (try simp only [tNext, tFor_eq, cBl, tOp, tC, cI, cIc, cAdd, cVar, hEq, hNe, hIn, hNotIn, hLen, hSl, tM1, tBM, cT1, cT1f, cFind3, cSplit, cPart, rNewStrs, hIsS, hTru, tAsg, gName, gSub, tRet, tRetN, tCons, tNil, tTup, tLst, tCB, tNot, tAnd, tNotV, tAndV, tOrV, tOr, V.bl.injEq, V.int.injEq, V.str.injEq, exists_eq_left', exists_eq_left, exists_eq', true_and, and_true, cIsN, L2.start, gTup, gCons, gNil, nox_K, cx_K, tCallF, tSl, tPart, tNoPart, iEnum, RZ.iZipA, iRng1, iRng2, cAbs, List.map_cons, List.map_nil, List.length_cons, List.length_nil, List.replicate, List.cons_append, List.nil_append, List.getElem?_cons_zero, List.getElem?_cons_succ, List.getElem?_nil, List.set_cons_zero, List.set_cons_succ, Nat.reduceAdd, Nat.reduceSub, Nat.zero_add, if_true, if_false, reduceIte, reduceCtorEq, Bool.false_eq_true, decide_eq_true_eq, tDrop, cMin2, cJoin, iList, tDNewK, tLc_eq, iStr, wipe])
    have ev1 : V.str (cutS t (some ((b + hn : Nat) : Int)) (some ((b + hn + sp : Nat) : Int))) = vStr (z.take sp) := vStr_eq (by rw [cutNM]; exact hzt sp (by omega))
    by_cases hlt : sp < z.length
    · rw [if_pos (by omega)]
      have ei : ((b + hn + sp : Nat) : Int) + 1 = ((b + hn + sp + 1 : Nat) : Int) := by omega
      have hdr : ((tl t).take e).drop (b + hn + sp + 1) = z.drop (sp + 1) := by
        rw [← hz, List.drop_drop]
        congr 1
      have ev2 : V.str (cutS t (some (((b + hn + sp : Nat) : Int) + 1)) (some ((e : Nat) : Int))) = vStr (z.drop (sp + 1)) := vStr_eq (by rw [ei, cutNM, hdr])
      rw [ev1, ev2]
      refine ⟨b + hn + sp + 1, e, ei, rfl, by omega, het, ht, hs, fun v H5 he5 hv => ?_⟩
      rw [hdr] at hv
      rw [if_pos hlt, if_pos hlt] at q
      obtain ⟨r8, rfl, -⟩ := id hv
      refine .inl (WL.cat (hw5.ext he5) hv.wl (by simp) fun r2 H6 he6 hw6 => ?_)
      rw [if_pos (by omega)]
      refine ⟨by omega, by omega, by omega, fun p hp => ?_⟩
      have x7 := Ext.rf.fresh (H := H6) (o := .tup [if 0 < hn then vStr (y.take (hn - 1)) else V.non, vStr (z.take sp), vStr (z.drop (sp + 1)), V.ref r2]) hp
      exact q p (.ref r2) _ ((((he3.tr he4).tr he5).tr he6).tr x7) upd_self (hw6.ext x7)
    · rw [if_neg (by omega)]
      rw [if_neg hlt, if_neg hlt] at q
      refine ⟨by omega, fun p0 hp0 => ?_⟩
      rw [ev1]
      have x5 := Ext.rf.fresh (H := H4) (o := .lst []) hp0
      have hw0 : WL (upd H4 p0 (.lst [])) (.ref p0) [none] := ⟨p0, [], rfl, upd_self, .nil⟩
      refine .inl (WL.cat (hw5.ext x5) hw0 (by simp) fun r2 H6 he6 hw6 => ?_)
      rw [if_neg (by omega)]
      refine ⟨by omega, by omega, fun p hp => ?_⟩
      have x7 := Ext.rf.fresh (H := H6) (o := .tup [if 0 < hn then vStr (y.take (hn - 1)) else V.non, vStr (z.take sp), V.non, V.ref r2]) hp
      exact q p (.ref r2) _ ((((he3.tr he4).tr x5).tr he6).tr x7) upd_self (hw6.ext x7)
end
end Da
set_option Elab.async false
set_option linter.all false
set_option maxRecDepth 100000
set_option maxHeartbeats 4000000
namespace Da
open PySem PySem.Spec PyProof.Rows L2 Hd Xs Fx Mi ClX Xr
open TL (tl)
/-! ### where the wrong places lie -/
theorem mv_mv (a b : Nat) (o : KP) : mv a (mv b o) = mv (a + b) o := by
  cases o with
  | none => rfl
  | some r =>
    show some (r.1, a + (b + r.2)) = some (r.1, a + b + r.2)
    rw [Nat.add_assoc]
theorem scan_mv (S : T) : ∀ (n : Nat) (l : T) (i j : Nat), l.length ≤ n → Mi.scan S (i + j) l = mv i (Mi.scan S j l)
  | _, [], _, _, _ => rfl
  | 0, c :: r, _, _, h => absurd h (by simp)
  | n + 1, c :: r, i, j, h => by
    have hr : r.length ≤ n := by simpa using h
    by_cases hc : c = 94
    · subst hc
      rw [scan_94', scan_94']
      by_cases hx : hexT r = true
      · rw [if_pos hx, if_pos hx, Nat.add_assoc]
        exact scan_mv S n _ i (j + 3) (by rw [List.length_drop]; omega)
      · rw [if_neg hx, if_neg hx]; rfl
    · cases hs : S.contains c with
      | true =>
        rw [scan_in hc hs, scan_in hc hs, Nat.add_assoc]
        exact scan_mv S n r i (j + 1) hr
      | false => rw [scan_out hc hs, scan_out hc hs]; rfl
theorem scan_at (S : T) (i : Nat) (l : T) : Mi.scan S i l = mv i (Mi.scan S 0 l) := scan_mv S l.length l i 0 (Nat.le_refl _)
theorem scan_lt (S : T) : ∀ (n : Nat) (l : T) (i : Nat) (k : Str) (j : Nat), l.length ≤ n → Mi.scan S i l = some (k, j) → i ≤ j ∧ j < i + l.length
  | _, [], _, _, _, _, h => nomatch h
  | 0, c :: r, _, _, _, h, _ => absurd h (by simp)
  | n + 1, c :: r, i, k, j, h, e => by
    have hr : r.length ≤ n := by simpa using h
    rw [List.length_cons]
    by_cases hc : c = 94
    · subst hc
      rw [scan_94'] at e
      by_cases hx : hexT r = true
      · rw [if_pos hx] at e
        have h2 := hexT_len hx
        have := scan_lt S n _ _ k j (by rw [List.length_drop]; omega) e
        rw [List.length_drop] at this
        omega
      · rw [if_neg hx] at e
        cases e
        omega
    · cases hs : S.contains c with
      | true =>
        rw [scan_in hc hs] at e
        have := scan_lt S n r _ k j hr e
        omega
      | false =>
        rw [scan_out hc hs] at e
        cases e
        omega
theorem wSch_le {l : T} {k : Str} {j : Nat} (h : wSch l = some (k, j)) : j ≤ l.length := by
  unfold wSch at h
  split at h
  · cases h; exact Nat.zero_le _
  · split at h
    · cases h; omega
    · cases h
theorem wPort_lt {l : T} {k : Str} {j : Nat} (h : wPort l = some (k, j)) : j < l.length := by
  unfold wPort at h
  split at h
  · rename_i hc
    cases h
    have := fo_le (l.take 5) DIGT
    rw [List.length_take] at this
    omega
  · split at h
    · rename_i hc
      cases h; exact hc
    · cases h
theorem brR_at {m : T} {k : Str} {j : Nat} (h : (brR m).1 = some (k, j)) (hm : m ≠ []) : j ≤ (brR m).2 ∨ j ≤ m.length := by
  refine .inr ?_
  have hl : 0 < m.length := by
    cases m with
    | nil => exact absurd rfl hm
    | cons c r => simp
  have hf := fo_le (m.drop 1) BRKT
  rw [List.length_drop] at hf
  unfold brR at h
  split at h
  · cases h
    show 1 + fo (m.drop 1) BRKT ≤ m.length
    omega
  · split at h
    · rename_i h2
      cases h
      show 1 + fo (m.drop 1) BRKT + 1 ≤ m.length
      omega
    · cases h
/-! ### the least place is the first one's -/
/-- places that rise -/
def Inc (os : List KP) : Prop := os.Pairwise fun o o' => ∀ k a k' b, o = some (k, a) → o' = some (k', b) → a < b
def firstO (os : List KP) : KP := (os.filterMap id).head?
theorem first_min : ∀ {os : List KP}, Inc os → ∀ x ∈ os.filterMap id, ∃ f, firstO os = some f ∧ f.2 ≤ x.2 ∧ (x.2 ≤ f.2 → x = f)
  | [], _, x, hx => nomatch hx
  | none :: os, h, x, hx => first_min (List.pairwise_cons.mp h).2 x hx
  | some r :: os, h, x, hx => by
    refine ⟨r, rfl, ?_⟩
    rcases List.mem_cons.mp (show x ∈ r :: os.filterMap id from hx) with rfl | hm
    · exact ⟨Nat.le_refl _, fun _ => rfl⟩
    · obtain ⟨o, ho, e⟩ := List.mem_filterMap.mp hm
      have := (List.pairwise_cons.mp h).1 o ho r.1 r.2 x.1 x.2 rfl e
      exact ⟨Nat.le_of_lt this, fun z => absurd z (by omega)⟩
theorem first_none {os : List KP} : firstO os = none ↔ os.filterMap id = [] := by
  unfold firstO
  cases os.filterMap id <;> simp
theorem wRows_first : ∀ rs : List R3, wRows rs = firstO (rs.map fun r => mv r.2.1 (wP r.1 r.2.2))
  | [] => rfl
  | r :: rs => by
    rw [wRows_cons]
    cases e : wP r.1 r.2.2 with
    | none =>
      show wRows rs = firstO ((mv r.2.1 (wP r.1 r.2.2)) :: rs.map _)
      rw [e]
      exact wRows_first rs
    | some ka =>
      show _ = firstO ((mv r.2.1 (wP r.1 r.2.2)) :: rs.map _)
      rw [e]
      rfl
end Da
set_option Elab.async false
set_option linter.all false
set_option maxRecDepth 100000
set_option maxHeartbeats 4000000
namespace Da
open PySem PySem.Spec PyProof.Rows L2 Hd Xs Fx Mi ClX Xr
open TL (tl)
/-! ### the host: the law's reading and the program's -/
theorem fo_take (S : T) : ∀ (l : T) (m : Nat), fo (l.take m) S = min (fo l S) m
  | [], m => by simp [fo]
  | c :: r, 0 => by simp [fo]
  | c :: r, m + 1 => by
    have ih := fo_take S r m
    unfold fo at ih ⊢
    rw [List.take_succ_cons]
    cases h : S.contains c with
    | true =>
      rw [List.takeWhile_cons_of_pos h, List.takeWhile_cons_of_pos h, List.length_cons, List.length_cons, ih]
      omega
    | false =>
      rw [List.takeWhile_cons_of_neg (by rw [h]; decide), List.takeWhile_cons_of_neg (by rw [h]; decide)]
      simp
theorem fo_mem {S : T} : ∀ {l : T} {i : Nat}, i < fo l S → ∃ c, l[i]? = some c ∧ S.contains c = true
  | [], i, h => absurd h (Nat.not_lt_zero _)
  | c :: r, i, h => by
    unfold fo at h
    cases hc : S.contains c with
    | false =>
      rw [List.takeWhile_cons_of_neg (by rw [hc]; decide)] at h
      exact absurd h (Nat.not_lt_zero _)
    | true =>
      rw [List.takeWhile_cons_of_pos hc, List.length_cons] at h
      cases i with
      | zero => exact ⟨c, rfl, hc⟩
      | succ i => exact fo_mem (l := r) (i := i) (by unfold fo; omega)
theorem eoh_plain {z : T} (h : z.take 1 ≠ [91]) : eoh z 0 = (bef 58 z).length := by
  unfold eoh
  rw [List.drop_zero, if_neg h, ixf_all]
  cases hc : z.contains 58 with
  | true => rfl
  | false => rw [bef_none hc]; rfl
theorem host_plain {z : T} (h : z.take 1 ≠ [91]) (k : Nat) : (hoR z k).1 = mv k (wP 2 (z.take (eoh z 0))) ∧ (hoR z k).2 = eoh z 0 := by
  have e : hoR z k = (Mi.scan (SI 2) k (bef 58 z), (bef 58 z).length) := by unfold hoR; rw [if_neg h]
  have et : z.take (bef 58 z).length = bef 58 z := by
    cases hc : z.contains 58 with
    | false => rw [bef_none hc, List.take_length]
    | true =>
      have e5 : (bef 58 z ++ 58 :: aft 58 z).take (bef 58 z).length = bef 58 z := List.take_left
      rw [← bef_aft hc] at e5
      exact e5
  have hn : ¬ (2 = 2 ∧ (bef 58 z).take 1 = [91]) := by
    rintro ⟨_, hb⟩
    rw [← et, List.take_take] at hb
    cases hm : (bef 58 z).length with
    | zero => rw [hm] at hb; simp at hb
    | succ m =>
      rw [hm, Nat.min_eq_left (by omega)] at hb
      exact h hb
  rw [eoh_plain h, et, e, wP_scan (.inr (.inl rfl)) hn]
  exact ⟨scan_at _ _ _, rfl⟩
theorem brkt93 : BRKT.contains 93 = false := by decide +kernel
theorem host_br {z : T} (h : z.take 1 = [91]) (k : Nat) : (hoR z k).1 = mv k (wP 2 (z.take (eoh z 0))) ∧ ((hoR z k).1 = none → (hoR z k).2 = eoh z 0) := by
  have e0 : hoR z k = (mv k (brR z).1, (brR z).2) := by unfold hoR; rw [if_pos h]
  have h0 : z[0]? = some 91 := take1.mp (by rw [List.drop_zero]; exact h)
  have hl : 0 < z.length := (List.getElem?_eq_some_iff.mp h0).1
  have hw : ∀ E, 0 < E → wP 2 (z.take E) = wBr (z.take E) := fun E hE => by
    have ht : (z.take E).take 1 = [91] := by rw [List.take_take, Nat.min_eq_left (by omega)]; exact h
    unfold wP
    rw [if_neg (by decide), if_neg (by decide), if_pos ⟨rfl, ht⟩]
  have hfl := fo_le (z.drop 1) BRKT
  rw [List.length_drop] at hfl
  have eE : eoh z 0 = (match (if z.contains 93 = true then some (bef 93 z).length else none) with
      | some b => if (z.drop (b + 1)).take 1 = [58] then b + 1 else z.length
      | none => z.length) := by
    unfold eoh
    rw [List.drop_zero, if_pos h, ixf_all]
    all_goals (cases z.contains 93 <;> rfl)
  -- what the two say
  have key : (brR z).1 = wBr (z.take (eoh z 0)) ∧ 0 < eoh z 0 ∧ ((brR z).1 = none → (brR z).2 = eoh z 0) := by
    by_cases c1 : fo (z.drop 1) BRKT = 0 ∨ (z.drop (1 + fo (z.drop 1) BRKT)).take 1 ≠ [93]
    · have eb : (brR z).1 = some (kH, 1 + fo (z.drop 1) BRKT) := by unfold brR; rw [if_pos c1]
      rw [eb]
      have whole : some (kH, 1 + fo (z.drop 1) BRKT) = wBr (z.take z.length) := by
        rw [List.take_length]
        unfold wBr
        rw [if_pos c1]
      cases hc : z.contains 93 with
      | false =>
        rw [hc, if_neg (by decide)] at eE
        dsimp only at eE
        rw [eE]
        exact ⟨whole, hl, fun z => nomatch z⟩
      | true =>
        rw [hc, if_pos rfl] at eE
        dsimp only at eE
        by_cases c2 : (z.drop ((bef 93 z).length + 1)).take 1 = [58]
        · rw [if_pos c2] at eE
          have eg : (bef 93 z ++ 93 :: aft 93 z)[(bef 93 z).length]? = some 93 := by simp
          rw [← bef_aft hc] at eg
          generalize hb : (bef 93 z).length = b at *
          have hb1 : 0 < b := by
            cases b with
            | zero => rw [h0] at eg; cases eg
            | succ b => exact Nat.succ_pos _
          have hnb : fo (z.drop 1) BRKT < b := by
            refine Nat.lt_of_not_le fun hle => ?_
            obtain ⟨c, hc1, hc2⟩ := fo_mem (S := BRKT) (l := z.drop 1) (i := b - 1) (by omega)
            rw [List.getElem?_drop, show 1 + (b - 1) = b by omega, eg] at hc1
            cases hc1
            rw [brkt93] at hc2
            cases hc2
          rw [eE]
          refine ⟨?_, Nat.succ_pos _, fun z => nomatch z⟩
          have e1 : fo ((z.take (b + 1)).drop 1) BRKT = fo (z.drop 1) BRKT := by
            rw [List.drop_take, Nat.add_sub_cancel, fo_take]
            omega
          have e2 : ((z.take (b + 1)).drop (1 + fo (z.drop 1) BRKT)).take 1 = (z.drop (1 + fo (z.drop 1) BRKT)).take 1 := by
            rw [List.drop_take, List.take_take]
            congr 1
            omega
          unfold wBr
          rw [e1, e2, if_pos c1]
        · rw [if_neg c2] at eE
          rw [eE]
          exact ⟨whole, hl, fun z => nomatch z⟩
    · have cn : fo (z.drop 1) BRKT ≠ 0 := fun z => c1 (.inl z)
      have c93 : (z.drop (1 + fo (z.drop 1) BRKT)).take 1 = [93] := Classical.byContradiction fun z => c1 (.inr z)
      have g93 := take1.mp c93
      generalize hn : fo (z.drop 1) BRKT = n at *
      have hbl : (bef 93 z).length = 1 + n := by
        refine bef_len g93 fun j hj he => ?_
        cases j with
        | zero => rw [h0] at he; cases he
        | succ j =>
          obtain ⟨c, hc1, hc2⟩ := fo_mem (S := BRKT) (l := z.drop 1) (i := j) (by omega)
          rw [List.getElem?_drop, show 1 + j = j + 1 by omega, he] at hc1
          cases hc1
          rw [brkt93] at hc2
          cases hc2
      have hc : z.contains 93 = true := List.contains_iff_mem.mpr (List.mem_of_getElem? g93)
      have hlt : 1 + n < z.length := (List.getElem?_eq_some_iff.mp g93).1
      rw [hc, if_pos rfl] at eE
      dsimp only at eE
      rw [hbl] at eE
      by_cases c2 : (z.drop (1 + n + 1)).take 1 = [58]
      · rw [if_pos c2] at eE
        have e1 : fo ((z.take (1 + n + 1)).drop 1) BRKT = n := by
          rw [List.drop_take, fo_take, hn]
          omega
        have e2 : ((z.take (1 + n + 1)).drop (1 + n)).take 1 = [93] := by
          rw [List.drop_take, List.take_take, Nat.min_eq_left (by omega)]
          exact c93
        have eb : brR z = (none, 1 + n + 1) := by
          unfold brR
          rw [hn, if_neg c1, if_neg (fun z => z.2 c2)]
        rw [eb, eE]
        refine ⟨?_, Nat.succ_pos _, fun _ => rfl⟩
        unfold wBr
        rw [e1, if_neg (fun z => z.elim cn fun q => q e2), if_neg (by rw [List.length_take]; omega)]
      · rw [if_neg c2] at eE
        rw [eE, List.take_length]
        have ew : wBr z = if 1 + n + 1 < z.length then some (kH, 1 + n + 1) else none := by
          unfold wBr
          rw [hn, if_neg c1]
        by_cases c3 : 1 + n + 1 < z.length
        · have eb : brR z = (some (kH, 1 + n + 1), 1 + n + 1) := by
            unfold brR
            rw [hn, if_neg c1, if_pos ⟨c3, c2⟩]
          rw [eb, ew, if_pos c3]
          exact ⟨rfl, hl, fun z => nomatch z⟩
        · have eb : brR z = (none, 1 + n + 1) := by
            unfold brR
            rw [hn, if_neg c1, if_neg (fun z => c3 z.1)]
          rw [eb, ew, if_neg c3]
          exact ⟨rfl, hl, fun _ => by omega⟩
  rw [e0, hw _ key.2.1, ← key.1]
  refine ⟨rfl, fun hh => key.2.2 ?_⟩
  cases hb : (brR z).1 with
  | none => rfl
  | some r =>
    have hh' : mv k (brR z).1 = none := hh
    rw [hb] at hh'
    cases hh'
end Da
set_option Elab.async false
set_option linter.all false
set_option maxRecDepth 100000
set_option maxHeartbeats 4000000
namespace Da
open PySem PySem.Spec PyProof.Rows L2 Hd Xs Fx Mi ClX Xr
open TL (tl)
/-! ### an authority: the law's reading and the program's rows -/
theorem ixf_shift {c : Nat} {l : T} {h : Nat} : ixf c l h l.length = (ixf c (l.drop h) 0 (l.drop h).length).map (h + ·) := by
  rw [ixf_all]
  unfold ixf
  rw [List.take_length]
  cases (l.drop h).contains c <;> rfl
theorem eoh_shift {l : T} {h : Nat} (hh : h ≤ l.length) : eoh l h = h + eoh (l.drop h) 0 := by
  have e93 := ixf_shift (c := 93) (l := l) (h := h)
  have e58 := ixf_shift (c := 58) (l := l) (h := h)
  have hl : l.length = h + (l.drop h).length := by rw [List.length_drop]; omega
  unfold eoh
  rw [List.drop_zero, e93, e58]
  by_cases c1 : (l.drop h).take 1 = [91]
  · rw [if_pos c1, if_pos c1]
    cases ixf 93 (l.drop h) 0 (l.drop h).length with
    | none => exact hl
    | some b =>
      dsimp only [Option.map_some]
      have e : l.drop (h + b + 1) = (l.drop h).drop (b + 1) := by rw [List.drop_drop]; congr 1
      rw [e]
      by_cases c2 : ((l.drop h).drop (b + 1)).take 1 = [58]
      · rw [if_pos c2, if_pos c2]; omega
      · rw [if_neg c2, if_neg c2]; exact hl
  · rw [if_neg c1, if_neg c1]
    cases ixf 58 (l.drop h) 0 (l.drop h).length with
    | none => exact hl
    | some b => rfl
theorem host_both (z : T) (k : Nat) : (hoR z k).1 = mv k (wP 2 (z.take (eoh z 0))) ∧ ((hoR z k).1 = none → (hoR z k).2 = eoh z 0) := by
  by_cases h : z.take 1 = [91]
  · exact host_br h k
  · exact ⟨(host_plain h k).1, fun _ => (host_plain h k).2⟩
theorem hostAt_le (y : T) : hostAt y ≤ y.length := by
  rw [hostAt_eq]
  cases hc : y.contains 64 with
  | false => exact Nat.zero_le _
  | true =>
    have := congrArg List.length (bef_aft hc)
    rw [List.length_append, List.length_cons] at this
    rw [if_pos rfl]
    omega
theorem firstO_cons (o : KP) (os : List KP) : firstO (o :: os) = (match o with
    | some r => some r
    | none => firstO os) := by
  cases o <;> rfl
theorem firstO_app : ∀ (xs ys : List KP), firstO (xs ++ ys) = (match firstO xs with
    | some r => some r
    | none => firstO ys)
  | [], ys => rfl
  | none :: xs, ys => firstO_app xs ys
  | some r :: xs, ys => rfl
def rowO (rs : List R3) : List KP := rs.map fun r => mv r.2.1 (wP r.1 r.2.2)
theorem au_first (y : T) (b : Nat) : firstO (auO y b) = firstO (rowO (splA y b)) := by
  obtain ⟨e1, e2⟩ := host_both (y.drop (hostAt y)) (b + hostAt y)
  have es := eoh_shift (hostAt_le y)
  have hzl : (y.drop (hostAt y)).length = y.length - hostAt y := List.length_drop
  have hle := hostAt_le y
  have e3 : (y.drop (hostAt y)).take (eoh y (hostAt y) - hostAt y) = (y.drop (hostAt y)).take (eoh (y.drop (hostAt y)) 0) := by rw [es, Nat.add_sub_cancel_left]
  have o1 : (if 0 < hostAt y then Mi.scan (SI 1) b (y.take (hostAt y - 1)) else none : KP) = (if 0 < hostAt y then mv b (wP 1 (y.take (hostAt y - 1))) else none) := by
    by_cases h0 : 0 < hostAt y
    · rw [if_pos h0, if_pos h0, wP_scan (.inl rfl) (fun z => by cases z.1)]
      exact scan_at _ _ _
    · rw [if_neg h0, if_neg h0]
  unfold auO
  rw [o1, e1, firstO_cons]
  have rows : firstO (rowO (splA y b)) = (match (if 0 < hostAt y then mv b (wP 1 (y.take (hostAt y - 1))) else none : KP) with
      | some r => some r
      | none => match mv (b + hostAt y) (wP 2 ((y.drop (hostAt y)).take (eoh (y.drop (hostAt y)) 0))) with
        | some r => some r
        | none => firstO (rowO (if eoh y (hostAt y) < y.length then [(3, b + eoh y (hostAt y) + 1, y.drop (eoh y (hostAt y) + 1))] else []))) := by
    unfold splA
    rw [e3]
    by_cases h0 : 0 < hostAt y
    · rw [if_pos h0, if_pos h0]
      show firstO (mv b (wP 1 (y.take (hostAt y - 1))) :: (mv (b + hostAt y) (wP 2 _) :: rowO _)) = _
      rw [firstO_cons, firstO_cons]
      cases mv b (wP 1 (y.take (hostAt y - 1))) with
      | some r => rfl
      | none =>
        dsimp only
        cases mv (b + hostAt y) (wP 2 ((y.drop (hostAt y)).take (eoh (y.drop (hostAt y)) 0))) <;> rfl
    · rw [if_neg h0, if_neg h0]
      show firstO ((mv (b + hostAt y) (wP 2 _) :: rowO _)) = _
      rw [firstO_cons]
      dsimp only
      cases mv (b + hostAt y) (wP 2 ((y.drop (hostAt y)).take (eoh (y.drop (hostAt y)) 0))) <;> rfl
  rw [rows]
  cases (if 0 < hostAt y then mv b (wP 1 (y.take (hostAt y - 1))) else none : KP) with
  | some r => rfl
  | none =>
    dsimp only
    rw [firstO_cons]
    cases hw : mv (b + hostAt y) (wP 2 ((y.drop (hostAt y)).take (eoh (y.drop (hostAt y)) 0))) with
    | some r => rfl
    | none =>
      dsimp only
      rw [e1, hw] at e2
      rw [e2 rfl]
      by_cases hlt : eoh (y.drop (hostAt y)) 0 < (y.drop (hostAt y)).length
      · rw [if_pos hlt, if_pos (by omega), es]
        show firstO [mv (b + hostAt y + eoh (y.drop (hostAt y)) 0 + 1) (wPort _)] = firstO [mv (b + (hostAt y + eoh (y.drop (hostAt y)) 0) + 1) (wP 3 _)]
        have ed : (y.drop (hostAt y)).drop (eoh (y.drop (hostAt y)) 0 + 1) = y.drop (hostAt y + eoh (y.drop (hostAt y)) 0 + 1) := by rw [List.drop_drop]; congr 1
        rw [ed, ← Nat.add_assoc]
        rfl
      · rw [if_neg hlt, if_neg (by omega)]
        rfl
end Da
set_option Elab.async false
set_option linter.all false
set_option maxRecDepth 100000
set_option maxHeartbeats 4000000
namespace Da
open PySem PySem.Spec PyProof.Rows L2 Hd Xs Fx Mi ClX Xr
open TL (tl)
/-! ### a text: the law's reading and the program's rows -/
theorem firstO_congr {a a' b b' : List KP} (h : firstO a = firstO a') (h' : firstO b = firstO b') : firstO (a ++ b) = firstO (a' ++ b') := by
  rw [firstO_app, firstO_app, h, h']
def bfQ (l : T) : T := bef 63 (bef 35 l)
def auth (q : T) : Prop := (q.drop (schAt q)).take 2 = [47, 47]
instance (q : T) : Decidable (auth q) := inferInstanceAs (Decidable ((q.drop (schAt q)).take 2 = [47, 47]))
def auY (q : T) : T := bef 47 (q.drop (schAt q + 2))
def paAt (q : T) : Nat := if auth q then schAt q + 2 + (auY q).length else schAt q
/-- the wrong places that the law finds, in the order of the text -/
def lawO (l : T) : List KP := [if (bef 47 (bfQ l)).contains 58 = true then wSch ((bfQ l).take (schAt (bfQ l) - 1)) else none] ++ ((if auth (bfQ l) then auO (auY (bfQ l)) (schAt (bfQ l) + 2) else []) ++ ([Mi.scan (SI 4) (paAt (bfQ l)) ((bfQ l).drop (paAt (bfQ l)))] ++
  ([if (bef 35 l).contains 63 = true then Mi.scan (SI 5) ((bfQ l).length + 1) (aft 63 (bef 35 l)) else none] ++ [if l.contains 35 = true then Mi.scan (SI 6) ((bef 35 l).length + 1) (aft 35 l) else none])))
theorem one_row {i : Nat} (hi : i = 4 ∨ i = 5 ∨ i = 6) (k : Nat) (l : T) : firstO [Mi.scan (SI i) k l] = firstO (rowO [(i, k, l)]) := by
  show firstO [Mi.scan (SI i) k l] = firstO [mv k (wP i l)]
  rw [scan_at, wP_scan (by omega) (fun z => by omega)]
theorem if_row {c : Prop} [Decidable c] {i : Nat} (hi : i = 4 ∨ i = 5 ∨ i = 6) (k : Nat) (l : T) : firstO [if c then Mi.scan (SI i) k l else none] = firstO (rowO (if c then [(i, k, l)] else [])) := by
  by_cases h : c
  · rw [if_pos h, if_pos h]; exact one_row hi k l
  · rw [if_neg h, if_neg h]; rfl
/-- the program names the first of them -/
theorem law_first (l : T) : firstO (lawO l) = wRows (splT l) := by
  rw [wRows_first]
  show _ = firstO (rowO (splT l))
  unfold splT splB lawO
  have ra : ∀ a b : List R3, rowO (a ++ b) = rowO a ++ rowO b := fun a b => List.map_append
  rw [ra, ra, ra, List.append_assoc]
  show firstO (_ ++ (_ ++ (_ ++ (_ ++ _)))) = _
  refine firstO_congr ?_ ?_
  · show _ = firstO (rowO (if (bef 47 (bfQ l)).contains 58 = true then [(0, 0, (bfQ l).take (schAt (bfQ l) - 1))] else []))
    by_cases h : (bef 47 (bfQ l)).contains 58 = true
    · rw [if_pos h, if_pos h]
      show firstO [wSch _] = firstO [mv 0 (wSch _)]
      cases wSch ((bfQ l).take (schAt (bfQ l) - 1)) with
      | none => rfl
      | some r => show some r = some (r.1, 0 + r.2); rw [Nat.zero_add]
    · rw [if_neg h, if_neg h]; rfl
  · rw [← List.append_assoc]
    refine firstO_congr ?_ (firstO_congr (if_row (.inr (.inl rfl)) _ _) (if_row (.inr (.inr rfl)) _ _))
    show _ = firstO (rowO (if auth (bfQ l) then splA (auY (bfQ l)) (schAt (bfQ l) + 2) ++ [(4, schAt (bfQ l) + 2 + (auY (bfQ l)).length, (bfQ l).drop (schAt (bfQ l) + 2 + (auY (bfQ l)).length))] else [(4, schAt (bfQ l), (bfQ l).drop (schAt (bfQ l)))]))
    unfold paAt
    by_cases h : auth (bfQ l)
    · rw [if_pos h, if_pos h, if_pos h, ra]
      exact firstO_congr (au_first _ _) (one_row (.inl rfl) _ _)
    · rw [if_neg h, if_neg h, if_neg h]
      exact one_row (.inl rfl) _ _
end Da
set_option Elab.async false
set_option linter.all false
set_option maxRecDepth 100000
set_option maxHeartbeats 4000000
namespace Da
open PySem PySem.Spec PyProof.Rows L2 Hd Xs Fx Mi ClX Xr
open TL (tl)
/-! ### the law's places rise -/
def Bd (lo hi : Nat) (os : List KP) : Prop := ∀ o ∈ os, ∀ k a, o = some (k, a) → lo ≤ a ∧ a < hi
theorem Bd.mono {lo hi lo' hi' : Nat} {os : List KP} (h : Bd lo hi os) (h1 : lo' ≤ lo) (h2 : hi ≤ hi') : Bd lo' hi' os := fun o ho k a e => by
  have := h o ho k a e
  omega
theorem Bd.app {lo hi : Nat} {os os' : List KP} (h : Bd lo hi os) (h' : Bd lo hi os') : Bd lo hi (os ++ os') := fun o ho => (List.mem_append.mp ho).elim (h o) (h' o)
theorem Bd.one {lo hi : Nat} {o : KP} (h : ∀ k a, o = some (k, a) → lo ≤ a ∧ a < hi) : Bd lo hi [o] := fun x hx k a e => h k a (by rw [← List.mem_singleton.mp hx]; exact e)
theorem Bd.nil {lo hi : Nat} : Bd lo hi [] := fun _ h => nomatch h
theorem Inc.one {o : KP} : Inc [o] := List.pairwise_singleton _ _
theorem Inc.app {m lo hi : Nat} {os os' : List KP} (h : Inc os) (h' : Inc os') (b : Bd lo m os) (b' : Bd m hi os') : Inc (os ++ os') :=
  List.pairwise_append.mpr ⟨h, h', fun o ho o' ho' k a k' a' e e' => by
    have := b o ho k a e
    have := b' o' ho' k' a' e'
    omega⟩
theorem mv_some {n : Nat} {o : KP} {k : Str} {a : Nat} (h : mv n o = some (k, a)) : ∃ j, o = some (k, j) ∧ a = n + j := by
  cases o with
  | none => cases h
  | some r =>
    obtain ⟨k', j⟩ := r
    cases h
    exact ⟨j, rfl, rfl⟩
theorem brR_stop {m : T} {k : Str} {j : Nat} (hm : m.take 1 = [91]) (h : (brR m).1 = some (k, j)) : j ≤ (brR m).2 := by
  have h0 : m[0]? = some 91 := take1.mp (by rw [List.drop_zero]; exact hm)
  have hl : 0 < m.length := (List.getElem?_eq_some_iff.mp h0).1
  have hf := fo_le (m.drop 1) BRKT
  rw [List.length_drop] at hf
  by_cases c1 : fo (m.drop 1) BRKT = 0 ∨ (m.drop (1 + fo (m.drop 1) BRKT)).take 1 ≠ [93]
  · unfold brR at h ⊢
    rw [if_pos c1] at h ⊢
    cases h
    rw [ixf_all]
    cases hc : m.contains 93 with
    | false => rw [if_neg (by decide)]; show 1 + fo (m.drop 1) BRKT ≤ m.length; omega
    | true =>
      rw [if_pos rfl]
      show 1 + fo (m.drop 1) BRKT ≤ (bef 93 m).length + 1
      have eg : (bef 93 m ++ 93 :: aft 93 m)[(bef 93 m).length]? = some 93 := by simp
      rw [← bef_aft hc] at eg
      generalize (bef 93 m).length = b at *
      have hb1 : 0 < b := by
        cases b with
        | zero => rw [h0] at eg; cases eg
        | succ b => exact Nat.succ_pos _
      refine Nat.le_of_not_lt fun hle => ?_
      obtain ⟨c, hc1, hc2⟩ := fo_mem (S := BRKT) (l := m.drop 1) (i := b - 1) (by omega)
      rw [List.getElem?_drop, show 1 + (b - 1) = b by omega, eg] at hc1
      cases hc1
      rw [brkt93] at hc2
      cases hc2
  · unfold brR at h ⊢
    rw [if_neg c1] at h ⊢
    split at h
    · rename_i c2
      rw [if_pos c2]
      cases h
      exact Nat.le_refl _
    · cases h
theorem hoR_at {z : T} {k : Nat} {kk : Str} {a : Nat} (h : (hoR z k).1 = some (kk, a)) : k ≤ a ∧ a ≤ k + (hoR z k).2 := by
  unfold hoR at h ⊢
  by_cases c : z.take 1 = [91]
  · rw [if_pos c] at h ⊢
    obtain ⟨j, e, rfl⟩ := mv_some h
    have := brR_stop c e
    dsimp only
    omega
  · rw [if_neg c] at h ⊢
    have := scan_lt _ _ _ _ _ _ (Nat.le_refl _) h
    dsimp only
    omega
theorem au_inc (y : T) (b : Nat) : Inc (auO y b) ∧ Bd b (b + y.length + 1) (auO y b) := by
  have hle := hostAt_le y
  have hst := hoR_le (y.drop (hostAt y)) (b + hostAt y)
  have hzl : (y.drop (hostAt y)).length = y.length - hostAt y := List.length_drop
  have hh := fun kk a => hoR_at (z := y.drop (hostAt y)) (k := b + hostAt y) (kk := kk) (a := a)
  unfold auO
  generalize hR : hoR (y.drop (hostAt y)) (b + hostAt y) = R at *
  obtain ⟨o2, sp⟩ := R
  dsimp only at hst hh ⊢
  have b1 : Bd b (b + hostAt y) [if 0 < hostAt y then Mi.scan (SI 1) b (y.take (hostAt y - 1)) else none] := .one fun k a e => by
    by_cases h0 : 0 < hostAt y
    · rw [if_pos h0] at e
      have := scan_lt _ _ _ _ _ _ (Nat.le_refl _) e
      rw [List.length_take] at this
      omega
    · rw [if_neg h0] at e; cases e
  have b2 : Bd (b + hostAt y) (b + hostAt y + sp + 1) [o2] := .one fun k a e => by
    have := hh k a e
    omega
  have b3 : Bd (b + hostAt y + sp + 1) (b + y.length + 1) [if sp < (y.drop (hostAt y)).length then mv (b + hostAt y + sp + 1) (wPort ((y.drop (hostAt y)).drop (sp + 1))) else none] := .one fun k a e => by
    by_cases h0 : sp < (y.drop (hostAt y)).length
    · rw [if_pos h0] at e
      obtain ⟨j, e2, rfl⟩ := mv_some e
      have := wPort_lt e2
      rw [List.length_drop] at this
      omega
    · rw [if_neg h0] at e; cases e
  have i23 := Inc.app Inc.one Inc.one b2 b3
  have b23 := (b2.mono (Nat.le_refl _) (show b + hostAt y + sp + 1 ≤ b + y.length + 1 by omega)).app (b3.mono (show b + hostAt y ≤ b + hostAt y + sp + 1 by omega) (Nat.le_refl _))
  exact ⟨Inc.app Inc.one i23 b1 b23, (b1.mono (Nat.le_refl _) (by omega)).app (b23.mono (by omega) (Nat.le_refl _))⟩
theorem slash4 : (SI 4).contains 47 = true := by decide +kernel
theorem bef_le (c : Nat) (l : T) : (bef c l).length ≤ l.length := (List.takeWhile_sublist _).length_le
theorem aft_len {c : Nat} {l : T} (h : l.contains c = true) : l.length = (bef c l).length + 1 + (aft c l).length := by
  have := congrArg List.length (bef_aft h)
  rw [List.length_append, List.length_cons] at this
  omega
theorem schAt_le (q : T) : schAt q ≤ q.length := by
  unfold schAt
  split
  · rw [ixf_all]
    cases hc : q.contains 58 with
    | false => exact Nat.zero_le _
    | true =>
      have := aft_len hc
      rw [if_pos rfl]
      dsimp only
      omega
  · exact Nat.zero_le _
theorem schAt_pos {q : T} (h : (bef 47 q).contains 58 = true) : 0 < schAt q := by
  unfold schAt
  rw [if_pos h, ixf_all, if_pos (bef_mem h)]
  exact Nat.succ_pos _
/-- a path that stands behind an authority: its first sign is right -/
theorem path_lo {q : T} (h : auth q) {k : Str} {a : Nat} (e : Mi.scan (SI 4) (paAt q) (q.drop (paAt q)) = some (k, a)) : paAt q + 1 ≤ a := by
  have ep : paAt q = schAt q + 2 + (auY q).length := by unfold paAt; rw [if_pos h]
  have ed : q.drop (paAt q) = (q.drop (schAt q + 2)).drop (auY q).length := by rw [ep, List.drop_drop]
  have : q.drop (paAt q) = [] ∨ ∃ r, q.drop (paAt q) = 47 :: r := by
    rw [ed]
    unfold auY
    cases hc : (q.drop (schAt q + 2)).contains 47 with
    | false => rw [bef_none hc, List.drop_length]; exact .inl rfl
    | true =>
      have e2 : (bef 47 (q.drop (schAt q + 2)) ++ 47 :: aft 47 (q.drop (schAt q + 2))).drop (bef 47 (q.drop (schAt q + 2))).length = 47 :: aft 47 (q.drop (schAt q + 2)) := List.drop_left
      rw [← bef_aft hc] at e2
      exact .inr ⟨_, e2⟩
  rcases this with z | ⟨r, z⟩
  · rw [z] at e; cases e
  · rw [z, scan_in (by decide) slash4] at e
    exact (scan_lt _ _ _ _ _ _ (Nat.le_refl _) e).1
theorem auY_le {q : T} (h : auth q) : schAt q + 2 + (auY q).length ≤ q.length := by
  have h2 := congrArg List.length h
  rw [List.length_take, List.length_drop] at h2
  have h3 : min 2 (q.length - schAt q) = 2 := h2
  have h1 := bef_le 47 (q.drop (schAt q + 2))
  rw [List.length_drop] at h1
  unfold auY
  omega
theorem law_inc (l : T) : Inc (lawO l) := by
  have hs := schAt_le (bfQ l)
  have hp1 : (bef 35 l).length ≤ l.length := bef_le _ _
  have hq1 : (bfQ l).length ≤ (bef 35 l).length := bef_le _ _
  have b6 : Bd ((bef 35 l).length + 1) (l.length + 1) [if l.contains 35 = true then Mi.scan (SI 6) ((bef 35 l).length + 1) (aft 35 l) else none] := .one fun k a e => by
    by_cases h : l.contains 35 = true
    · rw [if_pos h] at e
      have := scan_lt _ _ _ _ _ _ (Nat.le_refl _) e
      have := aft_len h
      omega
    · rw [if_neg h] at e; cases e
  have b5 : Bd ((bfQ l).length + 1) ((bef 35 l).length + 1) [if (bef 35 l).contains 63 = true then Mi.scan (SI 5) ((bfQ l).length + 1) (aft 63 (bef 35 l)) else none] := .one fun k a e => by
    by_cases h : (bef 35 l).contains 63 = true
    · rw [if_pos h] at e
      have := scan_lt _ _ _ _ _ _ (Nat.le_refl _) e
      have := aft_len h
      unfold bfQ at *
      omega
    · rw [if_neg h] at e; cases e
  have i56 := Inc.app Inc.one Inc.one b5 b6
  have b56 := (b5.mono (Nat.le_refl _) (show (bef 35 l).length + 1 ≤ l.length + 1 by omega)).app (b6.mono (show (bfQ l).length + 1 ≤ (bef 35 l).length + 1 by omega) (Nat.le_refl _))
  have b0 : Bd 0 (schAt (bfQ l)) [if (bef 47 (bfQ l)).contains 58 = true then wSch ((bfQ l).take (schAt (bfQ l) - 1)) else none] := .one fun k a e => by
    by_cases h : (bef 47 (bfQ l)).contains 58 = true
    · rw [if_pos h] at e
      have := wSch_le e
      rw [List.length_take] at this
      have := schAt_pos h
      omega
    · rw [if_neg h] at e; cases e
  generalize hq : bfQ l = q at *
  unfold lawO
  rw [hq]
  by_cases h : auth q
  · rw [if_pos h]
    have ep : paAt q = schAt q + 2 + (auY q).length := by unfold paAt; rw [if_pos h]
    obtain ⟨ia, ba⟩ := au_inc (auY q) (schAt q + 2)
    have hy := auY_le h
    have b4 : Bd (paAt q + 1) (q.length + 1) [Mi.scan (SI 4) (paAt q) (q.drop (paAt q))] := .one fun k a e => by
      have h1 := path_lo h e
      have h2 := scan_lt _ _ _ _ _ _ (Nat.le_refl _) e
      rw [List.length_drop] at h2
      omega
    have i4 := Inc.app Inc.one i56 b4 b56
    have bb4 := (b4.mono (Nat.le_refl _) (show q.length + 1 ≤ l.length + 1 by omega)).app (b56.mono (show paAt q + 1 ≤ q.length + 1 by omega) (Nat.le_refl _))
    have ba' : Bd (schAt q) (paAt q + 1) (auO (auY q) (schAt q + 2)) := ba.mono (by omega) (by omega)
    have ia4 := Inc.app ia i4 ba' bb4
    have bba := (ba'.mono (Nat.le_refl _) (show paAt q + 1 ≤ l.length + 1 by omega)).app (bb4.mono (show schAt q ≤ paAt q + 1 by omega) (Nat.le_refl _))
    exact Inc.app Inc.one ia4 b0 bba
  · rw [if_neg h]
    have ep : paAt q = schAt q := by unfold paAt; rw [if_neg h]
    have b4 : Bd (schAt q) (q.length + 1) [Mi.scan (SI 4) (paAt q) (q.drop (paAt q))] := .one fun k a e => by
      have h2 := scan_lt _ _ _ _ _ _ (Nat.le_refl _) e
      rw [List.length_drop] at h2
      omega
    have i4 := Inc.app Inc.one i56 b4 b56
    have bb4 := (b4.mono (Nat.le_refl _) (show q.length + 1 ≤ l.length + 1 by omega)).app (b56.mono (show schAt q ≤ q.length + 1 by omega) (Nat.le_refl _))
    exact Inc.app Inc.one i4 b0 bb4
/-- the least of the law's places, in any order, is the one that the program names -/
theorem least_is {l : T} {x : Str × Nat} (hx : some x ∈ lawO l) (hm : ∀ y, some y ∈ lawO l → x.2 ≤ y.2) : wRows (splT l) = some x := by
  have hx' : x ∈ (lawO l).filterMap id := List.mem_filterMap.mpr ⟨some x, hx, rfl⟩
  obtain ⟨f, hf, h1, h2⟩ := first_min (law_inc l) x hx'
  have hfm : f ∈ (lawO l).filterMap id := by
    unfold firstO at hf
    exact List.mem_of_mem_head? hf
  obtain ⟨o, ho, e⟩ := List.mem_filterMap.mp hfm
  have e' : o = some f := e
  rw [h2 (hm f (by rw [← e']; exact ho)), ← law_first]
  exact hf
theorem none_is {l : T} (h : ∀ x, some x ∉ lawO l) : wRows (splT l) = none := by
  rw [← law_first, first_none]
  cases e : (lawO l).filterMap id with
  | nil => rfl
  | cons x xs =>
    have hx : x ∈ (lawO l).filterMap id := by rw [e]; exact List.mem_cons_self ..
    obtain ⟨o, ho, e2⟩ := List.mem_filterMap.mp hx
    have e3 : o = some x := e2
    exact absurd (by rw [← e3]; exact ho) (h x)
end Da
set_option Elab.async false
set_option linter.all false
set_option maxRecDepth 100000
set_option maxHeartbeats 4000000
namespace Da
open PySem PySem.Spec PyProof.Rows L2 Hd Xs Fx Mi ClX Xr
open TL (tl)
/-! ### the parts: what the law reads is what the program keeps -/
def lawV (l : T) : List V := [if (bef 47 (bfQ l)).contains 58 = true then vStr ((bfQ l).take (schAt (bfQ l) - 1)) else .non] ++ ((if auth (bfQ l) then auV (auY (bfQ l)) (schAt (bfQ l) + 2) else [.non, .non, .non]) ++ [vStr ((bfQ l).drop (paAt (bfQ l))),
  if (bef 35 l).contains 63 = true then vStr (aft 63 (bef 35 l)) else .non, if l.contains 35 = true then vStr (aft 35 l) else .non])
theorem vs_law {l : T} (hn : ∀ x, some x ∉ lawO l) : vsOf (splT l) = lawV l := by
  have hau : auth (bfQ l) → (hoR ((auY (bfQ l)).drop (hostAt (auY (bfQ l)))) (schAt (bfQ l) + 2 + hostAt (auY (bfQ l)))).2 = eoh ((auY (bfQ l)).drop (hostAt (auY (bfQ l)))) 0 := fun h => by
    refine (host_both _ _).2 ?_
    cases e : (hoR ((auY (bfQ l)).drop (hostAt (auY (bfQ l)))) (schAt (bfQ l) + 2 + hostAt (auY (bfQ l)))).1 with
    | none => rfl
    | some x =>
      refine absurd ?_ (hn x)
      unfold lawO
      rw [if_pos h]
      refine List.mem_append_right _ (List.mem_append_left _ ?_)
      unfold auO
      rw [e]
      exact List.mem_cons_of_mem _ (List.mem_cons_self ..)
  unfold lawV splT splB
  change vsOf ((_ ++ (if auth (bfQ l) then splA (auY (bfQ l)) (schAt (bfQ l) + 2) ++ [(4, schAt (bfQ l) + 2 + (auY (bfQ l)).length, (bfQ l).drop (schAt (bfQ l) + 2 + (auY (bfQ l)).length))] else [(4, schAt (bfQ l), (bfQ l).drop (schAt (bfQ l)))])) ++ _) = _
  change vsOf (((if (bef 47 (bfQ l)).contains 58 = true then [(0, 0, (bfQ l).take (schAt (bfQ l) - 1))] else []) ++ _) ++ ((if (bef 35 l).contains 63 = true then [(5, (bfQ l).length + 1, aft 63 (bef 35 l))] else []) ++ _)) = _
  unfold paAt
  generalize (bef 35 l).contains 63 = c5
  generalize l.contains 35 = c6
  generalize (bef 35 l).length + 1 = k6
  generalize (bfQ l).length + 1 = k5
  generalize aft 63 (bef 35 l) = y5
  generalize aft 35 l = y6
  generalize (bfQ l).take (schAt (bfQ l) - 1) = y0
  generalize (bef 47 (bfQ l)).contains 58 = c0
  by_cases h : auth (bfQ l)
  · have hau := hau h
    rw [if_pos h, if_pos h, if_pos h]
    generalize auY (bfQ l) = y at *
    generalize (bfQ l).drop (schAt (bfQ l) + 2 + y.length) = pa
    generalize schAt (bfQ l) + 2 + y.length = k4
    generalize schAt (bfQ l) + 2 = k2 at *
    unfold auV splA
    rw [hau]
    have es := eoh_shift (hostAt_le y)
    have hzl : (y.drop (hostAt y)).length = y.length - hostAt y := List.length_drop
    have hle := hostAt_le y
    have e3 : eoh y (hostAt y) - hostAt y = eoh (y.drop (hostAt y)) 0 := by rw [es, Nat.add_sub_cancel_left]
    have e4 : (y.drop (hostAt y)).drop (eoh (y.drop (hostAt y)) 0 + 1) = y.drop (eoh y (hostAt y) + 1) := by rw [es, List.drop_drop]; congr 1
    rw [e3, e4]
    by_cases cu : 0 < hostAt y
    · by_cases cp : eoh y (hostAt y) < y.length
      · rw [if_pos cu, if_pos cp, if_pos cu, if_pos (show eoh (y.drop (hostAt y)) 0 < (y.drop (hostAt y)).length by omega)]
        cases c0 <;> cases c5 <;> cases c6 <;> rfl
      · rw [if_pos cu, if_neg cp, if_pos cu, if_neg (show ¬ eoh (y.drop (hostAt y)) 0 < (y.drop (hostAt y)).length by omega)]
        cases c0 <;> cases c5 <;> cases c6 <;> rfl
    · by_cases cp : eoh y (hostAt y) < y.length
      · rw [if_neg cu, if_pos cp, if_neg cu, if_pos (show eoh (y.drop (hostAt y)) 0 < (y.drop (hostAt y)).length by omega)]
        cases c0 <;> cases c5 <;> cases c6 <;> rfl
      · rw [if_neg cu, if_neg cp, if_neg cu, if_neg (show ¬ eoh (y.drop (hostAt y)) 0 < (y.drop (hostAt y)).length by omega)]
        cases c0 <;> cases c5 <;> cases c6 <;> rfl
  · rw [if_neg h, if_neg h, if_neg h]
    cases c0 <;> cases c5 <;> cases c6 <;> rfl
end Da
set_option Elab.async false
set_option linter.all false
set_option maxRecDepth 100000
set_option maxHeartbeats 4000000
namespace Da
open PySem PySem.Spec PyProof.Rows L2 Hd Xs Fx Mi ClX Xr
open TL (tl)
theorem colon_iff (q : T) : (bef 47 q).contains 58 = (q.contains 58 && !(bef 58 q).contains 47) := by
  induction q with
  | nil => rfl
  | cons c r ih =>
    by_cases h58 : c = 58
    · subst h58
      rw [bef_miss (by decide), bef_hit]
      simp
    · by_cases h47 : c = 47
      · subst h47
        rw [bef_hit, bef_miss (by decide)]
        simp
      · rw [bef_miss h47, bef_miss h58]
        have e1 : (c :: bef 47 r).contains 58 = (bef 47 r).contains 58 := by simp [Ne.symm h58]
        have e2 : (c :: r).contains 58 = r.contains 58 := by simp [Ne.symm h58]
        have e3 : (c :: bef 58 r).contains 47 = (bef 58 r).contains 47 := by simp [Ne.symm h47]
        rw [e1, e2, e3, ih]
theorem sch_eq (q : T) : schAt q = if (bef 47 q).contains 58 = true then (bef 58 q).length + 1 else 0 := by
  unfold schAt
  by_cases h : (bef 47 q).contains 58 = true
  · rw [if_pos h, if_pos h, ixf_all, if_pos (bef_mem h)]
  · rw [if_neg h, if_neg h]
theorem bef_take (c : Nat) (l : T) : l.take (bef c l).length = bef c l := by
  cases h : l.contains c with
  | false => rw [bef_none h, List.take_length]
  | true =>
    have e2 : (bef c l ++ c :: aft c l).take (bef c l).length = bef c l := List.take_left
    rw [← bef_aft h] at e2
    exact e2
theorem aft_drop {c : Nat} {l : T} (h : l.contains c = true) : l.drop ((bef c l).length + 1) = aft c l := by
  have e2 : (bef c l ++ c :: aft c l).drop ((bef c l).length + 1) = aft c l := by
    rw [show bef c l ++ c :: aft c l = (bef c l ++ [c]) ++ aft c l by simp]
    exact List.drop_left' (by simp)
  rw [← bef_aft h] at e2
  exact e2
theorem bef_in {c d : Nat} {l : T} (h : (bef d l).contains c = true) : bef c l = bef c (bef d l) := by
  cases hd : l.contains d with
  | false => rw [bef_none hd]
  | true =>
    have e := bef_aft hd
    have : bef c (bef d l ++ d :: aft d l) = bef c (bef d l) := by
      have e2 := bef_aft h
      generalize bef d l = x at *
      generalize d :: aft d l = y
      rw [e2, List.append_assoc, List.cons_append, bef_app _ (bef_free c x), bef_app _ (bef_free c x), bef_hit, bef_hit]
    rw [← e] at this
    exact this
theorem WL.same {H : Hp} {v : V} {os os' : List KP} (h : WL H v os) (e : os.filterMap id = os'.filterMap id) : WL H v os' := by
  obtain ⟨r, ps, rfl, hr, hp⟩ := h
  exact ⟨r, ps, rfl, hr, by rw [← e]; exact hp⟩
theorem fm_none (a : List KP) : a.filterMap id = (a ++ [none]).filterMap id := by
  rw [List.filterMap_append]
  exact (List.append_nil _).symm
/-- what the law reads of a text -/
def spRead : Sp := fun vs H Q _ => match vs with
  | [.str t] => t.length ≤ (100000 : Nat) ∧ Sg t ∧ (match wRows (splT (tl t)) with
    | some (k, i) => ∀ p H', Ext H H' → H' p = some (.tup [.str "wrong", .str k, .int (i : Nat)]) → Q (.ref p) H'
    | none => ∀ p q H', Ext H H' → H' p = some (.tup [.str "parts", .ref q]) → H' q = some (.lst (vsOf (splT (tl t)))) → Q (.ref p) H')
  | _ => False
def o6 (l : T) : KP := if l.contains 35 = true then Mi.scan (SI 6) ((bef 35 l).length + 1) (aft 35 l) else none
def o5 (l : T) : KP := if (bef 35 l).contains 63 = true then Mi.scan (SI 5) ((bfQ l).length + 1) (aft 63 (bef 35 l)) else none
def o0 (l : T) : KP := if (bef 47 (bfQ l)).contains 58 = true then wSch ((bfQ l).take (schAt (bfQ l) - 1)) else none
def oA (l : T) : List KP := if auth (bfQ l) then auO (auY (bfQ l)) (schAt (bfQ l) + 2) else []
def o4 (l : T) : KP := Mi.scan (SI 4) (paAt (bfQ l)) ((bfQ l).drop (paAt (bfQ l)))
theorem mem_law {l : T} {x : KP} : x ∈ ([o6 l] ++ [o5 l] ++ [o0 l] ++ oA l ++ [o4 l]) ↔ x ∈ lawO l := by
  show _ ↔ x ∈ [o0 l] ++ (oA l ++ ([o4 l] ++ ([o5 l] ++ [o6 l])))
  simp only [List.mem_append, List.mem_singleton]
  constructor
  · rintro ((((h | h) | h) | h) | h) <;> simp [h]
  · rintro (h | h | h | h | h) <;> simp [h]
theorem oA_len (l : T) : (oA l).length ≤ 3 := by
  unfold oA
  split
  · exact Nat.le_refl _
  · exact Nat.zero_le _
theorem kOk_law {l : T} {x : KP} (h : x ∈ lawO l) : kOk x := by
  have sc : ∀ (S : T) (y : T) (i : Nat), kOk (Mi.scan S i y) := fun S y i => kOk_scan S _ y i (Nat.le_refl _)
  have h := mem_law.mpr h
  simp only [List.mem_append, List.mem_singleton] at h
  rcases h with (((h | h) | h) | h) | h
  · rw [h]; unfold o6; split
    · exact sc _ _ _
    · exact .none
  · rw [h]; unfold o5; split
    · exact sc _ _ _
    · exact .none
  · rw [h]; unfold o0; split
    · exact kOk_sch _
    · exact .none
  · unfold oA at h
    split at h
    · unfold auO at h
      simp only [List.mem_cons, List.not_mem_nil, or_false] at h
      rcases h with h | h | h
      · rw [h]; split
        · exact sc _ _ _
        · exact .none
      · rw [h]; unfold hoR; split
        · exact (kOk_br _).mv
        · exact sc _ _ _
      · rw [h]; split
        · exact (kOk_port _).mv
        · exact .none
    · exact nomatch h
  · rw [h]; exact sc _ _ _
/-- pairs as data -/
def kD (k : Str × Nat) : PyData := .tuple [.int (k.2 : Nat), .str k.1]
theorem kD_all {K : PySem.W.Frag} {H : Hp} : ∀ {ps : List Addr} {ks : List (Str × Nat)}, Paired (fun (p : Addr) (k : Str × Nat) => H p = some (.tup [.int (k.2 : Nat), .str k.1])) ps ks → DpAll K H (ps.map V.ref) (ks.map kD)
  | _, _, .nil => .nil
  | _, _, .cons h t => .cons (.tup (.inl (Rd.of h)) (.cons (.int _) (.cons (.str _) .nil))) (kD_all t)
theorem kD_sh : ∀ {ks : List (Str × Nat)}, (∀ k ∈ ks, Sg k.1) → PyData.canLayAll0 (ks.map kD) = true ∧ PyData.depthAll (ks.map kD) ≤ 3
  | [], _ => ⟨rfl, by simp [PyData.depthAll]⟩
  | k :: ks, h => by
    obtain ⟨h1, h2⟩ := kD_sh (ks := ks) fun x hx => h x (List.mem_cons_of_mem _ hx)
    have hk := (h k (List.mem_cons_self ..)).ok
    refine ⟨?_, ?_⟩
    · rw [List.map_cons]
      show (PyData.canLay0 (kD k) && PyData.canLayAll0 (ks.map kD)) = true
      rw [h1, Bool.and_true]
      simp only [kD, PyData.canLay0, PyData.canLayAll0, hk, Bool.and_true, Bool.true_and]
    · simp only [List.map_cons, PyData.depthAll]
      have : PyData.depth (kD k) ≤ 3 := by simp only [kD, PyData.depth, PyData.depthAll]; omega
      omega
theorem ne_nil {K : PySem.W.Frag} {H : Hp} {p q : Addr} {ps : List Addr} {ks : List (Str × Nat)} {Q : VK} (hp : H p = some (.lst (ps.map V.ref))) (hq : H q = some (.lst [])) (pp : Paired (fun (p : Addr) (k : Str × Nat) => H p = some (.tup [.int (k.2 : Nat), .str k.1])) ps ks) (hs : ∀ k ∈ ks, Sg k.1) (h : Q (.bl (!ks.isEmpty)) H) : cEq K true (.ref p) (.ref q) H Q := by
  refine ⟨.list (ks.map kD), .list [], .lst (.inl (Rd.of hp)) (kD_all pp), .lst (.inl (Rd.of hq)) .nil, ?_, rfl, ?_⟩
  · obtain ⟨h1, h2⟩ := kD_sh hs
    unfold SeqAt.shaped
    rw [Bool.and_eq_true]
    refine ⟨by simp only [PyData.canLay0]; exact h1, decide_eq_true ?_⟩
    simp only [PyData.depth]
    omega
  · have e : PyData.eqv (.list (ks.map kD)) (.list []) = ks.isEmpty := by cases ks <;> rfl
    rw [e]
    exact h
theorem paired_ix {R : Addr → (Str × Nat) → Prop} : ∀ {ps : List Addr} {ks : List (Str × Nat)}, Paired R ps ks → ∀ {j : Nat} {p : Addr} {k : Str × Nat}, ps[j]? = some p → ks[j]? = some k → R p k
  | _, _, .nil, j, p, k, h, _ => by simp at h
  | _, _, .cons h t, 0, p, k, e, e2 => by
    cases Option.some.inj e
    cases Option.some.inj e2
    exact h
  | _, _, .cons h t, j + 1, p, k, e, e2 => paired_ix t (by simpa using e) (by simpa using e2)
def v6 (l : T) : V := if l.contains 35 = true then vStr (aft 35 l) else .non
def v5 (l : T) : V := if (bef 35 l).contains 63 = true then vStr (aft 63 (bef 35 l)) else .non
def v0 (l : T) : V := if (bef 47 (bfQ l)).contains 58 = true then vStr ((bfQ l).take (schAt (bfQ l) - 1)) else .non
section
variable {P : Program} {w : World} {K : PySem.W.Frag} {mg : Str → Option Value} {base : Heap}
theorem ok__law_read (c : Ct w K mg) : OkF P w K mg base CX0 5 (He.ga K "_law_read") ["text"] (spRead) := by
  obtain ⟨fd, F⟩ := F__law_read c
  refine ⟨fd, F.ok sc__law_read (fun vs H Q E h => ?_) (fun cdv A outer s H vs Q E hr h => ⟨_, PSs.nox ((pss_cons (ps_par3 (i := 1) (j := 2) (l := 3) (by rfl) (sc__law_read).nd rfl rfl rfl (by decide) (by decide) (by decide) rfl rfl rfl (pa_cons (pe_op co_add (pf0 (ok__law_plain_signs c) (hr.mono (by decide)) (g__law_plain_signs c) (k__law_plain_signs c) pass0) pe_str) (pa_cons (pe_callB hc_len (by rfl) (b_len c) (by decide +kernel) (pa_cons (cv 0) pa_nil)) (pa_cons (pe_lst pa_nil) pa_nil))) (by rfl)) (pss_cons (ps_asg (pe_tup (pa_cons pe_non (pa_cons pe_non pa_nil))) (pg_tup (n := 2) rfl (pgs_cons (pg_name (i := 4) (sc__law_read).nd rfl (Or.inl rfl)) (pgs_cons (pg_name (i := 5) (sc__law_read).nd rfl (Or.inl rfl)) pgs_nil)))) (pss_cons (ps_if (ctc ho_in pe_str (cv 0) (by rfl)) (pss_cons (ps_set (i := 2) (sc__law_read).nd rfl (Or.inl rfl) (pe_m1 PySem.F.slot_str_find PySem.F.type_str_find cm_find (cv 0) pe_str)) (pss_one (ps_par (i := 4) (j := 3) (by rfl) (sc__law_read).nd rfl rfl (by decide) rfl rfl (pa_cons (pe_slice hs_any (cv 0) (po_some (pe_op co_add (cv 2) pe_int)) po_none) (pa_cons (pf (ok__law_wrong_signs c) (hr.mono (by decide)) (g__law_wrong_signs c) (k__law_wrong_signs c) pass0 (pa_cons (cv 0) (pa_cons (pe_op co_add (cv 2) pe_int) (pa_cons (pe_callB hc_len (by rfl) (b_len c) (by decide +kernel) (pa_cons (cv 0) pa_nil)) (pa_cons (pe_op co_add (cv 1) pe_str) pa_nil))))) pa_nil)) (by rfl)))) pss_nil) (pss_cons (ps_if (ctc ho_in pe_str (pe_slice hs_any (cv 0) po_none (po_some (cv 2))) (by rfl)) (pss_cons (ps_set (i := 6) (sc__law_read).nd rfl (Or.inl rfl) (pe_m1 PySem.F.slot_str_find PySem.F.type_str_find cm_find (cv 0) pe_str)) (pss_cons (ps_par (i := 5) (j := 3) (by rfl) (sc__law_read).nd rfl rfl (by decide) rfl rfl (pa_cons (pe_slice hs_any (cv 0) (po_some (pe_op co_add (cv 6) pe_int)) (po_some (cv 2))) (pa_cons (pe_op co_add (cv 3) (pf (ok__law_wrong_signs c) (hr.mono (by decide)) (g__law_wrong_signs c) (k__law_wrong_signs c) pass0 (pa_cons (cv 0) (pa_cons (pe_op co_add (cv 6) pe_int) (pa_cons (cv 2) (pa_cons (pe_op co_add (cv 1) pe_str) pa_nil)))))) pa_nil)) (by rfl)) (pss_one (ps_set (i := 2) (sc__law_read).nd rfl (Or.inl rfl) (cv 6))))) pss_nil) (pss_cons (ps_par3 (i := 7) (j := 8) (l := 9) (by rfl) (sc__law_read).nd rfl rfl rfl (by decide) (by decide) (by decide) rfl rfl rfl (pa_cons pe_non (pa_cons pe_int (pa_cons (pe_bm PySem.F.plainAttrs_str PySem.F.slot_str_find PySem.F.type_str_find cm_find3 (cv 0) (pa_cons pe_str (pa_cons pe_int (pa_cons (cv 2) pa_nil)))) pa_nil))) (by rfl)) (pss_cons (ps_if (PW.pt (pw_and (ctc co_ge (cv 9) pe_int (by rfl)) (pw_and1 (ctc ho_notIn pe_str (pe_slice hs_any (cv 0) po_none (po_some (cv 9))) (by rfl))))) (pss_cons (ps_par (i := 7) (j := 3) (by rfl) (sc__law_read).nd rfl rfl (by decide) rfl rfl (pa_cons (pe_slice hs_any (cv 0) po_none (po_some (cv 9))) (pa_cons (pe_op co_add (cv 3) (pf (ok__law_wrong_scheme c) (hr.mono (by decide)) (g__law_wrong_scheme c) (k__law_wrong_scheme c) pass0 (pa_cons (cv 0) (pa_cons (cv 9) pa_nil)))) pa_nil)) (by rfl)) (pss_one (ps_set (i := 8) (sc__law_read).nd rfl (Or.inl rfl) (pe_op co_add (cv 9) pe_int)))) pss_nil) (pss_cons (ps_asg (pe_tup (pa_cons pe_non (pa_cons pe_non (pa_cons pe_non pa_nil)))) (pg_tup (n := 3) rfl (pgs_cons (pg_name (i := 10) (sc__law_read).nd rfl (Or.inl rfl)) (pgs_cons (pg_name (i := 11) (sc__law_read).nd rfl (Or.inl rfl)) (pgs_cons (pg_name (i := 12) (sc__law_read).nd rfl (Or.inl rfl)) pgs_nil))))) (pss_cons (ps_if (ctc (ho_eq (hu64 hr)) (pe_slice hs_any (cv 0) (po_some (cv 8)) (po_some (pe_callB (cc_min2 rfl) (by rfl) (b_min c) (by decide +kernel) (pa_cons (cv 2) (pa_cons (pe_op co_add (cv 8) pe_int) pa_nil))))) pe_str (by rfl)) (pss_cons (ps_set (i := 13) (sc__law_read).nd rfl (Or.inl rfl) (pe_bm PySem.F.plainAttrs_str PySem.F.slot_str_find PySem.F.type_str_find cm_find3 (cv 0) (pa_cons pe_str (pa_cons (pe_op co_add (cv 8) pe_int) (pa_cons (cv 2) pa_nil))))) (pss_cons (ps_set (i := 13) (sc__law_read).nd rfl (Or.inl rfl) (pe_ifExp (ctc co_lt (cv 13) pe_int (by rfl)) (cv 2) (cv 13))) (pss_cons (ps_asg (pf (ok__law_read_authority c) (hr.mono (by decide)) (g__law_read_authority c) (k__law_read_authority c) pass0 (pa_cons (cv 0) (pa_cons (pe_op co_add (cv 8) pe_int) (pa_cons (cv 13) pa_nil)))) (pg_tup (n := 4) rfl (pgs_cons (pg_name (i := 10) (sc__law_read).nd rfl (Or.inl rfl)) (pgs_cons (pg_name (i := 11) (sc__law_read).nd rfl (Or.inl rfl)) (pgs_cons (pg_name (i := 12) (sc__law_read).nd rfl (Or.inl rfl)) (pgs_cons (pg_name (i := 14) (sc__law_read).nd rfl (Or.inl rfl)) pgs_nil)))))) (pss_one (ps_par (i := 8) (j := 3) (by rfl) (sc__law_read).nd rfl rfl (by decide) rfl rfl (pa_cons (cv 13) (pa_cons (pe_op co_add (cv 3) (cv 14)) pa_nil)) (by rfl)))))) pss_nil) (pss_cons (ps_set (i := 3) (sc__law_read).nd rfl (Or.inl rfl) (pe_op co_add (cv 3) (pf (ok__law_wrong_signs c) (hr.mono (by decide)) (g__law_wrong_signs c) (k__law_wrong_signs c) pass0 (pa_cons (cv 0) (pa_cons (cv 8) (pa_cons (cv 2) (pa_cons (cv 1) pa_nil))))))) (pss_cons (ps_if (ctc (ho_ne (hu64 hr)) (cv 3) (pe_lst pa_nil) (by rfl)) (pss_cons (ps_asg (pe_callB (cr_minT rfl (hu64 hr)) (by rfl) (b_min c) (by decide +kernel) (pa_cons (cv 3) pa_nil)) (pg_tup (n := 2) rfl (pgs_cons (pg_name (i := 15) (sc__law_read).nd rfl (Or.inl rfl)) (pgs_cons (pg_name (i := 16) (sc__law_read).nd rfl (Or.inl rfl)) pgs_nil)))) (pss_one (ps_ret (pe_tup (pa_cons pe_str (pa_cons (cv 16) (pa_cons (cv 15) pa_nil))))))) pss_nil) (pss_one (ps_ret (pe_tup (pa_cons pe_str (pa_cons (pe_lst (pa_cons (cv 7) (pa_cons (cv 10) (pa_cons (cv 11) (pa_cons (cv 12) (pa_cons (pe_slice hs_any (cv 0) (po_some (cv 8)) (po_some (cv 2))) (pa_cons (cv 5) (pa_cons (cv 4) pa_nil)))))))) pa_nil)))))))))))))))), ?_⟩), F.bindsN fun _ _ _ _ _ _ us hl => match us, hl with | [_], _ => rfl⟩
  · unfold spRead at h
    split at h
    · rfl
    · exact h.elim
  · unfold spRead at h
    split at h
    case h_2 => exact h.elim
    rename_i t
    obtain ⟨ht, hs, q⟩ := h
    have sl := sl
    have hl := TL.len_tl t
    have eQ : Str.ofString "?" = ⟨#[63]⟩ := TL.ext_tl (by decide +kernel)
    have eH : Str.ofString "#" = ⟨#[35]⟩ := TL.ext_tl (by decide +kernel)
    have eC : Str.ofString ":" = ⟨#[58]⟩ := TL.ext_tl (by decide +kernel)
    have eS : Str.ofString "/" = ⟨#[47]⟩ := TL.ext_tl (by decide +kernel)
    have eSG : tl (PLs ++ Str.ofString "!$&'()*+,;=:@/") = SI 4 := by rw [TL.tl_append]; rfl
    have eS5 : tl (PLs ++ Str.ofString "!$&'()*+,;=:@/" ++ Str.ofString "?") = SI 5 := by rw [TL.tl_append, TL.tl_append]; rfl
    have eS6 : tl (PLs ++ Str.ofString "!$&'()*+,;=:@/" ++ Str.ofString "?") = SI 6 := by rw [TL.tl_append, TL.tl_append]; rfl
    generalize hSG : PLs ++ Str.ofString "!$&'()*+,;=:@/" = SG at *
    have lSG : SG.length ≤ 1000 := by rw [← hSG]; decide
    have hp1 := bef_le 35 (tl t)
    have hq1 : (bfQ (tl t)).length ≤ (bef 35 (tl t)).length := bef_le _ _
    -- where nothing has been read
    refine seqCps (fun σ H' => ∃ w, σ = [some (.str t), some (.str SG), some (.int (t.length : Nat)), some (.ref w), none, none, none, none, none, none, none, none, none, none, none, none, none] ∧ Ext H H' ∧ H' w = some (.lst [])) (fun Nx hN => ?_) ?_
    · unfold tPar3
      (try simp only [tNext, tFor_eq, cBl, tOp, tC, cI, cIc, cAdd, cVar, hEq, hNe, hIn, hNotIn, hLen, hSl, tM1, tBM, cT1, cT1f, cFind3, cSplit, cPart, rNewStrs, hIsS, hTru, tAsg, gName, gSub, tRet, tRetN, tCons, tNil, tTup, tLst, tCB, tNot, tAnd, tNotV, tAndV, tOrV, tOr, V.bl.injEq, V.int.injEq, V.str.injEq, exists_eq_left', exists_eq_left, exists_eq', true_and, and_true, cIsN, L2.start, gTup, gCons, gNil, nox_K, cx_K, tCallF, tSl, tPart, tNoPart, iEnum, RZ.iZipA, iRng1, iRng2, cAbs, List.map_cons, List.map_nil, List.length_cons, List.length_nil, List.replicate, List.cons_append, List.nil_append, List.getElem?_cons_zero, List.getElem?_cons_succ, List.getElem?_nil, List.set_cons_zero, List.set_cons_succ, Nat.reduceAdd, Nat.reduceSub, Nat.zero_add, if_true, if_false, reduceIte, reduceCtorEq, Bool.false_eq_true, decide_eq_true_eq, tDrop, cMin2, cJoin, iList, tDNewK, tLc_eq, iStr, wipe])
      show PLs.length + (Str.ofString "!$&'()*+,;=:@/").length ≤ sizeLine ∧ _
      refine ⟨Nat.le_trans (by decide) sl, by omega, by omega, fun p hp => ⟨_, _, _, rfl, ?_⟩⟩
      exact hN _ _ ⟨p, by rw [← hSG], Ext.rf.fresh hp, upd_self⟩
    rintro σ H1 ⟨w, rfl, he1, hw1⟩
    refine seqStep ?_
    (try simp only [tNext, tFor_eq, cBl, tOp, tC, cI, cIc, cAdd, cVar, hEq, hNe, hIn, hNotIn, hLen, hSl, tM1, tBM, cT1, cT1f, cFind3, cSplit, cPart, rNewStrs, hIsS, hTru, tAsg, gName, gSub, tRet, tRetN, tCons, tNil, tTup, tLst, tCB, tNot, tAnd, tNotV, tAndV, tOrV, tOr, V.bl.injEq, V.int.injEq, V.str.injEq, exists_eq_left', exists_eq_left, exists_eq', true_and, and_true, cIsN, L2.start, gTup, gCons, gNil, nox_K, cx_K, tCallF, tSl, tPart, tNoPart, iEnum, RZ.iZipA, iRng1, iRng2, cAbs, List.map_cons, List.map_nil, List.length_cons, List.length_nil, List.replicate, List.cons_append, List.nil_append, List.getElem?_cons_zero, List.getElem?_cons_succ, List.getElem?_nil, List.set_cons_zero, List.set_cons_succ, Nat.reduceAdd, Nat.reduceSub, Nat.zero_add, if_true, if_false, reduceIte, reduceCtorEq, Bool.false_eq_true, decide_eq_true_eq, tDrop, cMin2, cJoin, iList, tDNewK, tLc_eq, iStr, wipe])
    refine ⟨by omega, fun p0 hp0 => ⟨_, _, rfl, .inl (Rd.of upd_self), rfl, _, _, rfl, _, _, rfl, rfl, ?_⟩⟩
    replace he1 := he1.fresh (o := .tup [.non, .non]) hp0
    replace hw1 := upd_old (o := .tup [.non, .non]) hw1 hp0
    generalize upd H1 p0 (.tup [.non, .non]) = H2 at *
    clear hp0
    -- the fragment
    refine seqCps (fun σ H' => ∃ w, σ = [some (.str t), some (.str SG), some (.int ((bef 35 (tl t)).length : Nat)), some w, some (v6 (tl t)), some .non, none, none, none, none, none, none, none, none, none, none, none] ∧ Ext H H' ∧ WL H' w [o6 (tl t)]) (fun Nx hN => ?_) ?_
    · unfold tIfS
      (try simp only [tNext, tFor_eq, cBl, tOp, tC, cI, cIc, cAdd, cVar, hEq, hNe, hIn, hNotIn, hLen, hSl, tM1, tBM, cT1, cT1f, cFind3, cSplit, cPart, rNewStrs, hIsS, hTru, tAsg, gName, gSub, tRet, tRetN, tCons, tNil, tTup, tLst, tCB, tNot, tAnd, tNotV, tAndV, tOrV, tOr, V.bl.injEq, V.int.injEq, V.str.injEq, exists_eq_left', exists_eq_left, exists_eq', true_and, and_true, cIsN, L2.start, gTup, gCons, gNil, nox_K, cx_K, tCallF, tSl, tPart, tNoPart, iEnum, RZ.iZipA, iRng1, iRng2, cAbs, List.map_cons, List.map_nil, List.length_cons, List.length_nil, List.replicate, List.cons_append, List.nil_append, List.getElem?_cons_zero, List.getElem?_cons_succ, List.getElem?_nil, List.set_cons_zero, List.set_cons_succ, Nat.reduceAdd, Nat.reduceSub, Nat.zero_add, if_true, if_false, reduceIte, reduceCtorEq, Bool.false_eq_true, decide_eq_true_eq, tDrop, cMin2, cJoin, iList, tDNewK, tLc_eq, iStr, wipe])
      rw [eH, isIn_one]
      cases hc : (tl t).contains 35 with
      | false =>
        rw [if_neg (by decide)]
        refine hN _ _ ⟨.ref w, ?_, he1, ?_⟩
        · unfold v6
          rw [hc, if_neg (by decide), bef_none hc, hl]
        · unfold o6
          rw [hc, if_neg (by decide)]
          exact ⟨w, [], rfl, hw1, .nil⟩
      | true =>
        rw [if_pos rfl]
        have hal := aft_len hc
        refine seqStep ?_
        (try simp only [tNext, tFor_eq, cBl, tOp, tC, cI, cIc, cAdd, cVar, hEq, hNe, hIn, hNotIn, hLen, hSl, tM1, tBM, cT1, cT1f, cFind3, cSplit, cPart, rNewStrs, hIsS, hTru, tAsg, gName, gSub, tRet, tRetN, tCons, tNil, tTup, tLst, tCB, tNot, tAnd, tNotV, tAndV, tOrV, tOr, V.bl.injEq, V.int.injEq, V.str.injEq, exists_eq_left', exists_eq_left, exists_eq', true_and, and_true, cIsN, L2.start, gTup, gCons, gNil, nox_K, cx_K, tCallF, tSl, tPart, tNoPart, iEnum, RZ.iZipA, iRng1, iRng2, cAbs, List.map_cons, List.map_nil, List.length_cons, List.length_nil, List.replicate, List.cons_append, List.nil_append, List.getElem?_cons_zero, List.getElem?_cons_succ, List.getElem?_nil, List.set_cons_zero, List.set_cons_succ, Nat.reduceAdd, Nat.reduceSub, Nat.zero_add, if_true, if_false, reduceIte, reduceCtorEq, Bool.false_eq_true, decide_eq_true_eq, tDrop, cMin2, cJoin, iList, tDNewK, tLc_eq, iStr, wipe])
        rw [find_ix, ixf_all, if_pos hc]
        unfold tPar
        (try simp only [tNext, tFor_eq, cBl, tOp, tC, cI, cIc, cAdd, cVar, hEq, hNe, hIn, hNotIn, hLen, hSl, tM1, tBM, cT1, cT1f, cFind3, cSplit, cPart, rNewStrs, hIsS, hTru, tAsg, gName, gSub, tRet, tRetN, tCons, tNil, tTup, tLst, tCB, tNot, tAnd, tNotV, tAndV, tOrV, tOr, V.bl.injEq, V.int.injEq, V.str.injEq, exists_eq_left', exists_eq_left, exists_eq', true_and, and_true, cIsN, L2.start, gTup, gCons, gNil, nox_K, cx_K, tCallF, tSl, tPart, tNoPart, iEnum, RZ.iZipA, iRng1, iRng2, cAbs, List.map_cons, List.map_nil, List.length_cons, List.length_nil, List.replicate, List.cons_append, List.nil_append, List.getElem?_cons_zero, List.getElem?_cons_succ, List.getElem?_nil, List.set_cons_zero, List.set_cons_succ, Nat.reduceAdd, Nat.reduceSub, Nat.zero_add, if_true, if_false, reduceIte, reduceCtorEq, Bool.false_eq_true, decide_eq_true_eq, tDrop, cMin2, cJoin, iList, tDNewK, tLc_eq, iStr, wipe])
        have ei : ixI (some (bef 35 (tl t)).length) + 1 = (((bef 35 (tl t)).length + 1 : Nat) : Int) := rfl
        rw [ei]
        have lq : (Str.ofString "?").length = 1 := rfl
        refine ⟨by omega, by omega, by omega, (bef 35 (tl t)).length + 1, t.length, rfl, rfl, by omega, Nat.le_refl _, ht, hs, fun v H3 he3 hv => ⟨_, _, rfl, ?_⟩⟩
        rw [hl, List.take_length, aft_drop hc, eS6] at hv
        refine hN _ _ ⟨v, ?_, he1.tr he3, ?_⟩
        · have e1 : V.str (cutS t (some (((bef 35 (tl t)).length + 1 : Nat) : Int)) none) = v6 (tl t) := by
            unfold v6
            rw [if_pos hc]
            exact vStr_eq (by rw [cutN, aft_drop hc])
          rw [← e1]
          rfl
        · unfold o6
          rw [if_pos hc]
          exact hv.wl
    rintro σ H3 ⟨w6, rfl, he3, hw6⟩
    clear he1 hw1
    -- the query
    refine seqCps (fun σ H' => ∃ w a, σ = [some (.str t), some (.str SG), some (.int ((bfQ (tl t)).length : Nat)), some w, some (v6 (tl t)), some (v5 (tl t)), a, none, none, none, none, none, none, none, none, none, none] ∧ Ext H H' ∧ WL H' w ([o6 (tl t)] ++ [o5 (tl t)])) (fun Nx hN => ?_) ?_
    · unfold tIfS
      (try simp only [tNext, tFor_eq, cBl, tOp, tC, cI, cIc, cAdd, cVar, hEq, hNe, hIn, hNotIn, hLen, hSl, tM1, tBM, cT1, cT1f, cFind3, cSplit, cPart, rNewStrs, hIsS, hTru, tAsg, gName, gSub, tRet, tRetN, tCons, tNil, tTup, tLst, tCB, tNot, tAnd, tNotV, tAndV, tOrV, tOr, V.bl.injEq, V.int.injEq, V.str.injEq, exists_eq_left', exists_eq_left, exists_eq', true_and, and_true, cIsN, L2.start, gTup, gCons, gNil, nox_K, cx_K, tCallF, tSl, tPart, tNoPart, iEnum, RZ.iZipA, iRng1, iRng2, cAbs, List.map_cons, List.map_nil, List.length_cons, List.length_nil, List.replicate, List.cons_append, List.nil_append, List.getElem?_cons_zero, List.getElem?_cons_succ, List.getElem?_nil, List.set_cons_zero, List.set_cons_succ, Nat.reduceAdd, Nat.reduceSub, Nat.zero_add, if_true, if_false, reduceIte, reduceCtorEq, Bool.false_eq_true, decide_eq_true_eq, tDrop, cMin2, cJoin, iList, tDNewK, tLc_eq, iStr, wipe])
      have hin : isIn (Str.ofString "?") (cutS t none (some ((bef 35 (tl t)).length : Nat))) = (bef 35 (tl t)).contains 63 := by rw [eQ, isIn_one, cut0, bef_take]
      have hfd : Txt.find t (Str.ofString "?") = ixI (if (tl t).contains 63 = true then some (bef 63 (tl t)).length else none) := by rw [eQ, find_ix, ixf_all]
      obtain ⟨r6, ps6, rfl, -⟩ := id hw6
      refine ⟨by omega, ?_⟩
      rw [hin]
      cases hc : (bef 35 (tl t)).contains 63 with
      | false =>
        rw [if_neg (by decide)]
        refine hN _ _ ⟨.ref r6, none, ?_, he3, hw6.same ?_⟩
        · unfold v5 bfQ
          rw [hc, if_neg (by decide), bef_none hc]
        · unfold o5
          rw [hc, if_neg (by decide)]
          exact fm_none _
      | true =>
        rw [if_pos rfl]
        have hal := aft_len hc
        have hb : bef 63 (tl t) = bfQ (tl t) := bef_in hc
        refine seqStep ?_
        (try simp only [tNext, tFor_eq, cBl, tOp, tC, cI, cIc, cAdd, cVar, hEq, hNe, hIn, hNotIn, hLen, hSl, tM1, tBM, cT1, cT1f, cFind3, cSplit, cPart, rNewStrs, hIsS, hTru, tAsg, gName, gSub, tRet, tRetN, tCons, tNil, tTup, tLst, tCB, tNot, tAnd, tNotV, tAndV, tOrV, tOr, V.bl.injEq, V.int.injEq, V.str.injEq, exists_eq_left', exists_eq_left, exists_eq', true_and, and_true, cIsN, L2.start, gTup, gCons, gNil, nox_K, cx_K, tCallF, tSl, tPart, tNoPart, iEnum, RZ.iZipA, iRng1, iRng2, cAbs, List.map_cons, List.map_nil, List.length_cons, List.length_nil, List.replicate, List.cons_append, List.nil_append, List.getElem?_cons_zero, List.getElem?_cons_succ, List.getElem?_nil, List.set_cons_zero, List.set_cons_succ, Nat.reduceAdd, Nat.reduceSub, Nat.zero_add, if_true, if_false, reduceIte, reduceCtorEq, Bool.false_eq_true, decide_eq_true_eq, tDrop, cMin2, cJoin, iList, tDNewK, tLc_eq, iStr, wipe])
        rw [hfd, if_pos (bef_mem hc), hb]
        unfold tPar
        refine seqStep ?_
        (try simp only [tNext, tFor_eq, cBl, tOp, tC, cI, cIc, cAdd, cVar, hEq, hNe, hIn, hNotIn, hLen, hSl, tM1, tBM, cT1, cT1f, cFind3, cSplit, cPart, rNewStrs, hIsS, hTru, tAsg, gName, gSub, tRet, tRetN, tCons, tNil, tTup, tLst, tCB, tNot, tAnd, tNotV, tAndV, tOrV, tOr, V.bl.injEq, V.int.injEq, V.str.injEq, exists_eq_left', exists_eq_left, exists_eq', true_and, and_true, cIsN, L2.start, gTup, gCons, gNil, nox_K, cx_K, tCallF, tSl, tPart, tNoPart, iEnum, RZ.iZipA, iRng1, iRng2, cAbs, List.map_cons, List.map_nil, List.length_cons, List.length_nil, List.replicate, List.cons_append, List.nil_append, List.getElem?_cons_zero, List.getElem?_cons_succ, List.getElem?_nil, List.set_cons_zero, List.set_cons_succ, Nat.reduceAdd, Nat.reduceSub, Nat.zero_add, if_true, if_false, reduceIte, reduceCtorEq, Bool.false_eq_true, decide_eq_true_eq, tDrop, cMin2, cJoin, iList, tDNewK, tLc_eq, iStr, wipe])
        have ei : ixI (some (bfQ (tl t)).length) + 1 = (((bfQ (tl t)).length + 1 : Nat) : Int) := rfl
        rw [ei]
        have lq : (Str.ofString "?").length = 1 := rfl
        change (bef 35 (tl t)).length = (bfQ (tl t)).length + 1 + (aft 63 (bef 35 (tl t))).length at hal
        have hcut : ((tl t).take (bef 35 (tl t)).length).drop ((bfQ (tl t)).length + 1) = aft 63 (bef 35 (tl t)) := by
          rw [bef_take]
          exact aft_drop hc
        refine ⟨by omega, by omega, (bfQ (tl t)).length + 1, (bef 35 (tl t)).length, rfl, rfl, by omega, by omega, ht, hs, fun v H4 he4 hv => ?_⟩
        rw [hcut, eS5] at hv
        obtain ⟨r7, rfl, -⟩ := id hv
        have ho : o5 (tl t) = Mi.scan (SI 5) ((bfQ (tl t)).length + 1) (aft 63 (bef 35 (tl t))) := by
          unfold o5
          rw [if_pos hc]
        rw [← ho] at hv
        refine .inl (WL.cat (hw6.ext he4) hv.wl (by simp) fun r8 H5 he5 hw8 => ⟨_, _, rfl, ?_⟩)
        refine hN _ _ ⟨.ref r8, some (.int (ixI (some (bfQ (tl t)).length))), ?_, (he3.tr he4).tr he5, hw8⟩
        have e1 : V.str (cutS t (some (((bfQ (tl t)).length + 1 : Nat) : Int)) (some (((bef 35 (tl t)).length : Nat) : Int))) = v5 (tl t) := by
          unfold v5
          rw [if_pos hc]
          exact vStr_eq (by rw [cutNM, hcut])
        rw [← e1]
        rfl
    rintro σ H4 ⟨w5, a6, rfl, he4, hw5⟩
    obtain ⟨r5, ps5, rfl, -⟩ := id hw5
    clear hw6 he3
    -- the scheme
    have hqq : ∀ k, k ≤ (bfQ (tl t)).length → (tl t).take k = (bfQ (tl t)).take k := fun k hk => by
      have e1 : (tl t).take (bef 35 (tl t)).length = bef 35 (tl t) := bef_take _ _
      have e2 : (bef 35 (tl t)).take (bfQ (tl t)).length = bfQ (tl t) := bef_take _ _
      rw [← e1, List.take_take, Nat.min_eq_left hq1] at e2
      rw [← e2, List.take_take, Nat.min_eq_left hk]
    have hqa : (tl t).take (bfQ (tl t)).length = bfQ (tl t) := by rw [hqq _ (Nat.le_refl _), List.take_length]
    have sch := sch_eq (bfQ (tl t))
    have cif := colon_iff (bfQ (tl t))
    have hfi : Txt.findIn t (Str.ofString ":") 0 ((bfQ (tl t)).length : Nat) = ixI (if (bfQ (tl t)).contains 58 = true then some (bef 58 (bfQ (tl t))).length else none) := by
      rw [eC]
      have := findIn_ix t 58 0 (bfQ (tl t)).length (by omega)
      rw [show (((0 : Nat) : Int)) = 0 from rfl] at this
      rw [this]
      unfold ixf
      rw [hqa, List.drop_zero, Nat.zero_add]
    refine seqStep ?_
    unfold tPar3
    (try simp only [tNext, tFor_eq, cBl, tOp, tC, cI, cIc, cAdd, cVar, hEq, hNe, hIn, hNotIn, hLen, hSl, tM1, tBM, cT1, cT1f, cFind3, cSplit, cPart, rNewStrs, hIsS, hTru, tAsg, gName, gSub, tRet, tRetN, tCons, tNil, tTup, tLst, tCB, tNot, tAnd, tNotV, tAndV, tOrV, tOr, V.bl.injEq, V.int.injEq, V.str.injEq, exists_eq_left', exists_eq_left, exists_eq', true_and, and_true, cIsN, L2.start, gTup, gCons, gNil, nox_K, cx_K, tCallF, tSl, tPart, tNoPart, iEnum, RZ.iZipA, iRng1, iRng2, cAbs, List.map_cons, List.map_nil, List.length_cons, List.length_nil, List.replicate, List.cons_append, List.nil_append, List.getElem?_cons_zero, List.getElem?_cons_succ, List.getElem?_nil, List.set_cons_zero, List.set_cons_succ, Nat.reduceAdd, Nat.reduceSub, Nat.zero_add, if_true, if_false, reduceIte, reduceCtorEq, Bool.false_eq_true, decide_eq_true_eq, tDrop, cMin2, cJoin, iList, tDNewK, tLc_eq, iStr, wipe])
    refine ⟨rfl, _, _, _, rfl, ?_⟩
    rw [hfi]
    refine seqCps (fun σ H' => ∃ w a9, σ = [some (.str t), some (.str SG), some (.int ((bfQ (tl t)).length : Nat)), some w, some (v6 (tl t)), some (v5 (tl t)), a6, some (v0 (tl t)), some (.int (schAt (bfQ (tl t)) : Nat)), a9, none, none, none, none, none, none, none] ∧ Ext H H' ∧ WL H' w ([o6 (tl t)] ++ [o5 (tl t)] ++ [o0 (tl t)])) (fun Nx hN => ?_) ?_
    · unfold tIfS
      (try simp only [tNext, tFor_eq, cBl, tOp, tC, cI, cIc, cAdd, cVar, hEq, hNe, hIn, hNotIn, hLen, hSl, tM1, tBM, cT1, cT1f, cFind3, cSplit, cPart, rNewStrs, hIsS, hTru, tAsg, gName, gSub, tRet, tRetN, tCons, tNil, tTup, tLst, tCB, tNot, tAnd, tNotV, tAndV, tOrV, tOr, V.bl.injEq, V.int.injEq, V.str.injEq, exists_eq_left', exists_eq_left, exists_eq', true_and, and_true, cIsN, L2.start, gTup, gCons, gNil, nox_K, cx_K, tCallF, tSl, tPart, tNoPart, iEnum, RZ.iZipA, iRng1, iRng2, cAbs, List.map_cons, List.map_nil, List.length_cons, List.length_nil, List.replicate, List.cons_append, List.nil_append, List.getElem?_cons_zero, List.getElem?_cons_succ, List.getElem?_nil, List.set_cons_zero, List.set_cons_succ, Nat.reduceAdd, Nat.reduceSub, Nat.zero_add, if_true, if_false, reduceIte, reduceCtorEq, Bool.false_eq_true, decide_eq_true_eq, tDrop, cMin2, cJoin, iList, tDNewK, tLc_eq, iStr, wipe])
      have no : (bef 47 (bfQ (tl t))).contains 58 = false → ∀ a9, Nx [some (.str t), some (.str SG), some (.int ((bfQ (tl t)).length : Nat)), some (.ref r5), some (v6 (tl t)), some (v5 (tl t)), a6, some .non, some (.int 0), a9, none, none, none, none, none, none, none] H4 := fun hc a9 => by
        refine hN _ _ ⟨.ref r5, a9, ?_, he4, hw5.same ?_⟩
        · unfold v0
          rw [sch, hc, if_neg (by decide), if_neg (by decide)]
          rfl
        · unfold o0
          rw [hc, if_neg (by decide)]
          exact fm_none _
      cases h58 : (bfQ (tl t)).contains 58 with
      | false =>
        rw [h58, Bool.false_and] at cif
        rw [if_neg (show ¬ false = true by decide)]
        rw [if_neg (show ¬ (0 : Int) ≤ ixI none by decide)]
        exact no cif _
      | true =>
        rw [h58, Bool.true_and] at cif
        rw [if_pos rfl]
        rw [if_pos (show (0 : Int) ≤ ixI (some (bef 58 (bfQ (tl t))).length) from Int.natCast_nonneg _)]
        have hbl := bef_le 58 (bfQ (tl t))
        have hlt := aft_len h58
        have hin : isIn (Str.ofString "/") (cutS t none (some (ixI (some (bef 58 (bfQ (tl t))).length)))) = (bef 58 (bfQ (tl t))).contains 47 := by
          rw [eS, isIn_one, show ixI (some (bef 58 (bfQ (tl t))).length) = (((bef 58 (bfQ (tl t))).length : Nat) : Int) from rfl, cut0, hqq _ hbl, bef_take]
        rw [hin]
        refine ⟨by omega, ?_⟩
        cases h47 : (bef 58 (bfQ (tl t))).contains 47 with
        | true =>
          rw [h47] at cif
          rw [if_neg (show ¬ (!true) = true by decide)]
          exact no cif _
        | false =>
          rw [h47] at cif
          replace cif : (bef 47 (bfQ (tl t))).contains 58 = true := cif
          rw [if_pos (show (!false) = true from rfl)]
          rw [if_pos cif] at sch
          refine seqStep ?_
          unfold tPar
          (try simp only [tNext, tFor_eq, cBl, tOp, tC, cI, cIc, cAdd, cVar, hEq, hNe, hIn, hNotIn, hLen, hSl, tM1, tBM, cT1, cT1f, cFind3, cSplit, cPart, rNewStrs, hIsS, hTru, tAsg, gName, gSub, tRet, tRetN, tCons, tNil, tTup, tLst, tCB, tNot, tAnd, tNotV, tAndV, tOrV, tOr, V.bl.injEq, V.int.injEq, V.str.injEq, exists_eq_left', exists_eq_left, exists_eq', true_and, and_true, cIsN, L2.start, gTup, gCons, gNil, nox_K, cx_K, tCallF, tSl, tPart, tNoPart, iEnum, RZ.iZipA, iRng1, iRng2, cAbs, List.map_cons, List.map_nil, List.length_cons, List.length_nil, List.replicate, List.cons_append, List.nil_append, List.getElem?_cons_zero, List.getElem?_cons_succ, List.getElem?_nil, List.set_cons_zero, List.set_cons_succ, Nat.reduceAdd, Nat.reduceSub, Nat.zero_add, if_true, if_false, reduceIte, reduceCtorEq, Bool.false_eq_true, decide_eq_true_eq, tDrop, cMin2, cJoin, iList, tDNewK, tLc_eq, iStr, wipe])
          refine ⟨by omega, (bef 58 (bfQ (tl t))).length, rfl, by omega, ht, fun v H5 he5 hv => ?_⟩
          rw [hqq _ hbl] at hv
          have es : schAt (bfQ (tl t)) - 1 = (bef 58 (bfQ (tl t))).length := by omega
          have ho : o0 (tl t) = wSch ((bfQ (tl t)).take (bef 58 (bfQ (tl t))).length) := by
            unfold o0
            rw [if_pos cif, es]
          rw [← ho] at hv
          obtain ⟨r7, rfl, -⟩ := id hv
          refine .inl (WL.cat (hw5.ext he5) hv.wl (by simp) fun r8 H6 he6 hw8 => ⟨_, _, rfl, ?_⟩)
          refine hN _ _ ⟨.ref r8, some (.int (ixI (some (bef 58 (bfQ (tl t))).length))), ?_, (he4.tr he5).tr he6, hw8⟩
          have e1 : V.str (cutS t none (some (((bef 58 (bfQ (tl t))).length : Nat) : Int))) = v0 (tl t) := by
            unfold v0
            rw [if_pos cif, es]
            exact vStr_eq (by rw [cut0, hqq _ hbl])
          rw [← e1, sch]
          rfl
    rintro σ H5 ⟨w0, a9, rfl, he5, hw0⟩
    obtain ⟨r0, ps0, rfl, -⟩ := id hw0
    clear hw5 he4
    have hsl := schAt_le (bfQ (tl t))
    refine seqStep ?_
    (try simp only [tNext, tFor_eq, cBl, tOp, tC, cI, cIc, cAdd, cVar, hEq, hNe, hIn, hNotIn, hLen, hSl, tM1, tBM, cT1, cT1f, cFind3, cSplit, cPart, rNewStrs, hIsS, hTru, tAsg, gName, gSub, tRet, tRetN, tCons, tNil, tTup, tLst, tCB, tNot, tAnd, tNotV, tAndV, tOrV, tOr, V.bl.injEq, V.int.injEq, V.str.injEq, exists_eq_left', exists_eq_left, exists_eq', true_and, and_true, cIsN, L2.start, gTup, gCons, gNil, nox_K, cx_K, tCallF, tSl, tPart, tNoPart, iEnum, RZ.iZipA, iRng1, iRng2, cAbs, List.map_cons, List.map_nil, List.length_cons, List.length_nil, List.replicate, List.cons_append, List.nil_append, List.getElem?_cons_zero, List.getElem?_cons_succ, List.getElem?_nil, List.set_cons_zero, List.set_cons_succ, Nat.reduceAdd, Nat.reduceSub, Nat.zero_add, if_true, if_false, reduceIte, reduceCtorEq, Bool.false_eq_true, decide_eq_true_eq, tDrop, cMin2, cJoin, iList, tDNewK, tLc_eq, iStr, wipe])
    refine ⟨by omega, fun p1 hp1 => ⟨_, _, rfl, .inl (Rd.of upd_self), rfl, _, _, rfl, _, _, rfl, _, _, rfl, rfl, ?_⟩⟩
    replace he5 := he5.fresh (o := .tup [.non, .non, .non]) hp1
    replace hw0 := hw0.ext (Ext.rf.fresh (o := .tup [.non, .non, .non]) hp1)
    generalize upd H5 p1 (.tup [.non, .non, .non]) = H6 at *
    clear hp1
    -- the authority
    have hdq : ∀ b k, k ≤ (bfQ (tl t)).length → ((tl t).take k).drop b = ((bfQ (tl t)).take k).drop b := fun b k hk => by rw [hqq k hk]
    refine seqCps (fun σ H' => ∃ w a9 x10 x11 x12 a13 a14, σ = [some (.str t), some (.str SG), some (.int ((bfQ (tl t)).length : Nat)), some w, some (v6 (tl t)), some (v5 (tl t)), a6, some (v0 (tl t)), some (.int (paAt (bfQ (tl t)) : Nat)), a9, some x10, some x11, some x12, a13, a14, none, none] ∧ Ext H H' ∧ WL H' w ([o6 (tl t)] ++ [o5 (tl t)] ++ [o0 (tl t)] ++ oA (tl t)) ∧ (if auth (bfQ (tl t)) then auV (auY (bfQ (tl t))) (schAt (bfQ (tl t)) + 2) else [.non, .non, .non]) = [x10, x11, x12]) (fun Nx hN => ?_) ?_
    · unfold tIfS
      (try simp only [tNext, tFor_eq, cBl, tOp, tC, cI, cIc, cAdd, cVar, hEq, hNe, hIn, hNotIn, hLen, hSl, tM1, tBM, cT1, cT1f, cFind3, cSplit, cPart, rNewStrs, hIsS, hTru, tAsg, gName, gSub, tRet, tRetN, tCons, tNil, tTup, tLst, tCB, tNot, tAnd, tNotV, tAndV, tOrV, tOr, V.bl.injEq, V.int.injEq, V.str.injEq, exists_eq_left', exists_eq_left, exists_eq', true_and, and_true, cIsN, L2.start, gTup, gCons, gNil, nox_K, cx_K, tCallF, tSl, tPart, tNoPart, iEnum, RZ.iZipA, iRng1, iRng2, cAbs, List.map_cons, List.map_nil, List.length_cons, List.length_nil, List.replicate, List.cons_append, List.nil_append, List.getElem?_cons_zero, List.getElem?_cons_succ, List.getElem?_nil, List.set_cons_zero, List.set_cons_succ, Nat.reduceAdd, Nat.reduceSub, Nat.zero_add, if_true, if_false, reduceIte, reduceCtorEq, Bool.false_eq_true, decide_eq_true_eq, tDrop, cMin2, cJoin, iList, tDNewK, tLc_eq, iStr, wipe])
      have hm : (if ((schAt (bfQ (tl t)) : Nat) : Int) + 2 < (((bfQ (tl t)).length : Nat) : Int) then ((schAt (bfQ (tl t)) : Nat) : Int) + 2 else (((bfQ (tl t)).length : Nat) : Int)) = (((if schAt (bfQ (tl t)) + 2 < (bfQ (tl t)).length then schAt (bfQ (tl t)) + 2 else (bfQ (tl t)).length) : Nat) : Int) := by
        by_cases hlt : schAt (bfQ (tl t)) + 2 < (bfQ (tl t)).length
        · rw [if_pos (by omega), if_pos hlt]; omega
        · rw [if_neg (by omega), if_neg hlt]
      rw [hm]
      have hcut : tl (cutS t (some ((schAt (bfQ (tl t)) : Nat) : Int)) (some (((if schAt (bfQ (tl t)) + 2 < (bfQ (tl t)).length then schAt (bfQ (tl t)) + 2 else (bfQ (tl t)).length) : Nat) : Int))) = ((bfQ (tl t)).drop (schAt (bfQ (tl t)))).take 2 := by
        rw [cutNM]
        by_cases hlt : schAt (bfQ (tl t)) + 2 < (bfQ (tl t)).length
        · rw [if_pos hlt, hdq _ _ (by omega), List.drop_take]
          congr 1
          omega
        · rw [if_neg hlt, hqa, List.take_of_length_le (by rw [List.length_drop]; omega)]
      have hbr : cutS t (some ((schAt (bfQ (tl t)) : Nat) : Int)) (some (((if schAt (bfQ (tl t)) + 2 < (bfQ (tl t)).length then schAt (bfQ (tl t)) + 2 else (bfQ (tl t)).length) : Nat) : Int)) = Str.ofString "//" ↔ auth (bfQ (tl t)) := by
        unfold auth
        rw [← hcut]
        exact ⟨fun z => by rw [z]; rfl, fun z => TL.ext_tl (by rw [z]; rfl)⟩
      refine ⟨by omega, ?_⟩
      by_cases hau : auth (bfQ (tl t))
      · rw [if_pos (hbr.mpr hau)]
        have hay := auY_le hau
        have hf47 : Txt.findIn t (Str.ofString "/") (((schAt (bfQ (tl t)) : Nat) : Int) + 2) ((bfQ (tl t)).length : Nat) = ixI (if ((bfQ (tl t)).drop (schAt (bfQ (tl t)) + 2)).contains 47 = true then some (schAt (bfQ (tl t)) + 2 + (auY (bfQ (tl t))).length) else none) := by
          rw [eS, show ((schAt (bfQ (tl t)) : Nat) : Int) + 2 = ((schAt (bfQ (tl t)) + 2 : Nat) : Int) from rfl, findIn_ix t 47 _ _ (by omega)]
          unfold ixf
          rw [hqa]
          rfl
        refine seqStep ?_
        (try simp only [tNext, tFor_eq, cBl, tOp, tC, cI, cIc, cAdd, cVar, hEq, hNe, hIn, hNotIn, hLen, hSl, tM1, tBM, cT1, cT1f, cFind3, cSplit, cPart, rNewStrs, hIsS, hTru, tAsg, gName, gSub, tRet, tRetN, tCons, tNil, tTup, tLst, tCB, tNot, tAnd, tNotV, tAndV, tOrV, tOr, V.bl.injEq, V.int.injEq, V.str.injEq, exists_eq_left', exists_eq_left, exists_eq', true_and, and_true, cIsN, L2.start, gTup, gCons, gNil, nox_K, cx_K, tCallF, tSl, tPart, tNoPart, iEnum, RZ.iZipA, iRng1, iRng2, cAbs, List.map_cons, List.map_nil, List.length_cons, List.length_nil, List.replicate, List.cons_append, List.nil_append, List.getElem?_cons_zero, List.getElem?_cons_succ, List.getElem?_nil, List.set_cons_zero, List.set_cons_succ, Nat.reduceAdd, Nat.reduceSub, Nat.zero_add, if_true, if_false, reduceIte, reduceCtorEq, Bool.false_eq_true, decide_eq_true_eq, tDrop, cMin2, cJoin, iList, tDNewK, tLc_eq, iStr, wipe])
        refine ⟨rfl, ?_⟩
        rw [hf47]
        refine seqCps (fun σ H' => σ = [some (.str t), some (.str SG), some (.int ((bfQ (tl t)).length : Nat)), some (.ref r0), some (v6 (tl t)), some (v5 (tl t)), a6, some (v0 (tl t)), some (.int (schAt (bfQ (tl t)) : Nat)), a9, some .non, some .non, some .non, some (.int ((schAt (bfQ (tl t)) + 2 + (auY (bfQ (tl t))).length : Nat) : Int)), none, none, none] ∧ H' = H6) (fun Nx2 hN2 => ?_) ?_
        · unfold tIf
          (try simp only [tNext, tFor_eq, cBl, tOp, tC, cI, cIc, cAdd, cVar, hEq, hNe, hIn, hNotIn, hLen, hSl, tM1, tBM, cT1, cT1f, cFind3, cSplit, cPart, rNewStrs, hIsS, hTru, tAsg, gName, gSub, tRet, tRetN, tCons, tNil, tTup, tLst, tCB, tNot, tAnd, tNotV, tAndV, tOrV, tOr, V.bl.injEq, V.int.injEq, V.str.injEq, exists_eq_left', exists_eq_left, exists_eq', true_and, and_true, cIsN, L2.start, gTup, gCons, gNil, nox_K, cx_K, tCallF, tSl, tPart, tNoPart, iEnum, RZ.iZipA, iRng1, iRng2, cAbs, List.map_cons, List.map_nil, List.length_cons, List.length_nil, List.replicate, List.cons_append, List.nil_append, List.getElem?_cons_zero, List.getElem?_cons_succ, List.getElem?_nil, List.set_cons_zero, List.set_cons_succ, Nat.reduceAdd, Nat.reduceSub, Nat.zero_add, if_true, if_false, reduceIte, reduceCtorEq, Bool.false_eq_true, decide_eq_true_eq, tDrop, cMin2, cJoin, iList, tDNewK, tLc_eq, iStr, wipe])
          cases hc : ((bfQ (tl t)).drop (schAt (bfQ (tl t)) + 2)).contains 47 with
          | true =>
            rw [if_pos rfl, if_neg (show ¬ ixI (some (schAt (bfQ (tl t)) + 2 + (auY (bfQ (tl t))).length)) < 0 from Int.not_lt.mpr (Int.natCast_nonneg _))]
            exact hN2 _ _ ⟨rfl, rfl⟩
          | false =>
            rw [if_neg (show ¬ false = true by decide), if_pos (show ixI none < 0 by decide)]
            have e0 : auY (bfQ (tl t)) = (bfQ (tl t)).drop (schAt (bfQ (tl t)) + 2) := bef_none hc
            have e1 : schAt (bfQ (tl t)) + 2 + (auY (bfQ (tl t))).length = (bfQ (tl t)).length := by
              have := congrArg List.length e0
              rw [List.length_drop] at this
              omega
            refine hN2 _ _ ⟨?_, rfl⟩
            rw [e1]
        rintro σ H7 ⟨rfl, rfl⟩
        refine seqStep ?_
        (try simp only [tNext, tFor_eq, cBl, tOp, tC, cI, cIc, cAdd, cVar, hEq, hNe, hIn, hNotIn, hLen, hSl, tM1, tBM, cT1, cT1f, cFind3, cSplit, cPart, rNewStrs, hIsS, hTru, tAsg, gName, gSub, tRet, tRetN, tCons, tNil, tTup, tLst, tCB, tNot, tAnd, tNotV, tAndV, tOrV, tOr, V.bl.injEq, V.int.injEq, V.str.injEq, exists_eq_left', exists_eq_left, exists_eq', true_and, and_true, cIsN, L2.start, gTup, gCons, gNil, nox_K, cx_K, tCallF, tSl, tPart, tNoPart, iEnum, RZ.iZipA, iRng1, iRng2, cAbs, List.map_cons, List.map_nil, List.length_cons, List.length_nil, List.replicate, List.cons_append, List.nil_append, List.getElem?_cons_zero, List.getElem?_cons_succ, List.getElem?_nil, List.set_cons_zero, List.set_cons_succ, Nat.reduceAdd, Nat.reduceSub, Nat.zero_add, if_true, if_false, reduceIte, reduceCtorEq, Bool.false_eq_true, decide_eq_true_eq, tDrop, cMin2, cJoin, iList, tDNewK, tLc_eq, iStr, wipe])
        have hsp : ((tl t).take (schAt (bfQ (tl t)) + 2 + (auY (bfQ (tl t))).length)).drop (schAt (bfQ (tl t)) + 2) = auY (bfQ (tl t)) := by
          rw [hdq _ _ hay, List.drop_take, Nat.add_sub_cancel_left]
          exact bef_take _ _
        refine ⟨schAt (bfQ (tl t)) + 2, schAt (bfQ (tl t)) + 2 + (auY (bfQ (tl t))).length, rfl, rfl, by omega, by omega, ht, hs, fun p2 v H8 he8 hp2 hv => ?_⟩
        rw [hsp] at hp2 hv
        obtain ⟨r7, ps7, rfl, -⟩ := id hv
        have hA : oA (tl t) = auO (auY (bfQ (tl t))) (schAt (bfQ (tl t)) + 2) := by
          unfold oA
          rw [if_pos hau]
        rw [← hA] at hv
        obtain ⟨x10, x11, x12, hx⟩ : ∃ x10 x11 x12, auV (auY (bfQ (tl t))) (schAt (bfQ (tl t)) + 2) = [x10, x11, x12] := ⟨_, _, _, rfl⟩
        rw [hx] at hp2
        refine ⟨p2, _, rfl, .inl (Rd.of hp2), rfl, _, _, rfl, _, _, rfl, _, _, rfl, _, _, rfl, rfl, ?_⟩
        unfold tPar
        (try simp only [tNext, tFor_eq, cBl, tOp, tC, cI, cIc, cAdd, cVar, hEq, hNe, hIn, hNotIn, hLen, hSl, tM1, tBM, cT1, cT1f, cFind3, cSplit, cPart, rNewStrs, hIsS, hTru, tAsg, gName, gSub, tRet, tRetN, tCons, tNil, tTup, tLst, tCB, tNot, tAnd, tNotV, tAndV, tOrV, tOr, V.bl.injEq, V.int.injEq, V.str.injEq, exists_eq_left', exists_eq_left, exists_eq', true_and, and_true, cIsN, L2.start, gTup, gCons, gNil, nox_K, cx_K, tCallF, tSl, tPart, tNoPart, iEnum, RZ.iZipA, iRng1, iRng2, cAbs, List.map_cons, List.map_nil, List.length_cons, List.length_nil, List.replicate, List.cons_append, List.nil_append, List.getElem?_cons_zero, List.getElem?_cons_succ, List.getElem?_nil, List.set_cons_zero, List.set_cons_succ, Nat.reduceAdd, Nat.reduceSub, Nat.zero_add, if_true, if_false, reduceIte, reduceCtorEq, Bool.false_eq_true, decide_eq_true_eq, tDrop, cMin2, cJoin, iList, tDNewK, tLc_eq, iStr, wipe])
        have hlA := oA_len (tl t)
        refine .inl (WL.cat (hw0.ext he8) hv (by simp only [List.length_append, List.length_cons, List.length_nil]; omega) fun r8 H9 he9 hw9 => ⟨_, _, rfl, ?_⟩)
        have ep : paAt (bfQ (tl t)) = schAt (bfQ (tl t)) + 2 + (auY (bfQ (tl t))).length := by
          unfold paAt
          rw [if_pos hau]
        refine hN _ _ ⟨.ref r8, a9, x10, x11, x12, some (.int ((schAt (bfQ (tl t)) + 2 + (auY (bfQ (tl t))).length : Nat) : Int)), some (.ref r7), ?_, (he5.tr he8).tr he9, hw9, by rw [if_pos hau, hx]⟩
        rw [ep]
      · rw [if_neg (fun z => hau (hbr.mp z))]
        refine hN _ _ ⟨.ref r0, a9, .non, .non, .non, none, none, ?_, he5, hw0.same ?_, by rw [if_neg hau]⟩
        · unfold paAt
          rw [if_neg hau]
        · unfold oA
          rw [if_neg hau, List.append_nil]
    rintro σ H7 ⟨wA, a9, x10, x11, x12, a13, a14, rfl, he7, hwA, hx⟩
    obtain ⟨rA, psA, rfl, -⟩ := id hwA
    clear hw0 he5
    -- the path
    have hpa : paAt (bfQ (tl t)) ≤ (bfQ (tl t)).length := by
      unfold paAt
      split
      · rename_i h; exact auY_le h
      · exact hsl
    refine seqStep ?_
    (try simp only [tNext, tFor_eq, cBl, tOp, tC, cI, cIc, cAdd, cVar, hEq, hNe, hIn, hNotIn, hLen, hSl, tM1, tBM, cT1, cT1f, cFind3, cSplit, cPart, rNewStrs, hIsS, hTru, tAsg, gName, gSub, tRet, tRetN, tCons, tNil, tTup, tLst, tCB, tNot, tAnd, tNotV, tAndV, tOrV, tOr, V.bl.injEq, V.int.injEq, V.str.injEq, exists_eq_left', exists_eq_left, exists_eq', true_and, and_true, cIsN, L2.start, gTup, gCons, gNil, nox_K, cx_K, tCallF, tSl, tPart, tNoPart, iEnum, RZ.iZipA, iRng1, iRng2, cAbs, List.map_cons, List.map_nil, List.length_cons, List.length_nil, List.replicate, List.cons_append, List.nil_append, List.getElem?_cons_zero, List.getElem?_cons_succ, List.getElem?_nil, List.set_cons_zero, List.set_cons_succ, Nat.reduceAdd, Nat.reduceSub, Nat.zero_add, if_true, if_false, reduceIte, reduceCtorEq, Bool.false_eq_true, decide_eq_true_eq, tDrop, cMin2, cJoin, iList, tDNewK, tLc_eq, iStr, wipe])
    refine ⟨paAt (bfQ (tl t)), (bfQ (tl t)).length, rfl, rfl, hpa, by omega, ht, hs, fun v H8 he8 hv => ?_⟩
    rw [hqa, eSG] at hv
    have ho4 : o4 (tl t) = Mi.scan (SI 4) (paAt (bfQ (tl t))) ((bfQ (tl t)).drop (paAt (bfQ (tl t)))) := rfl
    rw [← ho4] at hv
    obtain ⟨r7, rfl, -⟩ := id hv
    have hlA := oA_len (tl t)
    refine .inl (WL.cat (hwA.ext he8) hv.wl (by simp only [List.length_append, List.length_cons, List.length_nil]; omega) fun rr H9 he9 hw => ?_)
    have he := (he7.tr he8).tr he9
    clear hwA he7 he8 he9 hv
    obtain ⟨r9, ps, e9, hr9, hpp⟩ := id hw
    cases e9
    refine seqStep ?_
    unfold tIfS
    (try simp only [tNext, tFor_eq, cBl, tOp, tC, cI, cIc, cAdd, cVar, hEq, hNe, hIn, hNotIn, hLen, hSl, tM1, tBM, cT1, cT1f, cFind3, cSplit, cPart, rNewStrs, hIsS, hTru, tAsg, gName, gSub, tRet, tRetN, tCons, tNil, tTup, tLst, tCB, tNot, tAnd, tNotV, tAndV, tOrV, tOr, V.bl.injEq, V.int.injEq, V.str.injEq, exists_eq_left', exists_eq_left, exists_eq', true_and, and_true, cIsN, L2.start, gTup, gCons, gNil, nox_K, cx_K, tCallF, tSl, tPart, tNoPart, iEnum, RZ.iZipA, iRng1, iRng2, cAbs, List.map_cons, List.map_nil, List.length_cons, List.length_nil, List.replicate, List.cons_append, List.nil_append, List.getElem?_cons_zero, List.getElem?_cons_succ, List.getElem?_nil, List.set_cons_zero, List.set_cons_succ, Nat.reduceAdd, Nat.reduceSub, Nat.zero_add, if_true, if_false, reduceIte, reduceCtorEq, Bool.false_eq_true, decide_eq_true_eq, tDrop, cMin2, cJoin, iList, tDNewK, tLc_eq, iStr, wipe])
    refine ⟨by omega, fun pn hpn => ?_⟩
    have xn := Ext.rf.fresh (H := H9) (o := .lst []) hpn
    have hr := upd_old (o := .lst []) hr9 hpn
    replace hpp := paired_ext xn hpp
    replace he := he.tr xn
    have hnil : (upd H9 pn (.lst [])) pn = some (.lst []) := upd_self
    generalize upd H9 pn (.lst []) = HA at *
    have hmem : ∀ x, x ∈ ([o6 (tl t)] ++ [o5 (tl t)] ++ [o0 (tl t)] ++ oA (tl t) ++ [o4 (tl t)]).filterMap id ↔ some x ∈ lawO (tl t) := fun x => by
      rw [← mem_law]
      constructor
      · intro h
        obtain ⟨o, ho, e⟩ := List.mem_filterMap.mp h
        have e' : o = some x := e
        rw [← e']; exact ho
      · intro h
        exact List.mem_filterMap.mpr ⟨some x, h, rfl⟩
    generalize ([o6 (tl t)] ++ [o5 (tl t)] ++ [o0 (tl t)] ++ oA (tl t) ++ [o4 (tl t)]).filterMap id = ks at *
    refine ne_nil hr hnil hpp (fun k hk => kOk_law ((hmem k).mp hk) k.1 k.2 rfl) ?_
    cases hks : ks with
    | nil =>
      have hno : ∀ x, some x ∉ lawO (tl t) := fun x hx => by
        have := (hmem x).mpr hx
        rw [hks] at this
        exact nomatch this
      rw [none_is hno] at q
      simp only [List.isEmpty_nil, Bool.not_true, Bool.false_eq_true, if_false]
      refine ⟨by omega, by omega, fun pl hpl => ⟨by omega, fun pt hpt => ?_⟩⟩
      refine q pt pl _ ((he.fresh hpl).fresh hpt) upd_self (upd_old ?_ hpt)
      have e1 : V.str (cutS t (some ((paAt (bfQ (tl t)) : Nat) : Int)) (some (((bfQ (tl t)).length : Nat) : Int))) = vStr ((bfQ (tl t)).drop (paAt (bfQ (tl t)))) := vStr_eq (by rw [cutNM, hqa])
      rw [vs_law hno, e1]
      have e2 : lawV (tl t) = [v0 (tl t)] ++ ([x10, x11, x12] ++ [vStr ((bfQ (tl t)).drop (paAt (bfQ (tl t)))), v5 (tl t), v6 (tl t)]) := by
        rw [← hx]
        rfl
      rw [e2]
      exact upd_self
    | cons k0 ks0 =>
      have hne : 0 < ks.length := by rw [hks]; simp
      simp only [List.isEmpty_cons, Bool.not_false, if_true]
      refine seqStep ?_
      (try simp only [tNext, tFor_eq, cBl, tOp, tC, cI, cIc, cAdd, cVar, hEq, hNe, hIn, hNotIn, hLen, hSl, tM1, tBM, cT1, cT1f, cFind3, cSplit, cPart, rNewStrs, hIsS, hTru, tAsg, gName, gSub, tRet, tRetN, tCons, tNil, tTup, tLst, tCB, tNot, tAnd, tNotV, tAndV, tOrV, tOr, V.bl.injEq, V.int.injEq, V.str.injEq, exists_eq_left', exists_eq_left, exists_eq', true_and, and_true, cIsN, L2.start, gTup, gCons, gNil, nox_K, cx_K, tCallF, tSl, tPart, tNoPart, iEnum, RZ.iZipA, iRng1, iRng2, cAbs, List.map_cons, List.map_nil, List.length_cons, List.length_nil, List.replicate, List.cons_append, List.nil_append, List.getElem?_cons_zero, List.getElem?_cons_succ, List.getElem?_nil, List.set_cons_zero, List.set_cons_succ, Nat.reduceAdd, Nat.reduceSub, Nat.zero_add, if_true, if_false, reduceIte, reduceCtorEq, Bool.false_eq_true, decide_eq_true_eq, tDrop, cMin2, cJoin, iList, tDNewK, tLc_eq, iStr, wipe])
      refine ⟨rr, ps, ks.map fun k => ((k.2 : Nat), k.1), rfl, .inl (Rd.of hr), by rw [hpp.length]; exact hne, by rw [hpp.length, List.length_map], fun j p k hj hk => ?_, fun m p k hm hk hmin => ?_⟩
      · rw [List.getElem?_map] at hk
        obtain ⟨k', hk', rfl⟩ := Option.map_eq_some_iff.mp hk
        exact .inl (Rd.of (paired_ix hpp hj hk'))
      · rw [List.getElem?_map] at hk
        obtain ⟨k', hk', rfl⟩ := Option.map_eq_some_iff.mp hk
        have hp := paired_ix hpp hm hk'
        have hx' : some k' ∈ lawO (tl t) := (hmem k').mp (List.mem_of_getElem? hk')
        have hl' : ∀ y, some y ∈ lawO (tl t) → k'.2 ≤ y.2 := fun y hy => by
          have h0 : ((k'.2 : Nat) : Int) ≤ ((y.2 : Nat) : Int) := hmin _ (List.mem_map.mpr ⟨y, (hmem y).mpr hy, rfl⟩)
          omega
        rw [least_is hx' hl'] at q
        refine ⟨p, _, rfl, .inl (Rd.of hp), rfl, _, _, rfl, _, _, rfl, rfl, ?_⟩
        (try simp only [tNext, tFor_eq, cBl, tOp, tC, cI, cIc, cAdd, cVar, hEq, hNe, hIn, hNotIn, hLen, hSl, tM1, tBM, cT1, cT1f, cFind3, cSplit, cPart, rNewStrs, hIsS, hTru, tAsg, gName, gSub, tRet, tRetN, tCons, tNil, tTup, tLst, tCB, tNot, tAnd, tNotV, tAndV, tOrV, tOr, V.bl.injEq, V.int.injEq, V.str.injEq, exists_eq_left', exists_eq_left, exists_eq', true_and, and_true, cIsN, L2.start, gTup, gCons, gNil, nox_K, cx_K, tCallF, tSl, tPart, tNoPart, iEnum, RZ.iZipA, iRng1, iRng2, cAbs, List.map_cons, List.map_nil, List.length_cons, List.length_nil, List.replicate, List.cons_append, List.nil_append, List.getElem?_cons_zero, List.getElem?_cons_succ, List.getElem?_nil, List.set_cons_zero, List.set_cons_succ, Nat.reduceAdd, Nat.reduceSub, Nat.zero_add, if_true, if_false, reduceIte, reduceCtorEq, Bool.false_eq_true, decide_eq_true_eq, tDrop, cMin2, cJoin, iList, tDNewK, tLc_eq, iStr, wipe])
        refine ⟨by omega, fun pt hpt => ?_⟩
        exact q pt _ (he.fresh hpt) upd_self
end
end Da
set_option Elab.async false
set_option linter.all false
set_option maxRecDepth 100000
set_option maxHeartbeats 4000000
namespace Da
open PySem PySem.Spec PyProof.Rows L2 Hd Xs Fx Mi ClX Xr
open TL (tl)
theorem Sg.cutA {t : Str} (h : Sg t) (lo hi : Option Int) : Sg (cutS t lo hi) := h.cut
/-- the law's bent text -/
def spBent : Sp := fun vs H Q _ => match vs with
  | [.ref a, .str t] => Bg H a ∧ t.length ≤ 40000 ∧ Sg t ∧ ∀ t' H', t'.length ≤ 50000 → Sg t' → Bg H' a → Kp a H H' → Q (.str t') H'
  | _ => False
section
variable {P : Program} {w : World} {K : PySem.W.Frag} {mg : Str → Option Value} {base : Heap}
theorem ok__law_bent (c : Ct w K mg) : OkF P w K mg base CX0 2 (He.ga K "_law_bent") ["bag", "text"] (spBent) := by
  obtain ⟨fd, F⟩ := F__law_bent c
  refine ⟨fd, F.ok sc__law_bent (fun vs H Q E h => ?_) (fun cdv A outer s H vs Q E hr h => ⟨_, PSs.nox ((pss_cons (ps_set (i := 2) (sc__law_bent).nd rfl (Or.inl rfl) pe_str) (pss_cons (ps_for PassesOwn.never rfl (pi_range1 rfl (b_range c) (pa_cons (pe_op co_add pe_int (pf (ok__law_take c) (hr.mono (by decide)) (g__law_take c) (k__law_take c) pass0 (pa_cons (cv 0) (pa_cons pe_int pa_nil)))) pa_nil)) (pg_name (i := 3) (sc__law_bent).nd rfl (Or.inl rfl)) (pss_cons (ps_par (i := 4) (j := 5) (by rfl) (sc__law_bent).nd rfl rfl (by decide) rfl rfl (pa_cons (pf (ok__law_take c) (hr.mono (by decide)) (g__law_take c) (k__law_take c) pass0 (pa_cons (cv 0) (pa_cons (pe_op co_add (pe_callB hc_len (by rfl) (b_len c) (by decide +kernel) (pa_cons (cv 1) pa_nil)) pe_int) pa_nil))) (pa_cons (hix (cv 2) (pf (ok__law_take c) (hr.mono (by decide)) (g__law_take c) (k__law_take c) pass0 (pa_cons (cv 0) (pa_cons (pe_callB hc_len (by rfl) (b_len c) (by decide +kernel) (pa_cons (cv 2) pa_nil)) pa_nil)))) pa_nil)) (by rfl)) (pss_one (ps_set (i := 1) (sc__law_bent).nd rfl (Or.inl rfl) (pe_op co_add (pe_op co_add (pe_slice hs_any (cv 1) po_none (po_some (cv 4))) (hix (pe_lst (pa_cons (cv 5) (pa_cons (cv 5) (pa_cons pe_str (pa_cons (pe_op co_add (cv 5) (cv 5)) pa_nil))))) (pf (ok__law_take c) (hr.mono (by decide)) (g__law_take c) (k__law_take c) pass0 (pa_cons (cv 0) (pa_cons pe_int pa_nil))))) (pe_slice hs_any (cv 1) (po_some (pe_op co_add (cv 4) (pf (ok__law_take c) (hr.mono (by decide)) (g__law_take c) (k__law_take c) pass0 (pa_cons (cv 0) (pa_cons pe_int pa_nil))))) po_none)))))) (pss_one (ps_ret (cv 1)))))), ?_⟩), F.bindsN fun _ _ _ _ _ _ us hl => match us, hl with | [_, _], _ => rfl⟩
  · unfold spBent at h
    split at h
    · rfl
    · exact h.elim
  · unfold spBent at h
    split at h
    case h_2 => exact h.elim
    rename_i a t
    obtain ⟨hb, ht, hs, q⟩ := h
    have sl := sl
    refine seqStep ?_
    (try simp only [tNext, tFor_eq, cBl, tOp, tC, cI, cIc, cAdd, cVar, hEq, hNe, hIn, hNotIn, hLen, hSl, tM1, tBM, cT1, cT1f, cFind3, cSplit, cPart, rNewStrs, hIsS, hTru, tAsg, gName, gSub, tRet, tRetN, tCons, tNil, tTup, tLst, tCB, tNot, tAnd, tNotV, tAndV, tOrV, tOr, V.bl.injEq, V.int.injEq, V.str.injEq, exists_eq_left', exists_eq_left, exists_eq', true_and, and_true, cIsN, L2.start, gTup, gCons, gNil, nox_K, cx_K, tCallF, tSl, tPart, tNoPart, iEnum, RZ.iZipA, iRng1, iRng2, cAbs, List.map_cons, List.map_nil, List.length_cons, List.length_nil, List.replicate, List.cons_append, List.nil_append, List.getElem?_cons_zero, List.getElem?_cons_succ, List.getElem?_nil, List.set_cons_zero, List.set_cons_succ, Nat.reduceAdd, Nat.reduceSub, Nat.zero_add, if_true, if_false, reduceIte, reduceCtorEq, Bool.false_eq_true, decide_eq_true_eq, tDrop, cMin2, cJoin, iList, tDNewK, tLc_eq, iStr, wipe])
    refine seqCps (fun σ H' => ∃ t' v3 v4 v5, σ = [some (.ref a), some (.str t'), some (.str "^^^^[]@@::://??## $<>|\\{}.a0F9\n"), v3, v4, v5] ∧ t'.length ≤ 50000 ∧ Sg t' ∧ Bg H' a ∧ Kp a H H') (fun Nx hN => ?_) ?_
    · (try simp only [tNext, tFor_eq, cBl, tOp, tC, cI, cIc, cAdd, cVar, hEq, hNe, hIn, hNotIn, hLen, hSl, tM1, tBM, cT1, cT1f, cFind3, cSplit, cPart, rNewStrs, hIsS, hTru, tAsg, gName, gSub, tRet, tRetN, tCons, tNil, tTup, tLst, tCB, tNot, tAnd, tNotV, tAndV, tOrV, tOr, V.bl.injEq, V.int.injEq, V.str.injEq, exists_eq_left', exists_eq_left, exists_eq', true_and, and_true, cIsN, L2.start, gTup, gCons, gNil, nox_K, cx_K, tCallF, tSl, tPart, tNoPart, iEnum, RZ.iZipA, iRng1, iRng2, cAbs, List.map_cons, List.map_nil, List.length_cons, List.length_nil, List.replicate, List.cons_append, List.nil_append, List.getElem?_cons_zero, List.getElem?_cons_succ, List.getElem?_nil, List.set_cons_zero, List.set_cons_succ, Nat.reduceAdd, Nat.reduceSub, Nat.zero_add, if_true, if_false, reduceIte, reduceCtorEq, Bool.false_eq_true, decide_eq_true_eq, tDrop, cMin2, cJoin, iList, tDNewK, tLc_eq, iStr, wipe])
      refine take_ok hb (by decide) (by decide) fun d H1 d0 d1 hb1 hk1 => ⟨1 + d, rfl, by omega, by omega, ?_⟩
      refine lp_range (fun k σ H' => ∃ t' v3 v4 v5, σ = [some (.ref a), some (.str t'), some (.str "^^^^[]@@::://??## $<>|\\{}.a0F9\n"), v3, v4, v5] ∧ t'.length ≤ 40000 + 10 * k ∧ Sg t' ∧ Bg H' a ∧ Kp a H H') ⟨t, _, _, _, rfl, ht, hs, hb1, hk1⟩ ?_ ?_
      · rintro k σ H2 hkd ⟨t', v3, v4, v5, rfl, ht', hs', hb2, hk2⟩
        have hk3 : k < 4 := by omega
        refine seqStep ?_
        unfold tPar
        (try simp only [tNext, tFor_eq, cBl, tOp, tC, cI, cIc, cAdd, cVar, hEq, hNe, hIn, hNotIn, hLen, hSl, tM1, tBM, cT1, cT1f, cFind3, cSplit, cPart, rNewStrs, hIsS, hTru, tAsg, gName, gSub, tRet, tRetN, tCons, tNil, tTup, tLst, tCB, tNot, tAnd, tNotV, tAndV, tOrV, tOr, V.bl.injEq, V.int.injEq, V.str.injEq, exists_eq_left', exists_eq_left, exists_eq', true_and, and_true, cIsN, L2.start, gTup, gCons, gNil, nox_K, cx_K, tCallF, tSl, tPart, tNoPart, iEnum, RZ.iZipA, iRng1, iRng2, cAbs, List.map_cons, List.map_nil, List.length_cons, List.length_nil, List.replicate, List.cons_append, List.nil_append, List.getElem?_cons_zero, List.getElem?_cons_succ, List.getElem?_nil, List.set_cons_zero, List.set_cons_succ, Nat.reduceAdd, Nat.reduceSub, Nat.zero_add, if_true, if_false, reduceIte, reduceCtorEq, Bool.false_eq_true, decide_eq_true_eq, tDrop, cMin2, cJoin, iList, tDNewK, tLc_eq, iStr, wipe])
        have sig : Sg (Str.ofString "^^^^[]@@::://??## $<>|\\{}.a0F9\n") := Sg.lit (by rfl)
        have lsg : 1 ≤ (Str.ofString "^^^^[]@@::://??## $<>|\\{}.a0F9\n").length ∧ (Str.ofString "^^^^[]@@::://??## $<>|\\{}.a0F9\n").length ≤ 100 := by decide
        have e0 : (Str.ofString "").length = 0 := rfl
        refine ⟨by omega, take_ok hb2 (by omega) (by omega) fun d2 H3 f0 f1 hb3 hk3' => ?_⟩
        refine ⟨by omega, take_ok hb3 (by omega) (by omega) fun d3 H4 g0 g1 hb4 hk4 => ?_⟩
        refine hIx_chr (by omega) g0 g1 fun c1 hc1 => ?_
        have sc : Sg (⟨#[c1]⟩ : Str) := Sg.one (sig c1 hc1)
        refine ⟨_, _, rfl, d2, rfl, by omega, ?_⟩
        (try simp only [tNext, tFor_eq, cBl, tOp, tC, cI, cIc, cAdd, cVar, hEq, hNe, hIn, hNotIn, hLen, hSl, tM1, tBM, cT1, cT1f, cFind3, cSplit, cPart, rNewStrs, hIsS, hTru, tAsg, gName, gSub, tRet, tRetN, tCons, tNil, tTup, tLst, tCB, tNot, tAnd, tNotV, tAndV, tOrV, tOr, V.bl.injEq, V.int.injEq, V.str.injEq, exists_eq_left', exists_eq_left, exists_eq', true_and, and_true, cIsN, L2.start, gTup, gCons, gNil, nox_K, cx_K, tCallF, tSl, tPart, tNoPart, iEnum, RZ.iZipA, iRng1, iRng2, cAbs, List.map_cons, List.map_nil, List.length_cons, List.length_nil, List.replicate, List.cons_append, List.nil_append, List.getElem?_cons_zero, List.getElem?_cons_succ, List.getElem?_nil, List.set_cons_zero, List.set_cons_succ, Nat.reduceAdd, Nat.reduceSub, Nat.zero_add, if_true, if_false, reduceIte, reduceCtorEq, Bool.false_eq_true, decide_eq_true_eq, tDrop, cMin2, cJoin, iList, tDNewK, tLc_eq, iStr, wipe])
        refine ⟨by simp only [l1]; omega, by omega, fun p hp => ?_⟩
        refine take_ok (hb4.fresh hp) (by decide) (by decide) fun d4 H5 h0 h1 hb5 hk5 => ?_
        have hn := hb4.ne hp
        refine hIx_all (hk5 _ _ hn upd_self) h0 h1 fun v hv => ?_
        obtain ⟨z, rfl, hz, hzs⟩ : ∃ z : Str, v = .str z ∧ z.length ≤ 2 ∧ Sg z := by
          simp only [List.mem_cons, List.not_mem_nil, or_false] at hv
          rcases hv with rfl | rfl | rfl | rfl
          · exact ⟨_, rfl, by simp only [l1]; omega, sc⟩
          · exact ⟨_, rfl, by simp only [l1]; omega, sc⟩
          · exact ⟨_, rfl, by decide, Sg.lit (by rfl)⟩
          · exact ⟨_, rfl, by rw [la]; simp only [l1]; omega, sc.app sc⟩
        obtain ⟨n2, rfl⟩ : ∃ n : Nat, d2 = n := ⟨d2.toNat, by omega⟩
        have q1 : (cutS t' none (some (n2 : Int))).length = min n2 t'.length := by
          rw [TL.len_tl, cut0, List.length_take, ← TL.len_tl]
        dsimp only
        refine ⟨by omega, take_ok hb5 (by decide) (by decide) fun d5 H6 i0 i1 hb6 hk6 => ?_⟩
        obtain ⟨n5, rfl⟩ : ∃ n : Nat, d5 = n := ⟨d5.toNat, by omega⟩
        have ei : ((n2 : Nat) : Int) + ((n5 : Nat) : Int) = ((n2 + n5 : Nat) : Int) := by omega
        have q2 : (cutS t' (some ((n2 + n5 : Nat) : Int)) none).length = t'.length - (n2 + n5) := by
          rw [TL.len_tl, cutN, List.length_drop, ← TL.len_tl]
        dsimp only
        rw [ei]
        have q3 : (cutS t' none (some ((n2 : Nat) : Int)) ++ z).length = min n2 t'.length + z.length := by rw [la, q1]
        refine ⟨by omega, by omega, _, _, _, _, rfl, by rw [la]; omega, ((hs'.cut).app hzs).app hs'.cut, hb6, ?_⟩
        exact ((((hk2.trans hk3').trans hk4).fresh hp).trans hk5).trans hk6
      · rintro σ H2 ⟨t', v3, v4, v5, rfl, ht', hs', hb2, hk2⟩
        exact hN _ _ ⟨t', _, _, _, rfl, by omega, hs', hb2, hk2⟩
    · rintro σ H1 ⟨t', v3, v4, v5, rfl, ht', hs', hb', hk'⟩
      (try simp only [tNext, tFor_eq, cBl, tOp, tC, cI, cIc, cAdd, cVar, hEq, hNe, hIn, hNotIn, hLen, hSl, tM1, tBM, cT1, cT1f, cFind3, cSplit, cPart, rNewStrs, hIsS, hTru, tAsg, gName, gSub, tRet, tRetN, tCons, tNil, tTup, tLst, tCB, tNot, tAnd, tNotV, tAndV, tOrV, tOr, V.bl.injEq, V.int.injEq, V.str.injEq, exists_eq_left', exists_eq_left, exists_eq', true_and, and_true, cIsN, L2.start, gTup, gCons, gNil, nox_K, cx_K, tCallF, tSl, tPart, tNoPart, iEnum, RZ.iZipA, iRng1, iRng2, cAbs, List.map_cons, List.map_nil, List.length_cons, List.length_nil, List.replicate, List.cons_append, List.nil_append, List.getElem?_cons_zero, List.getElem?_cons_succ, List.getElem?_nil, List.set_cons_zero, List.set_cons_succ, Nat.reduceAdd, Nat.reduceSub, Nat.zero_add, if_true, if_false, reduceIte, reduceCtorEq, Bool.false_eq_true, decide_eq_true_eq, tDrop, cMin2, cJoin, iList, tDNewK, tLc_eq, iStr, wipe])
      exact q _ _ ht' hs' hb' hk'
end
end Da
set_option Elab.async false
set_option linter.all false
set_option maxRecDepth 100000
set_option maxHeartbeats 4000000
namespace Da
open PySem PySem.Spec PyProof.Rows L2 Hd Xs Fx Mi ClX Xr
open TL (tl)
/-! ### what is read is the whole text -/
theorem cutC {c : Nat} (l : T) : l = bef c l ++ (if l.contains c = true then c :: aft c l else []) := by
  cases h : l.contains c with
  | true => rw [if_pos rfl]; exact bef_aft h
  | false => rw [if_neg (by decide), List.append_nil, bef_none h]
theorem host_colon {z : T} {k : Nat} (h : (hoR z k).1 = none) (hlt : (hoR z k).2 < z.length) : z.drop (hoR z k).2 = 58 :: z.drop ((hoR z k).2 + 1) := by
  have fin : ∀ n, z[n]? = some 58 → z.drop n = 58 :: z.drop (n + 1) := fun n e => by
    obtain ⟨hl, e⟩ := List.getElem?_eq_some_iff.mp e
    rw [List.drop_eq_getElem_cons hl, e]
  refine fin _ ?_
  unfold hoR at h hlt ⊢
  by_cases hc : z.take 1 = [91]
  · rw [if_pos hc] at h hlt ⊢
    have h : (brR z).1 = none := by
      cases e : (brR z).1 with
      | none => rfl
      | some r => rw [e] at h; cases h
    dsimp only at hlt ⊢
    unfold brR at h hlt ⊢
    by_cases c1 : fo (z.drop 1) BRKT = 0 ∨ (z.drop (1 + fo (z.drop 1) BRKT)).take 1 ≠ [93]
    · rw [if_pos c1] at h; cases h
    · rw [if_neg c1] at h hlt ⊢
      by_cases c2 : 1 + fo (z.drop 1) BRKT + 1 < z.length ∧ (z.drop (1 + fo (z.drop 1) BRKT + 1)).take 1 ≠ [58]
      · rw [if_pos c2] at h; cases h
      · rw [if_neg c2] at hlt ⊢
        exact take1.mp (Classical.byContradiction fun z => c2 ⟨hlt, z⟩)
  · rw [if_neg hc] at hlt ⊢
    dsimp only at hlt ⊢
    cases h58 : z.contains 58 with
    | false => rw [bef_none h58] at hlt; exact absurd hlt (Nat.lt_irrefl _)
    | true =>
      have : (bef 58 z ++ 58 :: aft 58 z)[(bef 58 z).length]? = some 58 := by simp
      rw [← bef_aft h58] at this
      exact this
theorem isNo_v {y : T} : isNo (vStr y) = false := rfl
theorem v_ne {y : T} : vStr y ≠ V.non := V.noConfusion
theorem oT_v (y : T) : oT (vStr y) = y := by
  show (List.toArray y).toList = y
  simp
/-- the authority, as it is written -/
theorem au_txt {y : T} {b : Nat} (h : (hoR (y.drop (hostAt y)) (b + hostAt y)).1 = none) : (if 0 < hostAt y then y.take (hostAt y - 1) ++ [64] else []) ++ ((y.drop (hostAt y)).take (hoR (y.drop (hostAt y)) (b + hostAt y)).2 ++ (if (hoR (y.drop (hostAt y)) (b + hostAt y)).2 < (y.drop (hostAt y)).length then [58] ++ (y.drop (hostAt y)).drop ((hoR (y.drop (hostAt y)) (b + hostAt y)).2 + 1) else [])) = y := by
  have hz := @host_colon (y.drop (hostAt y)) (b + hostAt y) h
  have hat := hostAt_eq y
  have e1 : (y.drop (hostAt y)).take (hoR (y.drop (hostAt y)) (b + hostAt y)).2 ++ (if (hoR (y.drop (hostAt y)) (b + hostAt y)).2 < (y.drop (hostAt y)).length then [58] ++ (y.drop (hostAt y)).drop ((hoR (y.drop (hostAt y)) (b + hostAt y)).2 + 1) else []) = y.drop (hostAt y) := by
    by_cases hl : (hoR (y.drop (hostAt y)) (b + hostAt y)).2 < (y.drop (hostAt y)).length
    · rw [if_pos hl]
      have := hz hl
      rw [List.singleton_append, ← this, List.take_append_drop]
    · rw [if_neg hl, List.append_nil, List.take_of_length_le (by omega)]
  rw [e1]
  cases hc : y.contains 64 with
  | false =>
    rw [hc, if_neg (by decide)] at hat
    rw [hat]
    rfl
  | true =>
    rw [hc, if_pos rfl] at hat
    rw [hat, if_pos (Nat.succ_pos _), Nat.add_sub_cancel, bef_take, aft_drop hc, List.append_assoc]
    exact (bef_aft hc).symm
theorem txt_law {l : T} (hn : ∀ x, some x ∉ lawO l) : txtV (lawV l) = l := by
  have hl : l = bef 35 l ++ (if l.contains 35 = true then 35 :: aft 35 l else []) := cutC l
  have hb : bef 35 l = bfQ l ++ (if (bef 35 l).contains 63 = true then 63 :: aft 63 (bef 35 l) else []) := cutC (bef 35 l)
  have sch := sch_eq (bfQ l)
  have e0 : (if (bef 47 (bfQ l)).contains 58 = true then (bfQ l).take (schAt (bfQ l) - 1) ++ [58] else []) ++ (bfQ l).drop (schAt (bfQ l)) = bfQ l := by
    by_cases h : (bef 47 (bfQ l)).contains 58 = true
    · rw [if_pos h] at sch ⊢
      have h58 : (bfQ l).contains 58 = true := bef_mem h
      rw [sch, Nat.add_sub_cancel, bef_take, aft_drop h58, List.append_assoc]
      exact (bef_aft h58).symm
    · rw [if_neg h] at sch ⊢
      rw [sch]
      rfl
  have full : ∀ w : T, w = bfQ l → (w ++ (if (bef 35 l).contains 63 = true then 63 :: aft 63 (bef 35 l) else [])) ++ (if l.contains 35 = true then 35 :: aft 35 l else []) = l := fun w hw => by rw [hw, ← hb, ← hl]
  clear hl hb
  unfold lawV
  by_cases hau : auth (bfQ l)
  · have ho : (hoR ((auY (bfQ l)).drop (hostAt (auY (bfQ l)))) (schAt (bfQ l) + 2 + hostAt (auY (bfQ l)))).1 = none := by
      cases e : (hoR ((auY (bfQ l)).drop (hostAt (auY (bfQ l)))) (schAt (bfQ l) + 2 + hostAt (auY (bfQ l)))).1 with
      | none => rfl
      | some x =>
        refine absurd ?_ (hn x)
        unfold lawO
        rw [if_pos hau]
        refine List.mem_append_right _ (List.mem_append_left _ ?_)
        unfold auO
        rw [e]
        exact List.mem_cons_of_mem _ (List.mem_cons_self ..)
    have ey := au_txt ho
    have ep : paAt (bfQ l) = schAt (bfQ l) + 2 + (auY (bfQ l)).length := by unfold paAt; rw [if_pos hau]
    have ed : (bfQ l).drop (schAt (bfQ l)) = [47, 47] ++ (auY (bfQ l) ++ (bfQ l).drop (paAt (bfQ l))) := by
      have e2 : (bfQ l).drop (paAt (bfQ l)) = ((bfQ l).drop (schAt (bfQ l) + 2)).drop (auY (bfQ l)).length := by rw [ep, List.drop_drop]
      have e3 : auY (bfQ l) ++ ((bfQ l).drop (schAt (bfQ l) + 2)).drop (auY (bfQ l)).length = (bfQ l).drop (schAt (bfQ l) + 2) := by
        have := List.take_append_drop (auY (bfQ l)).length ((bfQ l).drop (schAt (bfQ l) + 2))
        rw [show ((bfQ l).drop (schAt (bfQ l) + 2)).take (auY (bfQ l)).length = auY (bfQ l) from bef_take _ _] at this
        exact this
      rw [e2, e3, ← List.drop_drop]
      have := List.take_append_drop 2 ((bfQ l).drop (schAt (bfQ l)))
      rw [show ((bfQ l).drop (schAt (bfQ l))).take 2 = [47, 47] from hau] at this
      exact this.symm
    rw [if_pos hau]
    unfold auV
    rw [ed] at e0
    generalize hostAt (auY (bfQ l)) = hn at *
    generalize (hoR ((auY (bfQ l)).drop hn) (schAt (bfQ l) + 2 + hn)).2 = sp at *
    generalize (bfQ l).drop (paAt (bfQ l)) = pa at *
    generalize (bfQ l).take (schAt (bfQ l) - 1) = y0 at *
    generalize aft 63 (bef 35 l) = y5 at *
    generalize aft 35 l = y6 at *
    generalize (bef 47 (bfQ l)).contains 58 = c0 at *
    generalize (bef 35 l).contains 63 = c5 at *
    generalize l.contains 35 = c6 at *
    rw [← ey] at e0
    refine Eq.trans ?_ (full _ e0)
    clear e0 full ed ep ey ho sch
    generalize auY (bfQ l) = y at *
    by_cases cu : 0 < hn
    · by_cases cp : sp < (y.drop hn).length
      · rw [if_pos cu, if_pos cp, if_pos cu, if_pos cp]
        cases c0 <;> cases c5 <;> cases c6 <;> simp [txtV, v_ne, oT_v, isNo]
      · rw [if_pos cu, if_neg cp, if_pos cu, if_neg cp]
        cases c0 <;> cases c5 <;> cases c6 <;> simp [txtV, v_ne, oT_v, isNo]
    · by_cases cp : sp < (y.drop hn).length
      · rw [if_neg cu, if_pos cp, if_neg cu, if_pos cp]
        cases c0 <;> cases c5 <;> cases c6 <;> simp [txtV, v_ne, oT_v, isNo]
      · rw [if_neg cu, if_neg cp, if_neg cu, if_neg cp]
        cases c0 <;> cases c5 <;> cases c6 <;> simp [txtV, v_ne, oT_v, isNo]
  · have ep : paAt (bfQ l) = schAt (bfQ l) := by unfold paAt; rw [if_neg hau]
    rw [if_neg hau, ep]
    generalize (bfQ l).drop (schAt (bfQ l)) = pa at *
    generalize (bfQ l).take (schAt (bfQ l) - 1) = y0 at *
    generalize aft 63 (bef 35 l) = y5 at *
    generalize aft 35 l = y6 at *
    generalize (bef 47 (bfQ l)).contains 58 = c0 at *
    generalize (bef 35 l).contains 63 = c5 at *
    generalize l.contains 35 = c6 at *
    refine Eq.trans ?_ (full _ e0)
    cases c0 <;> cases c5 <;> cases c6 <;> simp [txtV, v_ne, oT_v, isNo]
end Da
set_option Elab.async false
set_option linter.all false
set_option maxRecDepth 100000
set_option maxHeartbeats 4000000
namespace Da
open PySem PySem.Spec PyProof.Rows L2 Hd Xs Fx Mi ClX Xr
open TL (tl)
theorem dueF_ok {vs : List V} (h : dueV vs = none) : dueF 0 vs = none ∧ due2 vs = none := by
  unfold dueV at h
  cases z : dueF 0 vs with
  | none => rw [z] at h; exact ⟨rfl, h⟩
  | some n => rw [z] at h; cases h
theorem due_no {s u h g x f : V} {l : Str} (hd : dueV [s, u, h, g, .str l, x, f] = none) : h = .non → u = .non ∧ g = .non := by
  intro hh
  have h2 := (dueF_ok hd).2
  have h2' : (if isNo h = true ∧ isNo u = false then some ("user" : Str) else if isNo h = true ∧ isNo g = false then some ("port" : Str) else if poss (isNo s) (isNo h) (tl l) = false then some ("path" : Str) else none) = none := h2
  have i2 : isNo h = true := decide_eq_true hh
  refine ⟨Classical.byContradiction fun z => ?_, Classical.byContradiction fun z => ?_⟩
  · rw [if_pos ⟨i2, decide_eq_false z⟩] at h2'
    cases h2'
  · by_cases hu : isNo u = false
    · rw [if_pos ⟨i2, hu⟩] at h2'; cases h2'
    · rw [if_neg (fun z => hu z.2), if_pos ⟨i2, decide_eq_false z⟩] at h2'
      cases h2'
/-- None, or a text of signs below 256 -/
def GV (v : V) : Prop := v = .non ∨ ∃ t : Str, v = .str t ∧ Sg t
theorem GV.dp {K : PySem.W.Frag} {H : Hp} {v : V} (h : GV v) : Dp K H v (toD v) := by
  rcases h with rfl | ⟨t, rfl, _⟩
  · exact .non
  · exact .str t
theorem dpAllG {K : PySem.W.Frag} {H : Hp} : ∀ {vs : List V}, (∀ v ∈ vs, GV v) → DpAll K H vs (vs.map toD)
  | [], _ => .nil
  | v :: vs, h => .cons (h v (List.mem_cons_self ..)).dp (dpAllG fun x hx => h x (List.mem_cons_of_mem _ hx))
theorem canG : ∀ {vs : List V}, (∀ v ∈ vs, GV v) → PyData.canLayAll0 (vs.map toD) = true ∧ PyData.depthAll (vs.map toD) ≤ 1
  | [], _ => ⟨rfl, by simp [PyData.depthAll]⟩
  | v :: vs, h => by
    obtain ⟨h1, h2⟩ := canG (vs := vs) fun x hx => h x (List.mem_cons_of_mem _ hx)
    have hv := h v (List.mem_cons_self ..)
    have e1 : PyData.canLay0 (toD v) = true := by
      rcases hv with rfl | ⟨t, rfl, hs⟩
      · simp only [toD, PyData.canLay0]
      · simp only [toD, PyData.canLay0]; exact hs.ok
    have e2 : PyData.depth (toD v) ≤ 1 := by
      rcases hv with rfl | ⟨t, rfl, hs⟩ <;> simp only [toD, PyData.depth] <;> omega
    refine ⟨?_, ?_⟩
    · rw [List.map_cons]
      show (PyData.canLay0 (toD v) && PyData.canLayAll0 (vs.map toD)) = true
      rw [e1, h1]; rfl
    · simp only [List.map_cons, PyData.depthAll]
      omega
theorem ne_same {K : PySem.W.Frag} {H : Hp} {a b : Addr} {d : PyData} {Q : VK} (h1 : Dp K H (.ref a) d) (h2 : Dp K H (.ref b) d) (hs : SeqAt.shaped d = true) (q : Q (.bl false) H) : cEq K true (.ref a) (.ref b) H Q := by
  refine ⟨d, d, h1, h2, hs, hs, ?_⟩
  have e : PyData.eqv d d = true := SeqAt.eqv_refl _ (by
    unfold SeqAt.shaped at hs
    rw [Bool.and_eq_true] at hs
    exact hs.1)
  rw [e]
  exact q
theorem dp_parts {K : PySem.W.Frag} {H : Hp} {p q : Addr} {vs : List V} (hp : H p = some (.tup [.str "parts", .ref q])) (hq : H q = some (.lst vs)) (h : ∀ v ∈ vs, GV v) : Dp K H (.ref p) (.tuple [.str "parts", .list (vs.map toD)]) :=
  .tup (.inl (Rd.of hp)) (.cons (.str _) (.cons (.lst (.inl (Rd.of hq)) (dpAllG h)) .nil))
theorem dp_wrong {K : PySem.W.Frag} {H : Hp} {p : Addr} {k : Str} {i : Nat} (hp : H p = some (.tup [.str "wrong", .str k, .int (i : Nat)])) : Dp K H (.ref p) (.tuple [.str "wrong", .str k, .int (i : Nat)]) :=
  .tup (.inl (Rd.of hp)) (.cons (.str _) (.cons (.str _) (.cons (.int _) .nil)))
theorem sh_parts {vs : List V} (h : ∀ v ∈ vs, GV v) : SeqAt.shaped (.tuple [.str "parts", .list (vs.map toD)]) = true := by
  obtain ⟨h1, h2⟩ := canG h
  have h0 : (PyData.canLay0 (.str "parts")) = true := by decide +kernel
  unfold SeqAt.shaped
  rw [Bool.and_eq_true]
  refine ⟨?_, decide_eq_true ?_⟩
  · show (PyData.canLay0 (.str "parts") && (PyData.canLayAll0 (vs.map toD) && true)) = true
    rw [h0, h1]; rfl
  · simp only [PyData.depth, PyData.depthAll]
    omega
theorem sh_wrong {k : Str} {i : Nat} (h : Sg k) : SeqAt.shaped (.tuple [.str "wrong", .str k, .int (i : Nat)]) = true := by
  have h0 : (PyData.canLay0 (.str "wrong")) = true := by decide +kernel
  have h1 : (PyData.canLay0 (.str k)) = true := by simp only [PyData.canLay0]; exact h.ok
  have h2 : (PyData.canLay0 (.int (i : Nat))) = true := by simp only [PyData.canLay0]
  unfold SeqAt.shaped
  rw [Bool.and_eq_true]
  refine ⟨?_, decide_eq_true ?_⟩
  · show (PyData.canLay0 (.str "wrong") && (PyData.canLay0 (.str k) && (PyData.canLay0 (.int (i : Nat)) && true))) = true
    rw [h0, h1, h2]; rfl
  · simp only [PyData.depth, PyData.depthAll]
    omega
/-- the parts of a text whose signs are below 256, no longer than it -/
theorem gv_parts {l : T} {n : Nat} (hs : ∀ c ∈ l, c < 256) (hl : l.length ≤ n) (hn : ∀ x, some x ∉ lawO l) : ∀ v ∈ lawV l, GV v ∧ (oT v).length ≤ n := by
  have e := txt_law hn
  obtain ⟨s, u, h, p, x, q, f, ev⟩ : ∃ s u h p x q f, lawV l = [s, u, h, p, vStr x, q, f] := by
    unfold lawV
    by_cases ha : auth (bfQ l)
    · rw [if_pos ha]; exact ⟨_, _, _, _, _, _, _, rfl⟩
    · rw [if_neg ha]; exact ⟨_, _, _, _, _, _, _, rfl⟩
  have kind : ∀ v ∈ lawV l, v = .non ∨ ∃ y, v = vStr y := by
    unfold lawV
    intro v hv
    by_cases ha : auth (bfQ l)
    · rw [if_pos ha] at hv
      unfold auV at hv
      simp only [List.cons_append, List.nil_append, List.mem_cons, List.not_mem_nil, or_false] at hv
      rcases hv with rfl | rfl | rfl | rfl | rfl | rfl | rfl
      all_goals first | exact .inr ⟨_, rfl⟩ | (split <;> first | exact .inr ⟨_, rfl⟩ | exact .inl rfl)
    · rw [if_neg ha] at hv
      simp only [List.cons_append, List.nil_append, List.mem_cons, List.not_mem_nil, or_false] at hv
      rcases hv with rfl | rfl | rfl | rfl | rfl | rfl | rfl
      all_goals first | exact .inl rfl | exact .inr ⟨_, rfl⟩ | (split <;> first | exact .inr ⟨_, rfl⟩ | exact .inl rfl)
  have sub : ∀ v ∈ lawV l, (oT v).Sublist l := by
    intro v hv
    rcases kind v hv with rfl | ⟨y, rfl⟩
    · exact List.nil_sublist _
    · rw [ev] at e hv
      have hy : isNo (vStr y) = false := rfl
      unfold txtV at e
      dsimp only at e
      generalize ha0 : (if isNo s = true then [] else oT s ++ [58] : T) = a0 at e
      generalize ha2 : (if isNo u = true then [] else oT u ++ [64] : T) = a2 at e
      generalize ha3 : (if isNo h = true then [] else oT h : T) = a3 at e
      generalize ha4 : (if isNo p = true then [] else [58] ++ oT p : T) = a4 at e
      generalize ha6 : (if isNo q = true then [] else [63] ++ oT q : T) = a6 at e
      generalize ha7 : (if isNo f = true then [] else [35] ++ oT f : T) = a7 at e
      generalize (if isNo h = true then [] else [47, 47] : T) = a1 at e
      rw [← e]
      have r := fun (a b : T) => List.sublist_append_right a b
      have lft := fun (a b : T) => List.sublist_append_left a b
      simp only [List.mem_cons, List.not_mem_nil, or_false] at hv
      rcases hv with hv | hv | hv | hv | hv | hv | hv
      · rw [← hv, if_neg (by rw [hy]; decide)] at ha0
        rw [← ha0]
        exact (lft _ _).trans (lft _ _)
      · rw [← hv, if_neg (by rw [hy]; decide)] at ha2
        rw [← ha2]
        exact (((lft _ _).trans (lft _ _)).trans (r _ _)).trans (r _ _)
      · rw [← hv, if_neg (by rw [hy]; decide)] at ha3
        rw [← ha3]
        exact (((lft _ _).trans (r _ _)).trans (r _ _)).trans (r _ _)
      · rw [← hv, if_neg (by rw [hy]; decide)] at ha4
        rw [← ha4]
        exact (((((r _ _).trans (lft _ _)).trans (r _ _)).trans (r _ _)).trans (r _ _)).trans (r _ _)
      · rw [← hv]
        exact (((((lft _ _).trans (r _ _)).trans (r _ _)).trans (r _ _)).trans (r _ _)).trans (r _ _)
      · rw [← hv, if_neg (by rw [hy]; decide)] at ha6
        rw [← ha6]
        exact (((((((r _ _).trans (lft _ _)).trans (r _ _)).trans (r _ _)).trans (r _ _)).trans (r _ _)).trans (r _ _)).trans (r _ _)
      · rw [← hv, if_neg (by rw [hy]; decide)] at ha7
        rw [← ha7]
        exact (((((((r _ _).trans (r _ _)).trans (r _ _)).trans (r _ _)).trans (r _ _)).trans (r _ _)).trans (r _ _)).trans (r _ _)
  intro v hv
  have sv := sub v hv
  refine ⟨?_, Nat.le_trans sv.length_le hl⟩
  rcases kind v hv with rfl | ⟨y, rfl⟩
  · exact .inl rfl
  · exact .inr ⟨⟨y.toArray⟩, rfl, fun c hc => hs c (sv.subset hc)⟩
theorem none_law {l : T} (h : wRows (splT l) = none) : ∀ x, some x ∉ lawO l := fun x hx => by
  rw [← law_first, first_none] at h
  have : x ∈ (lawO l).filterMap id := List.mem_filterMap.mpr ⟨some x, hx, rfl⟩
  rw [h] at this
  exact nomatch this
theorem some_law {l : T} {x : Str × Nat} (h : wRows (splT l) = some x) : Sg x.1 := by
  rw [← law_first] at h
  have hfm : x ∈ (lawO l).filterMap id := by
    unfold firstO at h
    exact List.mem_of_mem_head? h
  obtain ⟨o, ho, e⟩ := List.mem_filterMap.mp hfm
  have e' : o = some x := e
  exact kOk_law (by rw [← e']; exact ho) x.1 x.2 rfl
def spLaw (K : PySem.W.Frag) : Sp := fun vs H Q _ => match vs with
  | [.ref a] => ∃ ns : List Int, SqL K H a (ns.map V.int) ∧ ∀ H', Q (.bl true) H'
  | _ => False
section
variable {P : Program} {w : World} {K : PySem.W.Frag} {mg : Str → Option Value} {base : Heap}
theorem law_fn (c : Ct w K mg) {fd : FuncData} (F : FunD K d_law.name d_law.qual d_law.params d_law.body d_law.scope (d_law.dvs K) (d_law.kws K) (d_law.at_ K) fd) : FnOk P w K mg base CX0 12 (He.ga K "law") fd ["script"] (spLaw K) := by
  refine F.ok sc_law (fun vs H Q E h => ?_) (fun cdv A outer s H vs Q E hr h => ⟨_, PSs.nox ((pss_cons (ps_for PassesOwn.never rfl (pi_range1 rfl (b_range c) (pa_cons (pe_callB (cc_max2 rfl) (by rfl) (b_max c) (by decide +kernel) (pa_cons pe_int (pa_cons (pe_callB (cc_min2 rfl) (by rfl) (b_min c) (by decide +kernel) (pa_cons pe_int (pa_cons (pe_callB cc_len (by rfl) (b_len c) (by decide +kernel) (pa_cons (cv 0) pa_nil)) pa_nil))) pa_nil))) pa_nil)) (pg_name (i := 1) (sc_law).nd rfl (Or.inl rfl)) (pss_cons (ps_set (i := 2) (sc_law).nd rfl (Or.inl rfl) (pf (ok__law_bag c) (hr.mono (by decide)) (g__law_bag c) (k__law_bag c) pass0 (pa_cons (cv 0) (pa_cons (cv 1) pa_nil)))) (pss_one (ps_for PassesOwn.never rfl (pi_range1 rfl (b_range c) (pa_cons pe_int pa_nil)) (pg_name (i := 3) (sc_law).nd rfl (Or.inl rfl)) (pss_cons (ps_set (i := 4) (sc_law).nd rfl (Or.inl rfl) (pf (ok__law_bent c) (hr.mono (by decide)) (g__law_bent c) (k__law_bent c) pass0 (pa_cons (cv 2) (pa_cons (pf (ok__law_text c) (hr.mono (by decide)) (g__law_text c) (k__law_text c) pass0 (pa_cons (pf (ok__law_parts c) (hr.mono (by decide)) (g__law_parts c) (k__law_parts c) pass0 (pa_cons (cv 2) pa_nil)) pa_nil)) pa_nil)))) (pss_cons (ps_par (i := 5) (j := 6) (by rfl) (sc_law).nd rfl rfl (by decide) rfl rfl (pa_cons (pf (ok__law_read c) (hr.mono (by decide)) (g__law_read c) (k__law_read c) pass0 (pa_cons (cv 4) pa_nil)) (pa_cons (pf (ok__law_told c) (hr.mono (by decide)) (g__law_told c) (k__law_told c) pass0 (pa_cons (cv 4) pa_nil)) pa_nil)) (by rfl)) (pss_cons (ps_if (PW.pt (pw_or (ctc (ho_ne (hu64 hr)) (cv 6) (cv 5) (by rfl)) (pw_or1 (ctc (ho_ne (hu64 hr)) (pe_callB call_reprV (by rfl) (b_repr c) (by decide +kernel) (pa_cons (pf (ok_is_url c) (hr.mono (by decide)) (g_is_url c) (k_is_url c) pass0 (pa_cons (cv 4) pa_nil)) pa_nil)) (pe_callB call_reprV (by rfl) (b_repr c) (by decide +kernel) (pa_cons (pe_cmpR (ho_eq (hu64 hr)) (hix (cv 5) pe_int) pe_str (by rfl)) pa_nil)) (by rfl))))) (pss_one (ps_ret pe_bl)) pss_nil) (pss_one (ps_if (PW.pt (pw_and (ctc (ho_eq (hu64 hr)) (hix (cv 5) pe_int) pe_str (by rfl)) (pw_and1 (ctc (ho_ne (hu64 hr)) (pe_callTy (call_str_ins (ok_Url___str__ c).r (hr.mono (by decide)) (spc_Url___str__ c).1 (spc_Url___str__ c).2) (by rfl) (b_str c) (by decide +kernel) (pa_cons (pf (E := E0) (ok_parse c) (hr.mono (by decide)) (g_parse c) (k_parse c) (passes_call takes0 (fun _ _ _ _ z => z)) (pa_cons (cv 4) pa_nil)) pa_nil)) (cv 4) (by rfl))))) (pss_one (ps_ret pe_bl)) pss_nil))))))))) (pss_one (ps_ret pe_bl)))), ?_⟩)
  · unfold spLaw at h
    split at h
    · rfl
    · exact h.elim
  · unfold spLaw at h
    split at h
    case h_2 => exact h.elim
    rename_i a
    obtain ⟨ns, hS, q⟩ := h
    have sl := sl
    have hla : ∀ H', Ext H H' → SqL K H' a (ns.map V.int) := fun H' e => Same.seq e hS
    refine seqCps (fun σ H' => Ext H H' ∧ ∃ u1 u2 u3 u4 u5 u6, σ = [some (.ref a), u1, u2, u3, u4, u5, u6]) (fun Nx hN => ?_) ?_
    · (try simp only [tNext, tFor_eq, cBl, tOp, tC, cI, cIc, cAdd, cVar, hEq, hNe, hIn, hNotIn, hLen, hSl, tM1, tBM, cT1, cT1f, cFind3, cSplit, cPart, rNewStrs, hIsS, hTru, tAsg, gName, gSub, tRet, tRetN, tCons, tNil, tTup, tLst, tCB, tNot, tAnd, tNotV, tAndV, tOrV, tOr, V.bl.injEq, V.int.injEq, V.str.injEq, exists_eq_left', exists_eq_left, exists_eq', true_and, and_true, cIsN, L2.start, gTup, gCons, gNil, nox_K, cx_K, tCallF, tSl, tPart, tNoPart, iEnum, RZ.iZipA, iRng1, iRng2, cAbs, List.map_cons, List.map_nil, List.length_cons, List.length_nil, List.replicate, List.cons_append, List.nil_append, List.getElem?_cons_zero, List.getElem?_cons_succ, List.getElem?_nil, List.set_cons_zero, List.set_cons_succ, Nat.reduceAdd, Nat.reduceSub, Nat.zero_add, if_true, if_false, reduceIte, reduceCtorEq, Bool.false_eq_true, decide_eq_true_eq, tDrop, cMin2, cJoin, iList, tDNewK, tLc_eq, iStr, wipe])
      refine ⟨_, .inl hS, ?_⟩
      simp only [cMax2]
      refine ⟨_, rfl, by (repeat' split) <;> omega, by (repeat' split) <;> omega, ?_⟩
      refine lp_range (fun k σ H' => Ext H H' ∧ ∃ u1 u2 u3 u4 u5 u6, σ = [some (.ref a), u1, u2, u3, u4, u5, u6]) ⟨Ext.rf, _, _, _, _, _, _, rfl⟩ ?_ (fun σ H' h => hN _ _ h)
      rintro k σ H1 hk ⟨he, u1, u2, u3, u4, u5, u6, rfl⟩
      have hk6 : k < 64 := by
        revert hk
        (repeat' split) <;> omega
      refine seqStep ?_
      (try simp only [tNext, tFor_eq, cBl, tOp, tC, cI, cIc, cAdd, cVar, hEq, hNe, hIn, hNotIn, hLen, hSl, tM1, tBM, cT1, cT1f, cFind3, cSplit, cPart, rNewStrs, hIsS, hTru, tAsg, gName, gSub, tRet, tRetN, tCons, tNil, tTup, tLst, tCB, tNot, tAnd, tNotV, tAndV, tOrV, tOr, V.bl.injEq, V.int.injEq, V.str.injEq, exists_eq_left', exists_eq_left, exists_eq', true_and, and_true, cIsN, L2.start, gTup, gCons, gNil, nox_K, cx_K, tCallF, tSl, tPart, tNoPart, iEnum, RZ.iZipA, iRng1, iRng2, cAbs, List.map_cons, List.map_nil, List.length_cons, List.length_nil, List.replicate, List.cons_append, List.nil_append, List.getElem?_cons_zero, List.getElem?_cons_succ, List.getElem?_nil, List.set_cons_zero, List.set_cons_succ, Nat.reduceAdd, Nat.reduceSub, Nat.zero_add, if_true, if_false, reduceIte, reduceCtorEq, Bool.false_eq_true, decide_eq_true_eq, tDrop, cMin2, cJoin, iList, tDNewK, tLc_eq, iStr, wipe])
      refine ⟨ns, hla _ he, by omega, by omega, fun b H2 he2 hb0 hb => ?_⟩
      have hbn : H b = none := by
        cases z : H b with
        | none => rfl
        | some o => rw [he _ _ z] at hb0; cases hb0
      (try simp only [tNext, tFor_eq, cBl, tOp, tC, cI, cIc, cAdd, cVar, hEq, hNe, hIn, hNotIn, hLen, hSl, tM1, tBM, cT1, cT1f, cFind3, cSplit, cPart, rNewStrs, hIsS, hTru, tAsg, gName, gSub, tRet, tRetN, tCons, tNil, tTup, tLst, tCB, tNot, tAnd, tNotV, tAndV, tOrV, tOr, V.bl.injEq, V.int.injEq, V.str.injEq, exists_eq_left', exists_eq_left, exists_eq', true_and, and_true, cIsN, L2.start, gTup, gCons, gNil, nox_K, cx_K, tCallF, tSl, tPart, tNoPart, iEnum, RZ.iZipA, iRng1, iRng2, cAbs, List.map_cons, List.map_nil, List.length_cons, List.length_nil, List.replicate, List.cons_append, List.nil_append, List.getElem?_cons_zero, List.getElem?_cons_succ, List.getElem?_nil, List.set_cons_zero, List.set_cons_succ, Nat.reduceAdd, Nat.reduceSub, Nat.zero_add, if_true, if_false, reduceIte, reduceCtorEq, Bool.false_eq_true, decide_eq_true_eq, tDrop, cMin2, cJoin, iList, tDNewK, tLc_eq, iStr, wipe])
      refine ⟨40, rfl, by omega, by omega, ?_⟩
      refine lp_range (fun k2 σ H' => Ext H H' ∧ Bg H' b ∧ ∃ u3 u4 u5 u6, σ = [some (.ref a), some (.int (0 + (k : Nat))), some (.ref b), u3, u4, u5, u6]) ⟨he.tr he2, hb, _, _, _, _, rfl⟩ ?_ (fun σ H' ⟨e, _, u3, u4, u5, u6, h⟩ => ⟨e, _, _, _, _, _, _, h⟩)
      rintro k2 σ H3 hk2 ⟨he3, hb3, v3, v4, v5, v6, rfl⟩
      refine seqStep ?_
      (try simp only [tNext, tFor_eq, cBl, tOp, tC, cI, cIc, cAdd, cVar, hEq, hNe, hIn, hNotIn, hLen, hSl, tM1, tBM, cT1, cT1f, cFind3, cSplit, cPart, rNewStrs, hIsS, hTru, tAsg, gName, gSub, tRet, tRetN, tCons, tNil, tTup, tLst, tCB, tNot, tAnd, tNotV, tAndV, tOrV, tOr, V.bl.injEq, V.int.injEq, V.str.injEq, exists_eq_left', exists_eq_left, exists_eq', true_and, and_true, cIsN, L2.start, gTup, gCons, gNil, nox_K, cx_K, tCallF, tSl, tPart, tNoPart, iEnum, RZ.iZipA, iRng1, iRng2, cAbs, List.map_cons, List.map_nil, List.length_cons, List.length_nil, List.replicate, List.cons_append, List.nil_append, List.getElem?_cons_zero, List.getElem?_cons_succ, List.getElem?_nil, List.set_cons_zero, List.set_cons_succ, Nat.reduceAdd, Nat.reduceSub, Nat.zero_add, if_true, if_false, reduceIte, reduceCtorEq, Bool.false_eq_true, decide_eq_true_eq, tDrop, cMin2, cJoin, iList, tDNewK, tLc_eq, iStr, wipe])
      refine ⟨hb3, fun s0 u h g l x f pl H4 hA h200 hd hb4 hk4 hne4 hp4 hpl4 => ?_⟩
      have m0 := hA _ (.head _)
      have m1 := hA _ (.tail _ (.head _))
      have m2 := hA _ (.tail _ (.tail _ (.head _)))
      have m3 := hA _ (.tail _ (.tail _ (.tail _ (.head _))))
      have m4 := hA _ (.tail _ (.tail _ (.tail _ (.tail _ (.head _)))))
      have m5 := hA _ (.tail _ (.tail _ (.tail _ (.tail _ (.tail _ (.head _))))))
      have m6 := hA _ (.tail _ (.tail _ (.tail _ (.tail _ (.tail _ (.tail _ (.head _)))))))
      refine ⟨s0, u, h, g, l, x, f, hpl4, hA, due_no hd, fun z hz => ?_⟩
      try dsimp only
      have hzl : z.length ≤ 30000 := by rw [TL.len_tl, hz]; exact txt_len m0 m1 m2 m3 m4 m5 m6
      have hzs : Sg z := fun c hc => by
        rw [hz] at hc
        exact txt_sg m0 m1 m2 m3 m4 m5 m6 c hc
      refine ⟨hb4, by omega, hzs, fun t H5 ht hts hb5 hk5 => ?_⟩
      have he5 := (he3.kp hbn hk4).kp hbn hk5
      clear hzl hzs hz hpl4 hp4 hne4 hk4 hb4 hk5
      refine seqStep ?_
      unfold tPar
      (try simp only [tNext, tFor_eq, cBl, tOp, tC, cI, cIc, cAdd, cVar, hEq, hNe, hIn, hNotIn, hLen, hSl, tM1, tBM, cT1, cT1f, cFind3, cSplit, cPart, rNewStrs, hIsS, hTru, tAsg, gName, gSub, tRet, tRetN, tCons, tNil, tTup, tLst, tCB, tNot, tAnd, tNotV, tAndV, tOrV, tOr, V.bl.injEq, V.int.injEq, V.str.injEq, exists_eq_left', exists_eq_left, exists_eq', true_and, and_true, cIsN, L2.start, gTup, gCons, gNil, nox_K, cx_K, tCallF, tSl, tPart, tNoPart, iEnum, RZ.iZipA, iRng1, iRng2, cAbs, List.map_cons, List.map_nil, List.length_cons, List.length_nil, List.replicate, List.cons_append, List.nil_append, List.getElem?_cons_zero, List.getElem?_cons_succ, List.getElem?_nil, List.set_cons_zero, List.set_cons_succ, Nat.reduceAdd, Nat.reduceSub, Nat.zero_add, if_true, if_false, reduceIte, reduceCtorEq, Bool.false_eq_true, decide_eq_true_eq, tDrop, cMin2, cJoin, iList, tDNewK, tLc_eq, iStr, wipe])
      refine ⟨by omega, hts, ?_⟩
      cases hw : wRows (splT (tl t)) with
      | some ki =>
        obtain ⟨kk, i⟩ := ki
        dsimp only
        intro p1 H6 he6 hp1
        refine ⟨by omega, ?_⟩
        rw [hw]
        dsimp only
        intro p2 H7 he7 hp2
        refine ⟨_, _, rfl, ?_⟩
        refine seqStep ?_
        unfold tIfS
        (try simp only [tNext, tFor_eq, cBl, tOp, tC, cI, cIc, cAdd, cVar, hEq, hNe, hIn, hNotIn, hLen, hSl, tM1, tBM, cT1, cT1f, cFind3, cSplit, cPart, rNewStrs, hIsS, hTru, tAsg, gName, gSub, tRet, tRetN, tCons, tNil, tTup, tLst, tCB, tNot, tAnd, tNotV, tAndV, tOrV, tOr, V.bl.injEq, V.int.injEq, V.str.injEq, exists_eq_left', exists_eq_left, exists_eq', true_and, and_true, cIsN, L2.start, gTup, gCons, gNil, nox_K, cx_K, tCallF, tSl, tPart, tNoPart, iEnum, RZ.iZipA, iRng1, iRng2, cAbs, List.map_cons, List.map_nil, List.length_cons, List.length_nil, List.replicate, List.cons_append, List.nil_append, List.getElem?_cons_zero, List.getElem?_cons_succ, List.getElem?_nil, List.set_cons_zero, List.set_cons_succ, Nat.reduceAdd, Nat.reduceSub, Nat.zero_add, if_true, if_false, reduceIte, reduceCtorEq, Bool.false_eq_true, decide_eq_true_eq, tDrop, cMin2, cJoin, iList, tDNewK, tLc_eq, iStr, wipe])
        have hp1' := he7 _ _ hp1
        refine ne_same (dp_wrong hp2) (dp_wrong hp1') (sh_wrong (some_law hw)) ?_
        simp only [Bool.false_eq_true, if_false]
        refine ⟨by omega, fun H8 he8 => ?_⟩
        rw [hw]
        have dw : decide (Str.ofString "wrong" = Str.ofString "parts") = false := by decide +kernel
        have nw : ¬ Str.ofString "wrong" = Str.ofString "parts" := of_decide_eq_false dw
        have hp8 := he8 _ _ hp1'
        simp only [cRepr]
        refine hIx_tup hp8 (v := .str "wrong") (by rfl) ?_
        simp only [cRepr, dw]
        rw [if_neg (fun z => z rfl)]
        refine hIx_tup hp8 (v := .str "wrong") (by rfl) ?_
        dsimp only
        rw [if_neg nw]
        have hx := (he6.tr he7).tr he8
        exact ⟨he5.tr hx, hb5.ext hx, _, _, _, _, rfl⟩
      | none =>
        dsimp only
        intro p1 q1 H6 he6 hp1 hq1
        refine ⟨by omega, ?_⟩
        rw [hw]
        dsimp only
        intro p2 q2 H7 he7 hp2 hq2
        refine ⟨_, _, rfl, ?_⟩
        have hno := none_law hw
        have evl : vsOf (splT (tl t)) = lawV (tl t) := vs_law hno
        have hgv := gv_parts (n := 50000) hts (by rw [← TL.len_tl]; exact ht) hno
        rw [← evl] at hgv
        have hp1' := he7 _ _ hp1
        have hq1' := he7 _ _ hq1
        refine seqStep ?_
        unfold tIfS
        (try simp only [tNext, tFor_eq, cBl, tOp, tC, cI, cIc, cAdd, cVar, hEq, hNe, hIn, hNotIn, hLen, hSl, tM1, tBM, cT1, cT1f, cFind3, cSplit, cPart, rNewStrs, hIsS, hTru, tAsg, gName, gSub, tRet, tRetN, tCons, tNil, tTup, tLst, tCB, tNot, tAnd, tNotV, tAndV, tOrV, tOr, V.bl.injEq, V.int.injEq, V.str.injEq, exists_eq_left', exists_eq_left, exists_eq', true_and, and_true, cIsN, L2.start, gTup, gCons, gNil, nox_K, cx_K, tCallF, tSl, tPart, tNoPart, iEnum, RZ.iZipA, iRng1, iRng2, cAbs, List.map_cons, List.map_nil, List.length_cons, List.length_nil, List.replicate, List.cons_append, List.nil_append, List.getElem?_cons_zero, List.getElem?_cons_succ, List.getElem?_nil, List.set_cons_zero, List.set_cons_succ, Nat.reduceAdd, Nat.reduceSub, Nat.zero_add, if_true, if_false, reduceIte, reduceCtorEq, Bool.false_eq_true, decide_eq_true_eq, tDrop, cMin2, cJoin, iList, tDNewK, tLc_eq, iStr, wipe])
        refine ne_same (dp_parts hp2 hq2 fun v hv => (hgv v hv).1) (dp_parts hp1' hq1' fun v hv => (hgv v hv).1) (sh_parts fun v hv => (hgv v hv).1) ?_
        simp only [Bool.false_eq_true, if_false]
        refine ⟨by omega, fun H8 he8 => ?_⟩
        rw [hw]
        have hp8 := he8 _ _ hp1'
        simp only [cRepr]
        refine hIx_tup hp8 (v := .str "parts") (by rfl) ?_
        simp only [cRepr, decide_true]
        rw [if_neg (fun z => z rfl)]
        refine hIx_tup hp8 (v := .str "parts") (by rfl) ?_
        dsimp only
        rw [if_pos rfl]
        refine ⟨by omega, ?_⟩
        rw [hw]
        dsimp only
        refine ⟨split_due hw, fun a1 H9 he9 hu _ => ?_⟩
        obtain ⟨s1, u1, h1, g1, pa, y1, f1, e0, -⟩ := vs_split (tl t)
        have etx : txtV (vsOf (splT (tl t))) = tl t := by rw [evl]; exact txt_law hno
        rw [e0] at hu hgv etx
        have good : ∀ v ∈ [s1, u1, h1, g1, vStr pa, y1, f1], Good v := fun v hv => by
          obtain ⟨g1, g2⟩ := hgv v hv
          rcases g1 with rfl | ⟨t1, rfl, _⟩
          · exact .inl rfl
          · refine .inr ⟨t1, rfl, ?_⟩
            have : (oT (.str t1)).length = t1.length := (TL.len_tl t1).symm
            omega
        obtain ⟨dx, Ta, hu1, hT⟩ := id hu
        have gl : (⟨pa.toArray⟩ : Str).length ≤ (100000 : Nat) := by
          rcases good (vStr pa) (by simp) with z | ⟨t1, z, hz⟩
          · cases z
          · cases z; exact hz
        refine ⟨a1, dx, _, rfl, hu1, s1, u1, h1, g1, ⟨pa.toArray⟩, y1, f1, hu, good s1 (by simp), good u1 (by simp), good h1 (by simp), good g1 (by simp), gl, good y1 (by simp), good f1 (by simp), fun zz H10 he10 hz => ⟨⟨zz, rfl⟩, ?_⟩⟩
        have ezt : zz = t := TL.ext_tl (by rw [hz]; exact etx)
        dsimp only
        rw [ezt, if_neg (fun z => z rfl)]
        have hx := (((he6.tr he7).tr he8).tr he9).tr he10
        exact ⟨he5.tr hx, hb5.ext hx, _, _, _, _, rfl⟩
    · rintro σ H1 ⟨he, u1, u2, u3, u4, u5, u6, rfl⟩
      (try simp only [tNext, tFor_eq, cBl, tOp, tC, cI, cIc, cAdd, cVar, hEq, hNe, hIn, hNotIn, hLen, hSl, tM1, tBM, cT1, cT1f, cFind3, cSplit, cPart, rNewStrs, hIsS, hTru, tAsg, gName, gSub, tRet, tRetN, tCons, tNil, tTup, tLst, tCB, tNot, tAnd, tNotV, tAndV, tOrV, tOr, V.bl.injEq, V.int.injEq, V.str.injEq, exists_eq_left', exists_eq_left, exists_eq', true_and, and_true, cIsN, L2.start, gTup, gCons, gNil, nox_K, cx_K, tCallF, tSl, tPart, tNoPart, iEnum, RZ.iZipA, iRng1, iRng2, cAbs, List.map_cons, List.map_nil, List.length_cons, List.length_nil, List.replicate, List.cons_append, List.nil_append, List.getElem?_cons_zero, List.getElem?_cons_succ, List.getElem?_nil, List.set_cons_zero, List.set_cons_succ, Nat.reduceAdd, Nat.reduceSub, Nat.zero_add, if_true, if_false, reduceIte, reduceCtorEq, Bool.false_eq_true, decide_eq_true_eq, tDrop, cMin2, cJoin, iList, tDNewK, tLc_eq, iStr, wipe])
      exact q _
end
end Da
set_option Elab.async false
set_option linter.all false
set_option maxRecDepth 100000
set_option maxHeartbeats 0
namespace Da
open PySem PySem.Spec PyProof.Rows L2 Hd Xs Fx
theorem facts {P : Program} {w : World} {K : PySem.W.Frag} {h : Heap} {mg : Str → Option Value} {f : Addr} (X : K.In h) (G : h.Ns mainGlobals mg) (hfa : mg ("law" : Str) = some (.ref f)) (c : Xb.Says fa fn ts ex w K) :
    ∃ fd : FuncData, (∀ (s : Shared) (v : Value), BindsTo s fd ⟨[v], []⟩ [("script", v)]) ∧ ∀ base : Heap, K.In base → base.Ns mainGlobals mg → FnOk P w K mg base CX0 12 f fd ["script"] (spLaw K) := by
  have C : Ct w K mg := ⟨c, h, X, G⟩
  have e := hfa.symm.trans (g_law C)
  cases e
  obtain ⟨fd, F⟩ := F_law C
  have b := FunD.bindsA (ps := ["script"]) F fun _ _ _ _ _ _ us hl => match us, hl with | [_], _ => rfl
  exact ⟨fd, fun s v => b s [v] rfl, fun base _ _ => law_fn C F⟩
end Da
open PySem PySem.W PySem.Calls PyProof.Rows
set_option maxRecDepth 100000 in
set_option maxHeartbeats 0 in
theorem PySem.Challenge.cw_urlplaces_k50_wrong_places_holds : PySem.Challenge.rw_urlplaces_k50_wrong_places.Holds := by
  w_on; o_law
  refine HandSHeadRun.head_any (r := Hd.R) (q := view Hd.R.prog [59]) (H := Hd.hk) (ob := Hd.ob) (M := 12000) (loose := Hd.loose) (d := HandSHeadRun.topDef Hd.R.prog 59) (kwd := []) Hd.ob_eq
    (by kernel_rfl) (fun s => by kernel_rfl) Hd.run (by kernel_rfl) (by kernel_rfl) (by kernel_rfl) (by rfl) (by first | assumption | decide +kernel) (by decide +kernel) ⟨rfl, rfl, rfl, rfl, rfl, by decide +kernel⟩ ?hw ?hc
  case hw => w_witness2
  case hc =>
    refine L2.walk_ofE (l := PySem.Challenge.rw_urlplaces_k50_wrong_places) (n := 63) (k := 12) (x := "script") (CX := L2.CX0) rfl (by decide) (by kernel_rfl) ⟨rfl, by decide, by decide⟩ ?F (fun _ _ _ _ z => z)
    intro w mg fa h Y G hmg0
    obtain ⟨K, KX, c⟩ := Y
    have hmg : mg ("law" : PySem.Str) = some (.ref fa) := by
      have e : (HandSHeadRun.topDef Hd.R.prog 59).name = ("law" : PySem.Str) := by kernel_rfl
      rw [← e]
      exact hmg0
    obtain ⟨fd, hb, hF⟩ := Da.facts (P := (PySem.Challenge.rw_urlplaces_k50_wrong_places).prog) (w := w) KX G hmg c
    exact ⟨K, fd, Da.spLaw K, KX, hb, fun H a ns hl _ hS => ⟨ns, hS, fun _ => rfl⟩, hF⟩
